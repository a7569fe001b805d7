/- The program's space, walked: Store, Look. -/
import Derived.Test.YticbbncdcannlaaGreatG13
import Derived.Test.YticbbncdcannlaaGreatG12
import Derived.Test.YticbbncdcannlaaGreatG04

namespace Go.Proofs.YticbbncdcannlaaGreat
open Go.RowKit Go.Maps Go.ChangeMaps Go.MapKept

set_option maxRecDepth 100000 in
set_option maxHeartbeats 2000000 in
theorem xStore_none (p : Nat) (w : World) (kind : Int) (h1 : kind ≠ 1) (h2 : kind ≠ 2) :
    Calls Tryz.prog 27 #[.pointer (some ⟨p, 0, none⟩), .int .i64 kind] w fun e w' => e = .returned (.tuple #[.agg #[.int .i64 0, .int .i64 0, .int .i64 0], .int .i64 3]) ∧ Kp0 w w' := by
  have HS := hid (fun W => xstoreOf_none p W kind h1 h2)
  go_enter Tryz.func27, Tryz.ntmps27
  go_wp2_with fail
  refine (HS.out _).mono ?_
  rintro e w2 ⟨rfl, hw⟩
  obtain rfl := hw.symm
  go_wp2
  go_returns
  exact ⟨rfl, (Kp.refl _ w).alloc _⟩

/-- What Store tells. -/
def XS.told (X : XS) (kind : Int) : Int × Int × Int := if kind = 1 then (X.c1.length, sumTo X.b1 X.b1.length, endTo X.b1 X.b1.length) else (X.c2.length, sumTo X.b2 X.b2.length, endTo X.b2 X.b2.length)

set_option maxRecDepth 100000 in
set_option maxHeartbeats 2000000 in
theorem xStore_some {T : Tags} {o : Nat} {w : World} {p : Nat} {L : XL} {X : XS} (h : XAt T o w p L X) (kind : Int) (hk : kind = 1 ∨ kind = 2) (i1 : bufsIn X.c1.length X.b1) (i2 : bufsIn X.c2.length X.b2) (c1 : X.c1.length ≤ 10000) (c2 : X.c2.length ≤ 10000) (l1 : X.b1.length ≤ 100000000) (l2 : X.b2.length ≤ 100000000) :
    Calls Tryz.prog 27 #[.pointer (some ⟨p, 0, none⟩), .int .i64 kind] w fun e w' => e = .returned (.tuple #[.agg #[.int .i64 (X.told kind).1, .int .i64 (X.told kind).2.1, .int .i64 (X.told kind).2.2], .int .i64 0]) ∧ Kp0 w w' := by
  have HS := hid (fun W (k : Kp0 w W) => xstoreOf_calls (h.kp0 k) kind hk)
  have H1 : Hid (∀ W, Kp0 w W → Calls Tryz.prog 196 #[.pointer (some ⟨L.q1, 0, none⟩)] W fun e w' => e = .returned (.agg #[.int .i64 (X.told 1).1, .int .i64 (X.told 1).2.1, .int .i64 (X.told 1).2.2]) ∧ Kp0 W w') := fun W k => xStateB_calls (h.kp0 k).s1 i1 c1 l1
  have H2 : Hid (∀ W, Kp0 w W → Calls Tryz.prog 216 #[.pointer (some ⟨L.q2, 0, none⟩)] W fun e w' => e = .returned (.agg #[.int .i64 (X.told 2).1, .int .i64 (X.told 2).2.1, .int .i64 (X.told 2).2.2]) ∧ Kp0 W w') := fun W k => xStateI_calls (h.kp0 k).s2 i2 c2 l2
  have HB : Hid ((w.alloc (.cells #[.int .i64 0, .int .i64 0, .int .i64 0] 61)).heap[w.heap.size]? = some (.cells #[.int .i64 0, .int .i64 0, .int .i64 0] 61 (0, 0))) := heap_alloc_new w _
  have HKW : Hid (Kp0 w (w.alloc (.cells #[.int .i64 0, .int .i64 0, .int .i64 0] 61))) := (Kp.refl _ w).alloc _
  have HBB : Hid (w.heap.size = w.heap.size) := rfl
  clear h i1 i2 c1 c2 l1 l2
  rcases hk with rfl | rfl
  · generalize (X.told 1).1 = a1 at *
    generalize (X.told 1).2.1 = a2 at *
    generalize (X.told 1).2.2 = a3 at *
    go_enter Tryz.func27, Tryz.ntmps27
    go_wp2_with fail
    refine (HS.out _ HKW.out).mono ?_
    rintro e w2 ⟨rfl, hw⟩
    obtain rfl := hw.symm
    rw [show L.inV 1 = .iface 126 (.pointer (some ⟨L.q1, 0, none⟩)) from rfl]
    go_wp2_with fail
    refine (H1.out _ HKW.out).mono ?_
    rintro e w3 ⟨rfl, hw⟩
    have HB3 := hid (hw.heap HB.out)
    have HK3 : Hid (Kp0 w w3) := Kp0.trans HKW.out hw
    clear hw
    go_wp2_with (refine wpList_storeRow _ rfl 61 (.tmp 4) _ rfl w.heap.size _ _ rfl rfl HB3.out Tryz.szStoreB rfl (all3 rfl rfl rfl) ?_; intro w5 hB5 hK5)
    (try simp only [Exit.inBlock, Exit.then])
    refine bodyPost_ret (res_cell2 rfl _ _ w.heap.size _ _ _ _ rfl hB5 Tryz.underlying61 rfl Tryz.szStoreB) rfl ?_
    exact ⟨rfl, Kp.trans HK3.out hK5 (fun i hi e => by omega)⟩
  · generalize (X.told 2).1 = a1 at *
    generalize (X.told 2).2.1 = a2 at *
    generalize (X.told 2).2.2 = a3 at *
    go_enter Tryz.func27, Tryz.ntmps27
    go_wp2_with fail
    refine (HS.out _ HKW.out).mono ?_
    rintro e w2 ⟨rfl, hw⟩
    obtain rfl := hw.symm
    rw [show L.inV 2 = .iface 127 (.pointer (some ⟨L.q2, 0, none⟩)) from rfl]
    go_wp2_with fail
    refine (H2.out _ HKW.out).mono ?_
    rintro e w3 ⟨rfl, hw⟩
    have HB3 := hid (hw.heap HB.out)
    have HK3 : Hid (Kp0 w w3) := Kp0.trans HKW.out hw
    clear hw
    go_wp2_with (refine wpList_storeRow _ rfl 61 (.tmp 4) _ rfl w.heap.size _ _ rfl rfl HB3.out Tryz.szStoreB rfl (all3 rfl rfl rfl) ?_; intro w5 hB5 hK5)
    (try simp only [Exit.inBlock, Exit.then])
    refine bodyPost_ret (res_cell2 rfl _ _ w.heap.size _ _ _ _ rfl hB5 Tryz.underlying61 rfl Tryz.szStoreB) rfl ?_
    exact ⟨rfl, Kp.trans HK3.out hK5 (fun i hi e => by omega)⟩

end Go.Proofs.YticbbncdcannlaaGreat

/- The program's space, walked at an array of uint8: Fill, Values. -/
namespace Go.Proofs.YticbbncdcannlaaGreat
open Go.RowKit Go.Maps Go.ChangeMaps Go.MapKept

theorem Tryz.mReadB (a : Addr) (x : Value) (w : World) : (callMethod (.iface 126 (.pointer (some a))) "Read" #[x]).run Tryz.prog w = .ok (.enter 195 #[.pointer (some a), x]) w := by kernel_rfl

theorem Tryz.nReadB (a : Addr) (w : World) : (nilAhead 367 126 (.pointer (some a)) "Read").run Tryz.prog w = .ok (some false) w := by kernel_rfl

set_option maxRecDepth 100000 in
set_option maxHeartbeats 2000000 in
theorem xValuesB {T : Tags} {o : Nat} {w : World} {p : Nat} {L : XL} {X : XS} (h : XAt T o w p L X) (hd : Int) (x : XA) (hA : X.A hd = some x) (hk : x.kind = 1) (hg : GOk x.l x.t x.f X.c1.length) (hw : ∀ j, j < X.c1.length → IntKind.i64.wrap (nth X.c1 j) = nth X.c1 j) :
    Calls Tryz.prog 26 #[.pointer (some ⟨p, 0, none⟩), .int .i64 hd] w fun e w' => ∃ v, e = .returned (.tuple #[v, .int .i64 0]) ∧ NewI w w' v ((gc x.l x.t x.f x.l.length).map fun c => nth X.c1 c.toNat) := by
  have HF := hid (xfind_some h hd x hA (by omega))
  have hlen : (gc x.l x.t x.f x.l.length).length ≤ 1000000 := by
    have h1 := gc_length x.l x.t x.f hg.shape.2.1 x.l.length (Nat.le_refl _)
    rw [List.take_length] at h1
    have := hg.shape.2.2
    omega
  have HC : Hid (∀ W, Kp0 w W → Calls Tryz.prog 60 #[.agg (grC x.l x.t x.f).toArray] W fun e w' => ∃ v, e = .returned v ∧ (NewI W w' v (gc x.l x.t x.f x.l.length) ∧ Kp0 w w')) := fun W k =>
    (xcells_calls x.l x.t x.f _ W hg).mono (fun e w' ⟨v, h1, h2⟩ => ⟨v, h1, h2, by obtain ⟨_, _, _, _, h3, _⟩ := h2; exact Kp0.trans k h3⟩)
  generalize hP : gc x.l x.t x.f x.l.length = P at *
  have hin := hg.inside
  rw [hP] at hin
  have HR : Hid (∀ W vp W0, Kp0 w W → NewI W0 W vp P → Calls Tryz.prog 195 #[.pointer (some ⟨L.q1, 0, none⟩), vp] W fun e w' => ∃ v, e = .returned v ∧ NewI w w' v (P.map fun c => nth X.c1 c.toNat)) := fun W vp W0 k hn => by
    have hr0 : RdI W vp P := by obtain ⟨_, _, rfl, h1, _⟩ := hn; exact h1.rd
    refine (xReadB_calls (h.kp0 k).s1 P vp hr0 hin hw hlen).mono ?_
    rintro e w' ⟨v, rfl, ao, c, rfl, h1, h2, h3⟩
    exact ⟨_, rfl, ao, c, rfl, h1, Kp0.trans k h2, fun b hb => Nat.le_trans k.size (h3 b hb)⟩
  generalize (P.map fun c => nth X.c1 c.toNat) = V at *
  unfold grC at HC
  rw [hk, inVB] at HF
  unfold XA.cs at HF
  rw [hk] at HF
  have HMR := hid (Tryz.mReadB ⟨L.q1, 0, none⟩)
  clear h hA hg hw hlen hP hin
  go_enter Tryz.func26, Tryz.ntmps26
  go_wp2_with fail
  refine HF.out.mono ?_
  rintro e w2 ⟨rfl, hw⟩
  have HK := hid hw
  clear hw
  have HB : Hid ((w2.alloc (.cells #[.int .i64 1, .int .i64 x.buf, .int .i64 (nth x.l 0), .int .i64 (nth x.l 1), .int .i64 (nth x.l 2), .int .i64 (nth x.l 3), .int .i64 (x.l.length : Int), .int .i64 x.f, .int .i64 (nth x.t 0), .int .i64 (nth x.t 1), .int .i64 (nth x.t 2), .int .i64 (nth x.t 3), .bool x.ro] 109)).heap[w2.heap.size]? = some (.cells #[.int .i64 1, .int .i64 x.buf, .int .i64 (nth x.l 0), .int .i64 (nth x.l 1), .int .i64 (nth x.l 2), .int .i64 (nth x.l 3), .int .i64 (x.l.length : Int), .int .i64 x.f, .int .i64 (nth x.t 0), .int .i64 (nth x.t 1), .int .i64 (nth x.t 2), .int .i64 (nth x.t 3), .bool x.ro] 109 (0, 0))) := heap_alloc_new w2 _
  have HKW : Hid (Kp0 w (w2.alloc (.cells #[.int .i64 1, .int .i64 x.buf, .int .i64 (nth x.l 0), .int .i64 (nth x.l 1), .int .i64 (nth x.l 2), .int .i64 (nth x.l 3), .int .i64 (x.l.length : Int), .int .i64 x.f, .int .i64 (nth x.t 0), .int .i64 (nth x.t 1), .int .i64 (nth x.t 2), .int .i64 (nth x.t 3), .bool x.ro] 109))) := HK.out.alloc _
  go_wp2
  generalize w2.alloc (.cells #[.int .i64 1, .int .i64 x.buf, .int .i64 (nth x.l 0), .int .i64 (nth x.l 1), .int .i64 (nth x.l 2), .int .i64 (nth x.l 3), .int .i64 (x.l.length : Int), .int .i64 x.f, .int .i64 (nth x.t 0), .int .i64 (nth x.t 1), .int .i64 (nth x.t 2), .int .i64 (nth x.t 3), .bool x.ro] 109) = W at HB HKW ⊢
  generalize w2.heap.size = b at HB ⊢
  obtain ⟨z0, z1, z2, z3, z4, z5, z6, z7, z8, z9, z10, z11, z12⟩ := cells13 HB.out
  have HKD : Hid (Kp0 w W.drew) := HKW.out.drew
  have hna := Tryz.nReadB ⟨L.q1, 0, none⟩
  go_region_law ((first
    | (refine step_call1 (by rfl) 60 (.tmp 21) _ (by rfl) _ Tryz.func60 (by kernel_rfl) (by kernel_rfl) _ (by rfl) (HC.out _ HKD.out) ?_; intro v7 w7 hR; obtain ⟨hn7, hk7⟩ := hR)
    | (refine step_invoke1 (by rfl) (.tmp 25) "Read" (.tmp 22) _ (by rfl) _ v7 (by rfl) (by rfl) _ _ (HMR.out v7 w7) (HR.out w7 v7 W.drew hk7 hn7) ?_; intro v8 w8 hR8)))
  all_goals
    have HR8 := hid hR8
    clear hR8 hn7 hk7
    go_wp2
    go_ret2
    exact ⟨v8, rfl, HR8.out⟩

end Go.Proofs.YticbbncdcannlaaGreat

/- The program's space, walked at an array of int64: Fill, Values. -/
namespace Go.Proofs.YticbbncdcannlaaGreat
open Go.RowKit Go.Maps Go.ChangeMaps Go.MapKept

theorem Tryz.mReadI (a : Addr) (x : Value) (w : World) : (callMethod (.iface 127 (.pointer (some a))) "Read" #[x]).run Tryz.prog w = .ok (.enter 215 #[.pointer (some a), x]) w := by kernel_rfl

theorem Tryz.nReadI (a : Addr) (w : World) : (nilAhead 367 127 (.pointer (some a)) "Read").run Tryz.prog w = .ok (some false) w := by kernel_rfl

set_option maxRecDepth 100000 in
set_option maxHeartbeats 2000000 in
theorem xValuesI {T : Tags} {o : Nat} {w : World} {p : Nat} {L : XL} {X : XS} (h : XAt T o w p L X) (hd : Int) (x : XA) (hA : X.A hd = some x) (hk : x.kind = 2) (hg : GOk x.l x.t x.f X.c2.length) (hw : ∀ j, j < X.c2.length → IntKind.i64.wrap (nth X.c2 j) = nth X.c2 j) :
    Calls Tryz.prog 26 #[.pointer (some ⟨p, 0, none⟩), .int .i64 hd] w fun e w' => ∃ v, e = .returned (.tuple #[v, .int .i64 0]) ∧ NewI w w' v ((gc x.l x.t x.f x.l.length).map fun c => nth X.c2 c.toNat) := by
  have HF := hid (xfind_some h hd x hA (by omega))
  have hlen : (gc x.l x.t x.f x.l.length).length ≤ 1000000 := by
    have h1 := gc_length x.l x.t x.f hg.shape.2.1 x.l.length (Nat.le_refl _)
    rw [List.take_length] at h1
    have := hg.shape.2.2
    omega
  have HC : Hid (∀ W, Kp0 w W → Calls Tryz.prog 60 #[.agg (grC x.l x.t x.f).toArray] W fun e w' => ∃ v, e = .returned v ∧ (NewI W w' v (gc x.l x.t x.f x.l.length) ∧ Kp0 w w')) := fun W k =>
    (xcells_calls x.l x.t x.f _ W hg).mono (fun e w' ⟨v, h1, h2⟩ => ⟨v, h1, h2, by obtain ⟨_, _, _, _, h3, _⟩ := h2; exact Kp0.trans k h3⟩)
  generalize hP : gc x.l x.t x.f x.l.length = P at *
  have hin := hg.inside
  rw [hP] at hin
  have HR : Hid (∀ W vp W0, Kp0 w W → NewI W0 W vp P → Calls Tryz.prog 215 #[.pointer (some ⟨L.q2, 0, none⟩), vp] W fun e w' => ∃ v, e = .returned v ∧ NewI w w' v (P.map fun c => nth X.c2 c.toNat)) := fun W vp W0 k hn => by
    have hr0 : RdI W vp P := by obtain ⟨_, _, rfl, h1, _⟩ := hn; exact h1.rd
    refine (xReadI_calls (h.kp0 k).s2 P vp hr0 hin hw hlen).mono ?_
    rintro e w' ⟨v, rfl, ao, c, rfl, h1, h2, h3⟩
    exact ⟨_, rfl, ao, c, rfl, h1, Kp0.trans k h2, fun b hb => Nat.le_trans k.size (h3 b hb)⟩
  generalize (P.map fun c => nth X.c2 c.toNat) = V at *
  unfold grC at HC
  rw [hk, inVI] at HF
  unfold XA.cs at HF
  rw [hk] at HF
  have HMR := hid (Tryz.mReadI ⟨L.q2, 0, none⟩)
  clear h hA hg hw hlen hP hin
  go_enter Tryz.func26, Tryz.ntmps26
  go_wp2_with fail
  refine HF.out.mono ?_
  rintro e w2 ⟨rfl, hw⟩
  have HK := hid hw
  clear hw
  have HB : Hid ((w2.alloc (.cells #[.int .i64 2, .int .i64 x.buf, .int .i64 (nth x.l 0), .int .i64 (nth x.l 1), .int .i64 (nth x.l 2), .int .i64 (nth x.l 3), .int .i64 (x.l.length : Int), .int .i64 x.f, .int .i64 (nth x.t 0), .int .i64 (nth x.t 1), .int .i64 (nth x.t 2), .int .i64 (nth x.t 3), .bool x.ro] 109)).heap[w2.heap.size]? = some (.cells #[.int .i64 2, .int .i64 x.buf, .int .i64 (nth x.l 0), .int .i64 (nth x.l 1), .int .i64 (nth x.l 2), .int .i64 (nth x.l 3), .int .i64 (x.l.length : Int), .int .i64 x.f, .int .i64 (nth x.t 0), .int .i64 (nth x.t 1), .int .i64 (nth x.t 2), .int .i64 (nth x.t 3), .bool x.ro] 109 (0, 0))) := heap_alloc_new w2 _
  have HKW : Hid (Kp0 w (w2.alloc (.cells #[.int .i64 2, .int .i64 x.buf, .int .i64 (nth x.l 0), .int .i64 (nth x.l 1), .int .i64 (nth x.l 2), .int .i64 (nth x.l 3), .int .i64 (x.l.length : Int), .int .i64 x.f, .int .i64 (nth x.t 0), .int .i64 (nth x.t 1), .int .i64 (nth x.t 2), .int .i64 (nth x.t 3), .bool x.ro] 109))) := HK.out.alloc _
  go_wp2
  generalize w2.alloc (.cells #[.int .i64 2, .int .i64 x.buf, .int .i64 (nth x.l 0), .int .i64 (nth x.l 1), .int .i64 (nth x.l 2), .int .i64 (nth x.l 3), .int .i64 (x.l.length : Int), .int .i64 x.f, .int .i64 (nth x.t 0), .int .i64 (nth x.t 1), .int .i64 (nth x.t 2), .int .i64 (nth x.t 3), .bool x.ro] 109) = W at HB HKW ⊢
  generalize w2.heap.size = b at HB ⊢
  obtain ⟨z0, z1, z2, z3, z4, z5, z6, z7, z8, z9, z10, z11, z12⟩ := cells13 HB.out
  have HKD : Hid (Kp0 w W.drew) := HKW.out.drew
  have hna := Tryz.nReadI ⟨L.q2, 0, none⟩
  go_region_law ((first
    | (refine step_call1 (by rfl) 60 (.tmp 21) _ (by rfl) _ Tryz.func60 (by kernel_rfl) (by kernel_rfl) _ (by rfl) (HC.out _ HKD.out) ?_; intro v7 w7 hR; obtain ⟨hn7, hk7⟩ := hR)
    | (refine step_invoke1 (by rfl) (.tmp 25) "Read" (.tmp 22) _ (by rfl) _ v7 (by rfl) (by rfl) _ _ (HMR.out v7 w7) (HR.out w7 v7 W.drew hk7 hn7) ?_; intro v8 w8 hR8)))
  all_goals
    have HR8 := hid hR8
    clear hR8 hn7 hk7
    go_wp2
    go_ret2
    exact ⟨v8, rfl, HR8.out⟩

end Go.Proofs.YticbbncdcannlaaGreat

/- The program's calls in the document's words: Get, Set, Fill, Values, Look. -/
namespace Go.Proofs.YticbbncdcannlaaGreat
open Go.RowKit

/-- The program's space holds the document's state. -/
def XRep (T : Tags) (o : Nat) (w : World) (p : Nat) (σ : Sp) : Prop := σ.ok ∧ ∃ L X, XAt T o w p L X ∧ Tie X (Maps.size L.D) σ

theorem XRep.kp {T : Tags} {o : Nat} {Z : Nat → Prop} {w w' : World} {p : Nat} {σ : Sp} (h : XRep T o w p σ) (k : Kp Z w w') (hs : ∀ b, (T b).1 = o → ¬ Z b) : XRep T o w' p σ := by
  obtain ⟨h1, L, X, h2, h3⟩ := h
  exact ⟨h1, L, X, h2.kp k hs, h3⟩
theorem XRep.tags {T T' : Tags} {o : Nat} {w : World} {p : Nat} {σ : Sp} (h : XRep T o w p σ) (k : TagsTo w T T') : XRep T' o w p σ := by
  obtain ⟨h1, L, X, h2, h3⟩ := h
  exact ⟨h1, L, X, h2.tags k, h3⟩

theorem XRep.stay {T : Tags} {o : Nat} {w w' : World} {p : Nat} {σ : Sp} (h : XRep T o w p σ) (k : Kp0 w w') : Step XRep T o w p σ w' :=
  ⟨T, fun _ _ => rfl, h.kp k (fun _ _ e => e), Kp.of0 k⟩

theorem XRep.stayL {T : Tags} {o : Nat} {w w' : World} {p : Nat} {σ : Sp} {v : Value} {xs : List Int} (t : Nat × Nat) (h : XRep T o w p σ) (hn : NewI w w' v xs) : StepL XRep T o w p σ w' t v xs := by
  obtain ⟨ao, c, rfl, h1, h2, h3⟩ := hn
  exact ⟨retag w T t, retag_to w T t, (h.tags (retag_to w T t)).kp h2 (fun _ _ e => e), Kp.of0 h2, ao, c, rfl, h1, fun b hb => retag_new (h3 b hb), h3⟩

theorem kind_of {σ : Sp} (hok : σ.ok) {h : Int} {a : Arr} (hf : σ.find h = some a) : a.ok σ := by
  unfold Sp.find at hf
  split at hf
  · have hg : σ.arrs[ix h]? = some (some a) := by
      cases e : σ.arrs[ix h]? with
      | none => simp [List.getD, e] at hf
      | some y => simp [List.getD, e] at hf; rw [hf]
    exact hok.arr _ a hg
  · cases hf

theorem xc_set {T : Tags} {o : Nat} {w : World} {p : Nat} {σ : Sp} (h v : Int) (vi : Value) (i : List Int) (hR : XRep T o w p σ) (hr : RdI w vi i) (hv : IntKind.i64.wrap v = v) :
    Calls Tryz.prog 36 #[.pointer (some ⟨p, 0, none⟩), .int .i64 h, .int .i64 v, vi] w fun e w' => e = .returned (.int .i64 (σ.set h v i).2) ∧ Step XRep T o w p (σ.set h v i).1 w' := by
  have hR' := hR
  obtain ⟨hok, L, X, hX, hT⟩ := hR
  cases hf : σ.find h with
  | none =>
    have hres : σ.set h v i = (σ, 2) := by simp [Sp.set, hf]
    rw [hres]
    refine (xSet_none hX h v vi (hT.non h hf)).mono ?_
    rintro e w' ⟨rfl, hk⟩
    exact ⟨rfl, hR'.stay hk⟩
  | some a =>
    obtain ⟨x, hA, hx⟩ := hT.som h a hf
    have ha := kind_of hok hf
    have hkd : x.kind = 1 ∨ x.kind = 2 := by rw [hx.kind]; exact ha.kind
    cases hro : x.ro with
    | true =>
      have hres : σ.set h v i = (σ, 6) := by simp [Sp.set, hf, ← hx.ro, hro]
      rw [hres]
      refine (xSet_ro hX h v vi x hA hkd hro).mono ?_
      rintro e w' ⟨rfl, hk⟩
      exact ⟨rfl, hR'.stay hk⟩
    | false =>
      cases hin : inBb x.l i with
      | false =>
        have hrk := hx.none i hin
        have hres : σ.set h v i = (σ, 5) := by simp [Sp.set, hf, ← hx.ro, hro, hrk]
        rw [hres]
        rcases ha.kind with hk | hk
        · refine (xSetNoB hX h v x hA (by rw [hx.kind, hk]) hro vi i hr hx.g.shape.1 hin).mono ?_
          rintro e w' ⟨rfl, hk'⟩
          exact ⟨rfl, hR'.stay hk'⟩
        · refine (xSetNoI hX h v x hA (by rw [hx.kind, hk]) hro vi i hr hx.g.shape.1 hin).mono ?_
          rintro e w' ⟨rfl, hk'⟩
          exact ⟨rfl, hR'.stay hk'⟩
      | true =>
        obtain ⟨r1, r2, r3⟩ := hx.at i hin
        have hbd := ha.inside _ r2
        have htk := hx.taken hf _ r2
        have hres : σ.set h v i = (σ.put a.kind (nth a.cells (rank a.shape i).toNat).toNat (asK a.kind v), 0) := by
          simp only [Sp.set, hf]
          rw [if_neg (by rw [← hx.ro, hro]; simp), if_neg (by omega)]
        rw [hres]
        rcases ha.kind with hk | hk
        · have hg := hx.g
          rw [hk, ← hT.k1.len] at hg
          rw [hk] at htk hbd ⊢
          have hw1 : IntKind.wrap .u8 v = asK 1 v := by rw [wrap_u8]; simp [asK]
          have hn := hT.putB hok (nth a.cells (rank a.shape i).toNat).toNat (by omega) (by rw [show (((nth a.cells (rank a.shape i).toNat).toNat : Nat) : Int) = nth a.cells (rank a.shape i).toNat by omega]; exact htk) (asK 1 v) (by simp only [asK, if_true]; omega)
          refine (xSetYesB hX h v x hA (by rw [hx.kind, hk]) hro vi i hr hg hin hv).mono ?_
          rintro e w' ⟨rfl, hk', hX'⟩
          rw [← r3, hw1] at hX'
          exact ⟨rfl, T, fun _ _ => rfl, (⟨put_ok hok _ _ _, L, _, hX', hn⟩ : XRep T o w' p (σ.put _ _ _)), hk'⟩
        · have hg := hx.g
          rw [hk, ← hT.k2.len] at hg
          rw [hk] at htk hbd ⊢
          have hw2 : IntKind.wrap .i64 v = asK 2 v := by rw [hv]; simp [asK]
          have hn := hT.putI hok (nth a.cells (rank a.shape i).toNat).toNat (by omega) (by rw [show (((nth a.cells (rank a.shape i).toNat).toNat : Nat) : Int) = nth a.cells (rank a.shape i).toNat by omega]; exact htk) (asK 2 v) (by rw [← hw2, hv]; exact hv)
          refine (xSetYesI hX h v x hA (by rw [hx.kind, hk]) hro vi i hr hg hin hv).mono ?_
          rintro e w' ⟨rfl, hk', hX'⟩
          rw [← r3, hw2] at hX'
          exact ⟨rfl, T, fun _ _ => rfl, (⟨put_ok hok _ _ _, L, _, hX', hn⟩ : XRep T o w' p (σ.put _ _ _)), hk'⟩

theorem values_eq {σ : Sp} {h : Int} {a : Arr} {x : XA} (hx : ATie σ a x) (hf : σ.find h = some a) (ha : a.ok σ) {c : List Int} {bs : List (Int × Int)} (hk : KTie σ a.kind c bs) : ((gc x.l x.t x.f x.l.length).map fun y => nth c y.toNat) = σ.valuesOf a := by
  rw [hx.cells]
  unfold Sp.valuesOf
  apply List.map_congr_left
  intro y hy
  obtain ⟨j, hj, e⟩ := List.getElem_of_mem hy
  have e' : nth a.cells j = y := by rw [nth_lt hj]; exact e
  have h1 := ha.inside j hj
  have h2 := hx.taken hf j hj
  rw [e'] at h1 h2
  exact hk.at y h1.1 h1.2 h2

theorem xc_values {T : Tags} {o : Nat} {w : World} {p : Nat} {σ : Sp} (h : Int) (t : Nat × Nat) (hR : XRep T o w p σ) :
    Calls Tryz.prog 26 #[.pointer (some ⟨p, 0, none⟩), .int .i64 h] w fun e w' => ∃ v, e = .returned (.tuple #[v, .int .i64 (σ.values h).2]) ∧ StepL XRep T o w p σ w' t v (σ.values h).1 := by
  have hR' := hR
  obtain ⟨hok, L, X, hX, hT⟩ := hR
  cases hf : σ.find h with
  | none =>
    have hres : σ.values h = ([], 2) := by simp [Sp.values, hf]
    rw [hres]
    refine (xValues_none hX h (hT.non h hf)).mono ?_
    rintro e w' ⟨rfl, hk⟩
    exact ⟨_, rfl, hR'.stayL t (NewI.nil hk)⟩
  | some a =>
    obtain ⟨x, hA, hx⟩ := hT.som h a hf
    have ha := kind_of hok hf
    have hres : σ.values h = (σ.valuesOf a, 0) := by simp [Sp.values, hf]
    rw [hres]
    rcases ha.kind with hk | hk
    · have hg := hx.g
      rw [hk, ← hT.k1.len] at hg
      have hv := values_eq hx hf ha (c := X.c1) (bs := X.b1) (by rw [hk]; exact hT.k1)
      refine (xValuesB hX h x hA (by rw [hx.kind, hk]) hg (hT.k1.wrap (.inl rfl))).mono ?_
      rintro e w' ⟨v, rfl, hn⟩
      rw [hv] at hn
      exact ⟨v, rfl, hR'.stayL t hn⟩
    · have hg := hx.g
      rw [hk, ← hT.k2.len] at hg
      have hv := values_eq hx hf ha (c := X.c2) (bs := X.b2) (by rw [hk]; exact hT.k2)
      refine (xValuesI hX h x hA (by rw [hx.kind, hk]) hg (hT.k2.wrap (.inr rfl))).mono ?_
      rintro e w' ⟨v, rfl, hn⟩
      rw [hv] at hn
      exact ⟨v, rfl, hR'.stayL t hn⟩

end Go.Proofs.YticbbncdcannlaaGreat

/- The program's space, walked: isUsed. -/
namespace Go.Proofs.YticbbncdcannlaaGreat
open Go.RowKit Go.Maps Go.ChangeMaps Go.MapKept

/-- A step of the range over the map of arrays. -/
theorem wpList_next_xa (w : World) {ops : Array Oper} {rest : List Oper} {o : Oper} {a : Act} {Q : Exit → Act → World → Prop} (hg : o.guard = none) (it : Operand) (hop : o.op = Op.next it false) (b r n : Nat) (D : DataW Value) (A : Int → Option XA) (left : Lit → Bool) (cnt : Nat)
    (hit : a.eval it = .pointer (some ⟨r, 0, none⟩)) (h : w.ranges Tryz.prog 3 elemR b r n D left cnt) (hm : XMap D A)
    (hDone : (∀ kl, left kl = false) → wpList Tryz.prog ops Q rest (a.put o.dst (.tuple #[.bool false])) w)
    (hMore : ∀ (k : Int) (x : XA) (w' : World) (cnt' : Nat), A k = some x → left (.int .i64 k) = true → w'.ranges Tryz.prog 3 elemR b r n D (fun z => left z && !z.sameKey (.int .i64 k)) cnt' → cnt' < cnt → w.grownBy w' (some r) → w'.heap.size = w.heap.size →
      (Instr.entry (.pointer (some ⟨r, 0, none⟩))).run Tryz.prog w' = .ok (.tuple #[.int .i64 k, .agg x.cs]) w' → wpList Tryz.prog ops Q rest (a.put o.dst (.tuple #[.bool true, .int .i64 k, .agg x.cs])) w') :
    wpList Tryz.prog ops Q (o :: rest) a w :=
  wpList_next_ranges w hg it hop 3 Tryz.lawInt elemR (Value.int .i64) (fun v : Value => v) (fun key kl hkey => by obtain ⟨x, rfl, _⟩ := Maps.keyOf_int_inv Tryz.underlying3 hkey; exact ⟨x, rfl⟩) (fun v y _ => ⟨v, rfl⟩) b r n D left cnt hit h (fun _ hl => hDone hl)
    (fun k v kl y w' cnt' hkey hlk hv hat hrg hlt hgr hsz hen => by
      obtain ⟨k', ek, rfl, hwk⟩ := Maps.keyOf_int_inv Tryz.underlying3 hkey
      cases ek
      have hh := Maps.has_true_of_atKey hat
      cases hA : A k with
      | none => rw [hm.non k hA] at hh; cases hh
      | some x =>
        obtain ⟨-, -, h3⟩ := hm.som k x hA
        have e1 : y.1 = .held (.agg x.cs) := (hat .nil).symm.trans (h3 .nil)
        have e2 : v = .agg x.cs := by
          simp only [elemR, Option.some.injEq] at hv
          rw [← hv] at e1
          injection e1
        subst e2
        exact hMore k x w' cnt' hA hlk hrg hlt hgr hsz hen)

set_option maxRecDepth 100000 in
set_option maxHeartbeats 4000000 in
theorem xisUsed_calls {T : Tags} {o : Nat} {w : World} {p : Nat} {L : XL} {X : XS} (h : XAt T o w p L X) (kind buf : Int) :
    Calls Tryz.prog 61 #[.pointer (some ⟨p, 0, none⟩), .int .i64 kind, .int .i64 buf] w fun e w' => ∃ u, e = .returned (.bool u) ∧ (u = true ↔ ∃ a x, X.A a = some x ∧ x.kind = kind ∧ x.buf = buf) ∧ Kp0 w w' := by
  obtain ⟨z0, z1, z2, z3⟩ := cells4 h.blk
  have HM := hid h.map
  have HE := hid h.ent
  clear h
  go_enter Tryz.func61, Tryz.ntmps61
  go_wp2_with (first | (at_range; refine wpList_range_own _ rfl _ 128 rfl 3 109 Tryz.lawInt Tryz.underlying128 _ L.bm _ L.D rfl HM.out ?_; intro w0 hrg0 hg0 hs0) | go_in)
  go_frame
  obtain ⟨r, hr⟩ : ∃ r, w.heap.size = r := ⟨_, rfl⟩
  rw [hr] at hrg0 ⊢
  have HRG := hid hrg0
  have HK0 : Hid (Kp0 w w0) := Kp.grown (Kp.refl _ w) hg0 (fun k e => by cases e)
  have HRR := hid hr
  clear hrg0 hg0 hs0 hr z0 z1 z2 z3
  go_loopw [8, 14] (fun _ _ wr => ∃ left cnt, Hid (wr.ranges Tryz.prog 3 elemR L.bm r X.last L.D left cnt) ∧ Hid (∀ a x, X.A a = some x → left (.int .i64 a) = false → ¬ (x.kind = kind ∧ x.buf = buf)) ∧ Hid (Kp0 w wr)) (fun _ _ wr => wr.rangeLeft L.bm r)
  case atStart => exact ⟨_, _, HRG, hid (fun a x hA hl => by have := (HE.out.som a x hA).2.1; rw [this] at hl; cases hl), HK0⟩
  case round =>
    clear HRG HK0
    obtain ⟨left, cnt, HRG, HN, HK⟩ := hrel
    go_wp2_with (first | (at_next; refine wpList_next_xa _ rfl _ rfl L.bm r X.last L.D X.A left cnt rfl HRG.out HE.out ?_ ?_) | go_in)
    · intro hl0
      have HF : Hid (¬ ∃ a x, X.A a = some x ∧ x.kind = kind ∧ x.buf = buf) := hid (fun ⟨a, x, hA, hx⟩ => HN.out a x hA (hl0 _) hx)
      clear hl0
      go_wp2
      go_ret
      exact ⟨false, rfl, ⟨fun e => (Bool.noConfusion e), fun e => absurd e HF.out⟩, HK.out⟩
    · intro k x w1 cnt1 hA hlk hrg1 hlt hgr hsz hen
      have HA := hid hA
      have HRG1 := hid hrg1
      have HLT := hid hlt
      have HK1 : Hid (Kp0 w w1) := Kp.grown HK.out hgr (fun j e h => by cases e; have := HRR.out; omega)
      have HEN := hid hen
      unfold XA.cs at hen ⊢
      clear hA hlk hrg1 hlt hgr hsz
      by_cases hk1 : x.kind = kind
      · have d1 : (x.kind == kind) = true := by simp [hk1]
        by_cases hk2 : x.buf = buf
        · have d2 : (x.buf == buf) = true := by simp [hk2]
          have HX : Hid (∃ a x, X.A a = some x ∧ x.kind = kind ∧ x.buf = buf) := ⟨k, x, HA.out, hk1, hk2⟩
          clear hk1 hk2
          go_wp2
          go_ret
          exact ⟨true, rfl, ⟨fun _ => HX.out, fun _ => rfl⟩, HK1.out.alloc _⟩
        · have d2 : (x.buf == buf) = false := by simp [hk2]
          have HX : Hid (¬ (x.kind = kind ∧ x.buf = buf)) := fun e => hk2 e.2
          clear hk1 hk2
          go_wp2
          go_roundw
          case rel =>
            refine ⟨_, _, HRG1.out.alloc _, hid (fun a y hy hl => ?_), HK1.out.alloc _⟩
            by_cases ha : a = k
            · subst ha; rw [HA.out] at hy; cases hy; exact HX.out
            · refine HN.out a y hy ?_
              have : (Lit.int .i64 a).sameKey (.int .i64 k) = false := Maps.sameKey_ne (by simpa using ha)
              rw [this] at hl
              simpa using hl
          case measure =>
            rw [(HRG1.out.alloc _).left_eq, HRG.out.left_eq]
            exact HLT.out
      · have d1 : (x.kind == kind) = false := by simp [hk1]
        have HX : Hid (¬ (x.kind = kind ∧ x.buf = buf)) := fun e => hk1 e.1
        clear hk1
        go_wp2
        go_roundw
        case rel =>
          refine ⟨_, _, HRG1.out.alloc _, hid (fun a y hy hl => ?_), HK1.out.alloc _⟩
          by_cases ha : a = k
          · subst ha; rw [HA.out] at hy; cases hy; exact HX.out
          · refine HN.out a y hy ?_
            have : (Lit.int .i64 a).sameKey (.int .i64 k) = false := Maps.sameKey_ne (by simpa using ha)
            rw [this] at hl
            simpa using hl
        case measure =>
          rw [(HRG1.out.alloc _).left_eq, HRG.out.left_eq]
          exact HLT.out

end Go.Proofs.YticbbncdcannlaaGreat
