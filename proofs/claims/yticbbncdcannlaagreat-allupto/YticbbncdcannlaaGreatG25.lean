/- The program's space, walked at an array of uint8: Fill, Values. -/
import Derived.Test.YticbbncdcannlaaGreatG21
import Derived.Test.YticbbncdcannlaaGreatG20
import Derived.Test.YticbbncdcannlaaGreatG24
import Derived.Test.YticbbncdcannlaaGreatG05
import Derived.Test.YticbbncdcannlaaGreatG23
import Derived.Test.YticbbncdcannlaaGreatG22

namespace Go.Proofs.YticbbncdcannlaaGreat
open Go.RowKit Go.Maps Go.ChangeMaps Go.MapKept

theorem Tryz.mFillB (a : Addr) (x y : Value) (w : World) : (callMethod (.iface 126 (.pointer (some a))) "Fill" #[x, y]).run Tryz.prog w = .ok (.enter 193 #[.pointer (some a), x, y]) w := by kernel_rfl
theorem Tryz.mReadB (a : Addr) (x : Value) (w : World) : (callMethod (.iface 126 (.pointer (some a))) "Read" #[x]).run Tryz.prog w = .ok (.enter 195 #[.pointer (some a), x]) w := by kernel_rfl

theorem Tryz.nFillB (a : Addr) (w : World) : (nilAhead 367 126 (.pointer (some a)) "Fill").run Tryz.prog w = .ok (some false) w := by kernel_rfl
theorem Tryz.nReadB (a : Addr) (w : World) : (nilAhead 367 126 (.pointer (some a)) "Read").run Tryz.prog w = .ok (some false) w := by kernel_rfl

set_option maxRecDepth 100000 in
set_option maxHeartbeats 2000000 in
theorem xValuesB {T : Tags} {o : Nat} {w : World} {p : Nat} {L : XL} {X : XS} (h : XAt T o w p L X) (hd : Int) (x : XA) (hA : X.A hd = some x) (hk : x.kind = 1) (hg : GOk x.l x.t x.f X.c1.length) (hw : ∀ j, j < X.c1.length → IntKind.i64.wrap (nth X.c1 j) = nth X.c1 j) :
    Calls Tryz.prog 26 #[.pointer (some ⟨p, 0, none⟩), .int .i64 hd] w fun e w' => ∃ v, e = .returned (.tuple #[v, .int .i64 0]) ∧ NewI w w' v ((gc x.l x.t x.f x.l.length).map fun c => nth X.c1 c.toNat) := by
  have HF := hid (xfind_some h hd x hA (by omega))
  have hlen : (gc x.l x.t x.f x.l.length).length ≤ 1000000 := by
    have h1 := gc_length x.l x.t x.f hg.shape.2.1 x.l.length (Nat.le_refl _)
    rw [List.take_length] at h1
    have := hg.shape.2.2
    omega
  have HC : Hid (∀ W, Kp0 w W → Calls Tryz.prog 60 #[.agg (grC x.l x.t x.f).toArray] W fun e w' => ∃ v, e = .returned v ∧ (NewI W w' v (gc x.l x.t x.f x.l.length) ∧ Kp0 w w')) := fun W k =>
    (xcells_calls x.l x.t x.f _ W hg).mono (fun e w' ⟨v, h1, h2⟩ => ⟨v, h1, h2, by obtain ⟨_, _, _, _, h3, _⟩ := h2; exact Kp0.trans k h3⟩)
  generalize hP : gc x.l x.t x.f x.l.length = P at *
  have hin := hg.inside
  rw [hP] at hin
  have HR : Hid (∀ W vp W0, Kp0 w W → NewI W0 W vp P → Calls Tryz.prog 195 #[.pointer (some ⟨L.q1, 0, none⟩), vp] W fun e w' => ∃ v, e = .returned v ∧ NewI w w' v (P.map fun c => nth X.c1 c.toNat)) := fun W vp W0 k hn => by
    have hr0 : RdI W vp P := by obtain ⟨_, _, rfl, h1, _⟩ := hn; exact h1.rd
    refine (xReadB_calls (h.kp0 k).s1 P vp hr0 hin hw hlen).mono ?_
    rintro e w' ⟨v, rfl, ao, c, rfl, h1, h2, h3⟩
    exact ⟨_, rfl, ao, c, rfl, h1, Kp0.trans k h2, fun b hb => Nat.le_trans k.size (h3 b hb)⟩
  generalize (P.map fun c => nth X.c1 c.toNat) = V at *
  unfold grC at HC
  rw [hk, inVB] at HF
  unfold XA.cs at HF
  rw [hk] at HF
  have HMR := hid (Tryz.mReadB ⟨L.q1, 0, none⟩)
  clear h hA hg hw hlen hP hin
  go_enter Tryz.func26, Tryz.ntmps26
  go_wp2_with fail
  refine HF.out.mono ?_
  rintro e w2 ⟨rfl, hw⟩
  have HK := hid hw
  clear hw
  have HB : Hid ((w2.alloc (.cells #[.int .i64 1, .int .i64 x.buf, .int .i64 (nth x.l 0), .int .i64 (nth x.l 1), .int .i64 (nth x.l 2), .int .i64 (nth x.l 3), .int .i64 (x.l.length : Int), .int .i64 x.f, .int .i64 (nth x.t 0), .int .i64 (nth x.t 1), .int .i64 (nth x.t 2), .int .i64 (nth x.t 3), .bool x.ro] 109)).heap[w2.heap.size]? = some (.cells #[.int .i64 1, .int .i64 x.buf, .int .i64 (nth x.l 0), .int .i64 (nth x.l 1), .int .i64 (nth x.l 2), .int .i64 (nth x.l 3), .int .i64 (x.l.length : Int), .int .i64 x.f, .int .i64 (nth x.t 0), .int .i64 (nth x.t 1), .int .i64 (nth x.t 2), .int .i64 (nth x.t 3), .bool x.ro] 109 (0, 0))) := heap_alloc_new w2 _
  have HKW : Hid (Kp0 w (w2.alloc (.cells #[.int .i64 1, .int .i64 x.buf, .int .i64 (nth x.l 0), .int .i64 (nth x.l 1), .int .i64 (nth x.l 2), .int .i64 (nth x.l 3), .int .i64 (x.l.length : Int), .int .i64 x.f, .int .i64 (nth x.t 0), .int .i64 (nth x.t 1), .int .i64 (nth x.t 2), .int .i64 (nth x.t 3), .bool x.ro] 109))) := HK.out.alloc _
  go_wp2
  generalize w2.alloc (.cells #[.int .i64 1, .int .i64 x.buf, .int .i64 (nth x.l 0), .int .i64 (nth x.l 1), .int .i64 (nth x.l 2), .int .i64 (nth x.l 3), .int .i64 (x.l.length : Int), .int .i64 x.f, .int .i64 (nth x.t 0), .int .i64 (nth x.t 1), .int .i64 (nth x.t 2), .int .i64 (nth x.t 3), .bool x.ro] 109) = W at HB HKW ⊢
  generalize w2.heap.size = b at HB ⊢
  obtain ⟨z0, z1, z2, z3, z4, z5, z6, z7, z8, z9, z10, z11, z12⟩ := cells13 HB.out
  have HKD : Hid (Kp0 w W.drew) := HKW.out.drew
  have hna := Tryz.nReadB ⟨L.q1, 0, none⟩
  go_region_law ((first
    | (refine step_call1 (by rfl) 60 (.tmp 21) _ (by rfl) _ Tryz.func60 (by kernel_rfl) (by kernel_rfl) _ (by rfl) (HC.out _ HKD.out) ?_; intro v7 w7 hR; obtain ⟨hn7, hk7⟩ := hR)
    | (refine step_invoke1 (by rfl) (.tmp 25) "Read" (.tmp 22) _ (by rfl) _ v7 (by rfl) (by rfl) _ _ (HMR.out v7 w7) (HR.out w7 v7 W.drew hk7 hn7) ?_; intro v8 w8 hR8)))
  all_goals
    have HR8 := hid hR8
    clear hR8 hn7 hk7
    go_wp2
    go_ret2
    exact ⟨v8, rfl, HR8.out⟩

set_option maxRecDepth 100000 in
set_option maxHeartbeats 2000000 in
theorem xSpFillB {T : Tags} {o : Nat} {w : World} {p : Nat} {L : XL} {X : XS} (h : XAt T o w p L X) (hd v : Int) (x : XA) (hA : X.A hd = some x) (hk : x.kind = 1) (hro : x.ro = false) (hg : GOk x.l x.t x.f X.c1.length) (hv : IntKind.i64.wrap v = v) :
    Calls Tryz.prog 64 #[.pointer (some ⟨p, 0, none⟩), .int .i64 hd, .int .i64 v] w fun e w' => e = .returned (.int .i64 0) ∧ Kp (fun b => (T b).1 = o) w w' ∧ XAt T o w' p L (X.putB (wrTo X.c1 (gc x.l x.t x.f x.l.length) (fun _ => IntKind.wrap .u8 v) (gc x.l x.t x.f x.l.length).length)) := by
  have HF := hid (xfindw_some h hd x hA (by omega) hro)
  have hlen : (gc x.l x.t x.f x.l.length).length ≤ 1000000 := by
    have h1 := gc_length x.l x.t x.f hg.shape.2.1 x.l.length (Nat.le_refl _)
    rw [List.take_length] at h1
    have := hg.shape.2.2
    omega
  have HC : Hid (∀ W, Kp0 w W → Calls Tryz.prog 60 #[.agg (grC x.l x.t x.f).toArray] W fun e w' => ∃ v, e = .returned v ∧ (NewI W w' v (gc x.l x.t x.f x.l.length) ∧ Kp0 w w')) := fun W k =>
    (xcells_calls x.l x.t x.f _ W hg).mono (fun e w' ⟨v, h1, h2⟩ => ⟨v, h1, h2, by obtain ⟨_, _, _, _, h3, _⟩ := h2; exact Kp0.trans k h3⟩)
  have hin := hg.inside
  generalize gc x.l x.t x.f x.l.length = P at *
  have HR : Hid (∀ W vp W0, Kp0 w W → Kp0 w W0 → NewI W0 W vp P → Calls Tryz.prog 193 #[.pointer (some ⟨L.q1, 0, none⟩), .int .i64 v, vp] W fun e w' => ∃ u, e = .returned u ∧ (Kp (fun b => (T b).1 = o) w w' ∧ XAt T o w' p L (X.putB (wrTo X.c1 P (fun _ => IntKind.wrap .u8 v) P.length)))) := fun W vp W0 k k0 hn => by
    have hr0 : RdI W vp P := by obtain ⟨_, _, rfl, h1, _⟩ := hn; exact h1.rd
    have hne : vp.ownBlock ≠ some L.g1 := fun e => by
      obtain ⟨ao, c, rfl, _, _, h3⟩ := hn
      have := h3 _ e
      have := k0.size
      have := lt_of_heap h.s1.cells
      omega
    refine (xFillB_calls (h.kp0 k).s1 v P vp hr0 (fun _ => hne) hin hlen hv _ rfl).mono ?_
    rintro e w' ⟨rfl, hk', hb⟩
    exact ⟨_, rfl, (Kp.of0 k).trans hk' (fun b _ e => by rw [e, h.tg1]), (h.kp0 k).putB hk' hb (wrTo_length _ _ _ _)⟩
  generalize X.putB (wrTo X.c1 P (fun _ => IntKind.wrap .u8 v) P.length) = X' at *
  unfold grC at HC
  rw [hk, inVB] at HF
  unfold XA.cs at HF
  rw [hk, hro] at HF
  have HMR := hid (Tryz.mFillB ⟨L.q1, 0, none⟩)
  clear h hA hg hv hlen hin
  go_enter Tryz.func64, Tryz.ntmps64
  go_wp2_with fail
  refine HF.out.mono ?_
  rintro e w2 ⟨rfl, hw⟩
  have HK := hid hw
  clear hw
  have HB : Hid ((w2.alloc (.cells #[.int .i64 1, .int .i64 x.buf, .int .i64 (nth x.l 0), .int .i64 (nth x.l 1), .int .i64 (nth x.l 2), .int .i64 (nth x.l 3), .int .i64 (x.l.length : Int), .int .i64 x.f, .int .i64 (nth x.t 0), .int .i64 (nth x.t 1), .int .i64 (nth x.t 2), .int .i64 (nth x.t 3), .bool false] 109)).heap[w2.heap.size]? = some (.cells #[.int .i64 1, .int .i64 x.buf, .int .i64 (nth x.l 0), .int .i64 (nth x.l 1), .int .i64 (nth x.l 2), .int .i64 (nth x.l 3), .int .i64 (x.l.length : Int), .int .i64 x.f, .int .i64 (nth x.t 0), .int .i64 (nth x.t 1), .int .i64 (nth x.t 2), .int .i64 (nth x.t 3), .bool false] 109 (0, 0))) := heap_alloc_new w2 _
  have HKW : Hid (Kp0 w (w2.alloc (.cells #[.int .i64 1, .int .i64 x.buf, .int .i64 (nth x.l 0), .int .i64 (nth x.l 1), .int .i64 (nth x.l 2), .int .i64 (nth x.l 3), .int .i64 (x.l.length : Int), .int .i64 x.f, .int .i64 (nth x.t 0), .int .i64 (nth x.t 1), .int .i64 (nth x.t 2), .int .i64 (nth x.t 3), .bool false] 109))) := HK.out.alloc _
  go_wp2
  generalize w2.alloc (.cells #[.int .i64 1, .int .i64 x.buf, .int .i64 (nth x.l 0), .int .i64 (nth x.l 1), .int .i64 (nth x.l 2), .int .i64 (nth x.l 3), .int .i64 (x.l.length : Int), .int .i64 x.f, .int .i64 (nth x.t 0), .int .i64 (nth x.t 1), .int .i64 (nth x.t 2), .int .i64 (nth x.t 3), .bool false] 109) = W at HB HKW ⊢
  generalize w2.heap.size = b at HB ⊢
  obtain ⟨z0, z1, z2, z3, z4, z5, z6, z7, z8, z9, z10, z11, z12⟩ := cells13 HB.out
  have HKD : Hid (Kp0 w W.drew) := HKW.out.drew
  have hna := Tryz.nFillB ⟨L.q1, 0, none⟩
  go_region_law ((first
    | (refine step_call1 (by rfl) 60 (.tmp 23) _ (by rfl) _ Tryz.func60 (by kernel_rfl) (by kernel_rfl) _ (by rfl) (HC.out _ HKD.out) ?_; intro v7 w7 hR; obtain ⟨hn7, hk7⟩ := hR)
    | (refine step_invoke2 (by rfl) (.tmp 27) "Fill" (.tmp 21) (.tmp 24) _ (by rfl) _ (.int .i64 v) v7 (by rfl) (by rfl) (by rfl) _ _ (HMR.out (.int .i64 v) v7 w7) (HR.out w7 v7 W.drew hk7 HKD.out hn7) ?_; intro v8 w8 hR8)))
  all_goals
    have HR8 := hid hR8
    clear hR8 hn7 hk7
    go_wp2
    go_ret
    exact ⟨rfl, HR8.out.1, HR8.out.2⟩

end Go.Proofs.YticbbncdcannlaaGreat

/- The program's space, walked at an array of int64: Fill, Values. -/
namespace Go.Proofs.YticbbncdcannlaaGreat
open Go.RowKit Go.Maps Go.ChangeMaps Go.MapKept

theorem Tryz.mFillI (a : Addr) (x y : Value) (w : World) : (callMethod (.iface 127 (.pointer (some a))) "Fill" #[x, y]).run Tryz.prog w = .ok (.enter 213 #[.pointer (some a), x, y]) w := by kernel_rfl
theorem Tryz.mReadI (a : Addr) (x : Value) (w : World) : (callMethod (.iface 127 (.pointer (some a))) "Read" #[x]).run Tryz.prog w = .ok (.enter 215 #[.pointer (some a), x]) w := by kernel_rfl

theorem Tryz.nFillI (a : Addr) (w : World) : (nilAhead 367 127 (.pointer (some a)) "Fill").run Tryz.prog w = .ok (some false) w := by kernel_rfl
theorem Tryz.nReadI (a : Addr) (w : World) : (nilAhead 367 127 (.pointer (some a)) "Read").run Tryz.prog w = .ok (some false) w := by kernel_rfl

set_option maxRecDepth 100000 in
set_option maxHeartbeats 2000000 in
theorem xValuesI {T : Tags} {o : Nat} {w : World} {p : Nat} {L : XL} {X : XS} (h : XAt T o w p L X) (hd : Int) (x : XA) (hA : X.A hd = some x) (hk : x.kind = 2) (hg : GOk x.l x.t x.f X.c2.length) (hw : ∀ j, j < X.c2.length → IntKind.i64.wrap (nth X.c2 j) = nth X.c2 j) :
    Calls Tryz.prog 26 #[.pointer (some ⟨p, 0, none⟩), .int .i64 hd] w fun e w' => ∃ v, e = .returned (.tuple #[v, .int .i64 0]) ∧ NewI w w' v ((gc x.l x.t x.f x.l.length).map fun c => nth X.c2 c.toNat) := by
  have HF := hid (xfind_some h hd x hA (by omega))
  have hlen : (gc x.l x.t x.f x.l.length).length ≤ 1000000 := by
    have h1 := gc_length x.l x.t x.f hg.shape.2.1 x.l.length (Nat.le_refl _)
    rw [List.take_length] at h1
    have := hg.shape.2.2
    omega
  have HC : Hid (∀ W, Kp0 w W → Calls Tryz.prog 60 #[.agg (grC x.l x.t x.f).toArray] W fun e w' => ∃ v, e = .returned v ∧ (NewI W w' v (gc x.l x.t x.f x.l.length) ∧ Kp0 w w')) := fun W k =>
    (xcells_calls x.l x.t x.f _ W hg).mono (fun e w' ⟨v, h1, h2⟩ => ⟨v, h1, h2, by obtain ⟨_, _, _, _, h3, _⟩ := h2; exact Kp0.trans k h3⟩)
  generalize hP : gc x.l x.t x.f x.l.length = P at *
  have hin := hg.inside
  rw [hP] at hin
  have HR : Hid (∀ W vp W0, Kp0 w W → NewI W0 W vp P → Calls Tryz.prog 215 #[.pointer (some ⟨L.q2, 0, none⟩), vp] W fun e w' => ∃ v, e = .returned v ∧ NewI w w' v (P.map fun c => nth X.c2 c.toNat)) := fun W vp W0 k hn => by
    have hr0 : RdI W vp P := by obtain ⟨_, _, rfl, h1, _⟩ := hn; exact h1.rd
    refine (xReadI_calls (h.kp0 k).s2 P vp hr0 hin hw hlen).mono ?_
    rintro e w' ⟨v, rfl, ao, c, rfl, h1, h2, h3⟩
    exact ⟨_, rfl, ao, c, rfl, h1, Kp0.trans k h2, fun b hb => Nat.le_trans k.size (h3 b hb)⟩
  generalize (P.map fun c => nth X.c2 c.toNat) = V at *
  unfold grC at HC
  rw [hk, inVI] at HF
  unfold XA.cs at HF
  rw [hk] at HF
  have HMR := hid (Tryz.mReadI ⟨L.q2, 0, none⟩)
  clear h hA hg hw hlen hP hin
  go_enter Tryz.func26, Tryz.ntmps26
  go_wp2_with fail
  refine HF.out.mono ?_
  rintro e w2 ⟨rfl, hw⟩
  have HK := hid hw
  clear hw
  have HB : Hid ((w2.alloc (.cells #[.int .i64 2, .int .i64 x.buf, .int .i64 (nth x.l 0), .int .i64 (nth x.l 1), .int .i64 (nth x.l 2), .int .i64 (nth x.l 3), .int .i64 (x.l.length : Int), .int .i64 x.f, .int .i64 (nth x.t 0), .int .i64 (nth x.t 1), .int .i64 (nth x.t 2), .int .i64 (nth x.t 3), .bool x.ro] 109)).heap[w2.heap.size]? = some (.cells #[.int .i64 2, .int .i64 x.buf, .int .i64 (nth x.l 0), .int .i64 (nth x.l 1), .int .i64 (nth x.l 2), .int .i64 (nth x.l 3), .int .i64 (x.l.length : Int), .int .i64 x.f, .int .i64 (nth x.t 0), .int .i64 (nth x.t 1), .int .i64 (nth x.t 2), .int .i64 (nth x.t 3), .bool x.ro] 109 (0, 0))) := heap_alloc_new w2 _
  have HKW : Hid (Kp0 w (w2.alloc (.cells #[.int .i64 2, .int .i64 x.buf, .int .i64 (nth x.l 0), .int .i64 (nth x.l 1), .int .i64 (nth x.l 2), .int .i64 (nth x.l 3), .int .i64 (x.l.length : Int), .int .i64 x.f, .int .i64 (nth x.t 0), .int .i64 (nth x.t 1), .int .i64 (nth x.t 2), .int .i64 (nth x.t 3), .bool x.ro] 109))) := HK.out.alloc _
  go_wp2
  generalize w2.alloc (.cells #[.int .i64 2, .int .i64 x.buf, .int .i64 (nth x.l 0), .int .i64 (nth x.l 1), .int .i64 (nth x.l 2), .int .i64 (nth x.l 3), .int .i64 (x.l.length : Int), .int .i64 x.f, .int .i64 (nth x.t 0), .int .i64 (nth x.t 1), .int .i64 (nth x.t 2), .int .i64 (nth x.t 3), .bool x.ro] 109) = W at HB HKW ⊢
  generalize w2.heap.size = b at HB ⊢
  obtain ⟨z0, z1, z2, z3, z4, z5, z6, z7, z8, z9, z10, z11, z12⟩ := cells13 HB.out
  have HKD : Hid (Kp0 w W.drew) := HKW.out.drew
  have hna := Tryz.nReadI ⟨L.q2, 0, none⟩
  go_region_law ((first
    | (refine step_call1 (by rfl) 60 (.tmp 21) _ (by rfl) _ Tryz.func60 (by kernel_rfl) (by kernel_rfl) _ (by rfl) (HC.out _ HKD.out) ?_; intro v7 w7 hR; obtain ⟨hn7, hk7⟩ := hR)
    | (refine step_invoke1 (by rfl) (.tmp 25) "Read" (.tmp 22) _ (by rfl) _ v7 (by rfl) (by rfl) _ _ (HMR.out v7 w7) (HR.out w7 v7 W.drew hk7 hn7) ?_; intro v8 w8 hR8)))
  all_goals
    have HR8 := hid hR8
    clear hR8 hn7 hk7
    go_wp2
    go_ret2
    exact ⟨v8, rfl, HR8.out⟩

set_option maxRecDepth 100000 in
set_option maxHeartbeats 2000000 in
theorem xSpFillI {T : Tags} {o : Nat} {w : World} {p : Nat} {L : XL} {X : XS} (h : XAt T o w p L X) (hd v : Int) (x : XA) (hA : X.A hd = some x) (hk : x.kind = 2) (hro : x.ro = false) (hg : GOk x.l x.t x.f X.c2.length) (hv : IntKind.i64.wrap v = v) :
    Calls Tryz.prog 64 #[.pointer (some ⟨p, 0, none⟩), .int .i64 hd, .int .i64 v] w fun e w' => e = .returned (.int .i64 0) ∧ Kp (fun b => (T b).1 = o) w w' ∧ XAt T o w' p L (X.putI (wrTo X.c2 (gc x.l x.t x.f x.l.length) (fun _ => IntKind.wrap .i64 v) (gc x.l x.t x.f x.l.length).length)) := by
  have HF := hid (xfindw_some h hd x hA (by omega) hro)
  have hlen : (gc x.l x.t x.f x.l.length).length ≤ 1000000 := by
    have h1 := gc_length x.l x.t x.f hg.shape.2.1 x.l.length (Nat.le_refl _)
    rw [List.take_length] at h1
    have := hg.shape.2.2
    omega
  have HC : Hid (∀ W, Kp0 w W → Calls Tryz.prog 60 #[.agg (grC x.l x.t x.f).toArray] W fun e w' => ∃ v, e = .returned v ∧ (NewI W w' v (gc x.l x.t x.f x.l.length) ∧ Kp0 w w')) := fun W k =>
    (xcells_calls x.l x.t x.f _ W hg).mono (fun e w' ⟨v, h1, h2⟩ => ⟨v, h1, h2, by obtain ⟨_, _, _, _, h3, _⟩ := h2; exact Kp0.trans k h3⟩)
  have hin := hg.inside
  generalize gc x.l x.t x.f x.l.length = P at *
  have HR : Hid (∀ W vp W0, Kp0 w W → Kp0 w W0 → NewI W0 W vp P → Calls Tryz.prog 213 #[.pointer (some ⟨L.q2, 0, none⟩), .int .i64 v, vp] W fun e w' => ∃ u, e = .returned u ∧ (Kp (fun b => (T b).1 = o) w w' ∧ XAt T o w' p L (X.putI (wrTo X.c2 P (fun _ => IntKind.wrap .i64 v) P.length)))) := fun W vp W0 k k0 hn => by
    have hr0 : RdI W vp P := by obtain ⟨_, _, rfl, h1, _⟩ := hn; exact h1.rd
    have hne : vp.ownBlock ≠ some L.g2 := fun e => by
      obtain ⟨ao, c, rfl, _, _, h3⟩ := hn
      have := h3 _ e
      have := k0.size
      have := lt_of_heap h.s2.cells
      omega
    refine (xFillI_calls (h.kp0 k).s2 v P vp hr0 (fun _ => hne) hin hlen hv _ rfl).mono ?_
    rintro e w' ⟨rfl, hk', hb⟩
    exact ⟨_, rfl, (Kp.of0 k).trans hk' (fun b _ e => by rw [e, h.tg2]), (h.kp0 k).putI hk' hb (wrTo_length _ _ _ _)⟩
  generalize X.putI (wrTo X.c2 P (fun _ => IntKind.wrap .i64 v) P.length) = X' at *
  unfold grC at HC
  rw [hk, inVI] at HF
  unfold XA.cs at HF
  rw [hk, hro] at HF
  have HMR := hid (Tryz.mFillI ⟨L.q2, 0, none⟩)
  clear h hA hg hv hlen hin
  go_enter Tryz.func64, Tryz.ntmps64
  go_wp2_with fail
  refine HF.out.mono ?_
  rintro e w2 ⟨rfl, hw⟩
  have HK := hid hw
  clear hw
  have HB : Hid ((w2.alloc (.cells #[.int .i64 2, .int .i64 x.buf, .int .i64 (nth x.l 0), .int .i64 (nth x.l 1), .int .i64 (nth x.l 2), .int .i64 (nth x.l 3), .int .i64 (x.l.length : Int), .int .i64 x.f, .int .i64 (nth x.t 0), .int .i64 (nth x.t 1), .int .i64 (nth x.t 2), .int .i64 (nth x.t 3), .bool false] 109)).heap[w2.heap.size]? = some (.cells #[.int .i64 2, .int .i64 x.buf, .int .i64 (nth x.l 0), .int .i64 (nth x.l 1), .int .i64 (nth x.l 2), .int .i64 (nth x.l 3), .int .i64 (x.l.length : Int), .int .i64 x.f, .int .i64 (nth x.t 0), .int .i64 (nth x.t 1), .int .i64 (nth x.t 2), .int .i64 (nth x.t 3), .bool false] 109 (0, 0))) := heap_alloc_new w2 _
  have HKW : Hid (Kp0 w (w2.alloc (.cells #[.int .i64 2, .int .i64 x.buf, .int .i64 (nth x.l 0), .int .i64 (nth x.l 1), .int .i64 (nth x.l 2), .int .i64 (nth x.l 3), .int .i64 (x.l.length : Int), .int .i64 x.f, .int .i64 (nth x.t 0), .int .i64 (nth x.t 1), .int .i64 (nth x.t 2), .int .i64 (nth x.t 3), .bool false] 109))) := HK.out.alloc _
  go_wp2
  generalize w2.alloc (.cells #[.int .i64 2, .int .i64 x.buf, .int .i64 (nth x.l 0), .int .i64 (nth x.l 1), .int .i64 (nth x.l 2), .int .i64 (nth x.l 3), .int .i64 (x.l.length : Int), .int .i64 x.f, .int .i64 (nth x.t 0), .int .i64 (nth x.t 1), .int .i64 (nth x.t 2), .int .i64 (nth x.t 3), .bool false] 109) = W at HB HKW ⊢
  generalize w2.heap.size = b at HB ⊢
  obtain ⟨z0, z1, z2, z3, z4, z5, z6, z7, z8, z9, z10, z11, z12⟩ := cells13 HB.out
  have HKD : Hid (Kp0 w W.drew) := HKW.out.drew
  have hna := Tryz.nFillI ⟨L.q2, 0, none⟩
  go_region_law ((first
    | (refine step_call1 (by rfl) 60 (.tmp 23) _ (by rfl) _ Tryz.func60 (by kernel_rfl) (by kernel_rfl) _ (by rfl) (HC.out _ HKD.out) ?_; intro v7 w7 hR; obtain ⟨hn7, hk7⟩ := hR)
    | (refine step_invoke2 (by rfl) (.tmp 27) "Fill" (.tmp 21) (.tmp 24) _ (by rfl) _ (.int .i64 v) v7 (by rfl) (by rfl) (by rfl) _ _ (HMR.out (.int .i64 v) v7 w7) (HR.out w7 v7 W.drew hk7 HKD.out hn7) ?_; intro v8 w8 hR8)))
  all_goals
    have HR8 := hid hR8
    clear hR8 hn7 hk7
    go_wp2
    go_ret
    exact ⟨rfl, HR8.out.1, HR8.out.2⟩

end Go.Proofs.YticbbncdcannlaaGreat

/- The program's calls in the document's words: Get, Set, Fill, Values, Look. -/
namespace Go.Proofs.YticbbncdcannlaaGreat
open Go.RowKit

/-- The program's space holds the document's state. -/
def XRep (T : Tags) (o : Nat) (w : World) (p : Nat) (σ : Sp) : Prop := σ.ok ∧ ∃ L X, XAt T o w p L X ∧ Tie X (Maps.size L.D) σ

theorem XRep.kp {T : Tags} {o : Nat} {Z : Nat → Prop} {w w' : World} {p : Nat} {σ : Sp} (h : XRep T o w p σ) (k : Kp Z w w') (hs : ∀ b, (T b).1 = o → ¬ Z b) : XRep T o w' p σ := by
  obtain ⟨h1, L, X, h2, h3⟩ := h
  exact ⟨h1, L, X, h2.kp k hs, h3⟩
theorem XRep.tags {T T' : Tags} {o : Nat} {w : World} {p : Nat} {σ : Sp} (h : XRep T o w p σ) (k : TagsTo w T T') : XRep T' o w p σ := by
  obtain ⟨h1, L, X, h2, h3⟩ := h
  exact ⟨h1, L, X, h2.tags k, h3⟩

theorem XRep.stay {T : Tags} {o : Nat} {w w' : World} {p : Nat} {σ : Sp} (h : XRep T o w p σ) (k : Kp0 w w') : Step XRep T o w p σ w' :=
  ⟨T, fun _ _ => rfl, h.kp k (fun _ _ e => e), Kp.of0 k⟩

theorem XRep.stayL {T : Tags} {o : Nat} {w w' : World} {p : Nat} {σ : Sp} {v : Value} {xs : List Int} (t : Nat × Nat) (h : XRep T o w p σ) (hn : NewI w w' v xs) : StepL XRep T o w p σ w' t v xs := by
  obtain ⟨ao, c, rfl, h1, h2, h3⟩ := hn
  exact ⟨retag w T t, retag_to w T t, (h.tags (retag_to w T t)).kp h2 (fun _ _ e => e), Kp.of0 h2, ao, c, rfl, h1, fun b hb => retag_new (h3 b hb), h3⟩

theorem kind_of {σ : Sp} (hok : σ.ok) {h : Int} {a : Arr} (hf : σ.find h = some a) : a.ok σ := by
  unfold Sp.find at hf
  split at hf
  · have hg : σ.arrs[ix h]? = some (some a) := by
      cases e : σ.arrs[ix h]? with
      | none => simp [List.getD, e] at hf
      | some y => simp [List.getD, e] at hf; rw [hf]
    exact hok.arr _ a hg
  · cases hf

theorem xc_get {T : Tags} {o : Nat} {w : World} {p : Nat} {σ : Sp} (h : Int) (vi : Value) (i : List Int) (hR : XRep T o w p σ) (hr : RdI w vi i) :
    Calls Tryz.prog 37 #[.pointer (some ⟨p, 0, none⟩), .int .i64 h, vi] w fun e w' => e = .returned (.tuple #[.int .i64 (σ.get h i).1, .int .i64 (σ.get h i).2]) ∧ Step XRep T o w p σ w' := by
  have hR' := hR
  obtain ⟨hok, L, X, hX, hT⟩ := hR
  cases hf : σ.find h with
  | none =>
    refine (xGet_none hX h vi (hT.non h hf)).mono ?_
    rintro e w' ⟨rfl, hk⟩
    exact ⟨by simp [Sp.get, hf], hR'.stay hk⟩
  | some a =>
    obtain ⟨x, hA, hx⟩ := hT.som h a hf
    have ha := kind_of hok hf
    cases hin : inBb x.l i with
    | false =>
      have hrk := hx.none i hin
      have hres : σ.get h i = (0, 5) := by simp [Sp.get, hf, hrk]
      rw [hres]
      rcases ha.kind with hk | hk
      · refine (xGetNoB hX h x hA (by rw [hx.kind, hk]) vi i hr hx.g.shape.1 hin).mono ?_
        rintro e w' ⟨rfl, hk'⟩
        exact ⟨rfl, hR'.stay hk'⟩
      · refine (xGetNoI hX h x hA (by rw [hx.kind, hk]) vi i hr hx.g.shape.1 hin).mono ?_
        rintro e w' ⟨rfl, hk'⟩
        exact ⟨rfl, hR'.stay hk'⟩
    | true =>
      obtain ⟨r1, r2, r3⟩ := hx.at i hin
      have hbd := ha.inside _ r2
      have htk := hx.taken hf _ r2
      have hres : σ.get h i = (nth (σ.vals a.kind) (nth a.cells (rank a.shape i).toNat).toNat, 0) := by
        simp only [Sp.get, hf]
        rw [if_neg (by omega)]
      rw [hres]
      rcases ha.kind with hk | hk
      · have hg := hx.g
        rw [hk, ← hT.k1.len] at hg
        refine (xGetYesB hX h x hA (by rw [hx.kind, hk]) vi i hr hg hin (hT.k1.wrap (.inl rfl))).mono ?_
        rintro e w' ⟨rfl, hk'⟩
        refine ⟨?_, hR'.stay hk'⟩
        rw [hk] at htk hbd ⊢
        rw [← r3, hT.k1.at _ hbd.1 hbd.2 htk]
      · have hg := hx.g
        rw [hk, ← hT.k2.len] at hg
        refine (xGetYesI hX h x hA (by rw [hx.kind, hk]) vi i hr hg hin (hT.k2.wrap (.inr rfl))).mono ?_
        rintro e w' ⟨rfl, hk'⟩
        refine ⟨?_, hR'.stay hk'⟩
        rw [hk] at htk hbd ⊢
        rw [← r3, hT.k2.at _ hbd.1 hbd.2 htk]

theorem xc_set {T : Tags} {o : Nat} {w : World} {p : Nat} {σ : Sp} (h v : Int) (vi : Value) (i : List Int) (hR : XRep T o w p σ) (hr : RdI w vi i) (hv : IntKind.i64.wrap v = v) :
    Calls Tryz.prog 36 #[.pointer (some ⟨p, 0, none⟩), .int .i64 h, .int .i64 v, vi] w fun e w' => e = .returned (.int .i64 (σ.set h v i).2) ∧ Step XRep T o w p (σ.set h v i).1 w' := by
  have hR' := hR
  obtain ⟨hok, L, X, hX, hT⟩ := hR
  cases hf : σ.find h with
  | none =>
    have hres : σ.set h v i = (σ, 2) := by simp [Sp.set, hf]
    rw [hres]
    refine (xSet_none hX h v vi (hT.non h hf)).mono ?_
    rintro e w' ⟨rfl, hk⟩
    exact ⟨rfl, hR'.stay hk⟩
  | some a =>
    obtain ⟨x, hA, hx⟩ := hT.som h a hf
    have ha := kind_of hok hf
    have hkd : x.kind = 1 ∨ x.kind = 2 := by rw [hx.kind]; exact ha.kind
    cases hro : x.ro with
    | true =>
      have hres : σ.set h v i = (σ, 6) := by simp [Sp.set, hf, ← hx.ro, hro]
      rw [hres]
      refine (xSet_ro hX h v vi x hA hkd hro).mono ?_
      rintro e w' ⟨rfl, hk⟩
      exact ⟨rfl, hR'.stay hk⟩
    | false =>
      cases hin : inBb x.l i with
      | false =>
        have hrk := hx.none i hin
        have hres : σ.set h v i = (σ, 5) := by simp [Sp.set, hf, ← hx.ro, hro, hrk]
        rw [hres]
        rcases ha.kind with hk | hk
        · refine (xSetNoB hX h v x hA (by rw [hx.kind, hk]) hro vi i hr hx.g.shape.1 hin).mono ?_
          rintro e w' ⟨rfl, hk'⟩
          exact ⟨rfl, hR'.stay hk'⟩
        · refine (xSetNoI hX h v x hA (by rw [hx.kind, hk]) hro vi i hr hx.g.shape.1 hin).mono ?_
          rintro e w' ⟨rfl, hk'⟩
          exact ⟨rfl, hR'.stay hk'⟩
      | true =>
        obtain ⟨r1, r2, r3⟩ := hx.at i hin
        have hbd := ha.inside _ r2
        have htk := hx.taken hf _ r2
        have hres : σ.set h v i = (σ.put a.kind (nth a.cells (rank a.shape i).toNat).toNat (asK a.kind v), 0) := by
          simp only [Sp.set, hf]
          rw [if_neg (by rw [← hx.ro, hro]; simp), if_neg (by omega)]
        rw [hres]
        rcases ha.kind with hk | hk
        · have hg := hx.g
          rw [hk, ← hT.k1.len] at hg
          rw [hk] at htk hbd ⊢
          have hw1 : IntKind.wrap .u8 v = asK 1 v := by rw [wrap_u8]; simp [asK]
          have hn := hT.putB hok (nth a.cells (rank a.shape i).toNat).toNat (by omega) (by rw [show (((nth a.cells (rank a.shape i).toNat).toNat : Nat) : Int) = nth a.cells (rank a.shape i).toNat by omega]; exact htk) (asK 1 v) (by simp only [asK, if_true]; omega)
          refine (xSetYesB hX h v x hA (by rw [hx.kind, hk]) hro vi i hr hg hin hv).mono ?_
          rintro e w' ⟨rfl, hk', hX'⟩
          rw [← r3, hw1] at hX'
          exact ⟨rfl, T, fun _ _ => rfl, (⟨put_ok hok _ _ _, L, _, hX', hn⟩ : XRep T o w' p (σ.put _ _ _)), hk'⟩
        · have hg := hx.g
          rw [hk, ← hT.k2.len] at hg
          rw [hk] at htk hbd ⊢
          have hw2 : IntKind.wrap .i64 v = asK 2 v := by rw [hv]; simp [asK]
          have hn := hT.putI hok (nth a.cells (rank a.shape i).toNat).toNat (by omega) (by rw [show (((nth a.cells (rank a.shape i).toNat).toNat : Nat) : Int) = nth a.cells (rank a.shape i).toNat by omega]; exact htk) (asK 2 v) (by rw [← hw2, hv]; exact hv)
          refine (xSetYesI hX h v x hA (by rw [hx.kind, hk]) hro vi i hr hg hin hv).mono ?_
          rintro e w' ⟨rfl, hk', hX'⟩
          rw [← r3, hw2] at hX'
          exact ⟨rfl, T, fun _ _ => rfl, (⟨put_ok hok _ _ _, L, _, hX', hn⟩ : XRep T o w' p (σ.put _ _ _)), hk'⟩

theorem xc_fill {T : Tags} {o : Nat} {w : World} {p : Nat} {σ : Sp} (h v : Int) (hR : XRep T o w p σ) (hv : IntKind.i64.wrap v = v) :
    Calls Tryz.prog 64 #[.pointer (some ⟨p, 0, none⟩), .int .i64 h, .int .i64 v] w fun e w' => e = .returned (.int .i64 (σ.fill h v).2) ∧ Step XRep T o w p (σ.fill h v).1 w' := by
  have hR' := hR
  obtain ⟨hok, L, X, hX, hT⟩ := hR
  cases hf : σ.find h with
  | none =>
    have hres : σ.fill h v = (σ, 2) := by simp [Sp.fill, hf]
    rw [hres]
    refine (xFill_none hX h v (hT.non h hf)).mono ?_
    rintro e w' ⟨rfl, hk⟩
    exact ⟨rfl, hR'.stay hk⟩
  | some a =>
    obtain ⟨x, hA, hx⟩ := hT.som h a hf
    have ha := kind_of hok hf
    have hkd : x.kind = 1 ∨ x.kind = 2 := by rw [hx.kind]; exact ha.kind
    cases hro : x.ro with
    | true =>
      have hres : σ.fill h v = (σ, 6) := by simp [Sp.fill, hf, ← hx.ro, hro]
      rw [hres]
      refine (xFill_ro hX h v x hA hkd hro).mono ?_
      rintro e w' ⟨rfl, hk⟩
      exact ⟨rfl, hR'.stay hk⟩
    | false =>
      have hres : σ.fill h v = (σ.writes a.kind a.cells (fun _ => asK a.kind v) a.cells.length, 0) := by
        simp only [Sp.fill, hf]
        rw [if_neg (by rw [← hx.ro, hro]; simp)]
      rw [hres]
      have hP : ∀ j, j < a.cells.length → 0 ≤ nth a.cells j ∧ nth a.cells j < σ.cap a.kind ∧ σ.taken a.kind (nth a.cells j) = true := fun j hj => ⟨(ha.inside j hj).1, (ha.inside j hj).2, hx.taken hf j hj⟩
      rcases ha.kind with hk | hk
      · have hg := hx.g
        rw [hk, ← hT.k1.len] at hg
        rw [hk] at hP ⊢
        have hw1 : IntKind.wrap .u8 v = asK 1 v := by rw [wrap_u8]; simp [asK]
        have hn := (hT.writesB hok a.cells hP (asK 1 v) (by simp only [asK, if_true]; omega) a.cells.length (Nat.le_refl _)).1
        refine (xSpFillB hX h v x hA (by rw [hx.kind, hk]) hro hg hv).mono ?_
        rintro e w' ⟨rfl, hk', hX'⟩
        rw [hx.cells, hw1] at hX'
        exact ⟨rfl, T, fun _ _ => rfl, ⟨writes_ok hok _ _ _ _, L, _, hX', hn⟩, hk'⟩
      · have hg := hx.g
        rw [hk, ← hT.k2.len] at hg
        rw [hk] at hP ⊢
        have hw2 : IntKind.wrap .i64 v = asK 2 v := by rw [hv]; simp [asK]
        have hn := (hT.writesI hok a.cells hP (asK 2 v) (by rw [← hw2, hv]; exact hv) a.cells.length (Nat.le_refl _)).1
        refine (xSpFillI hX h v x hA (by rw [hx.kind, hk]) hro hg hv).mono ?_
        rintro e w' ⟨rfl, hk', hX'⟩
        rw [hx.cells, hw2] at hX'
        exact ⟨rfl, T, fun _ _ => rfl, ⟨writes_ok hok _ _ _ _, L, _, hX', hn⟩, hk'⟩

theorem values_eq {σ : Sp} {h : Int} {a : Arr} {x : XA} (hx : ATie σ a x) (hf : σ.find h = some a) (ha : a.ok σ) {c : List Int} {bs : List (Int × Int)} (hk : KTie σ a.kind c bs) : ((gc x.l x.t x.f x.l.length).map fun y => nth c y.toNat) = σ.valuesOf a := by
  rw [hx.cells]
  unfold Sp.valuesOf
  apply List.map_congr_left
  intro y hy
  obtain ⟨j, hj, e⟩ := List.getElem_of_mem hy
  have e' : nth a.cells j = y := by rw [nth_lt hj]; exact e
  have h1 := ha.inside j hj
  have h2 := hx.taken hf j hj
  rw [e'] at h1 h2
  exact hk.at y h1.1 h1.2 h2

theorem xc_values {T : Tags} {o : Nat} {w : World} {p : Nat} {σ : Sp} (h : Int) (t : Nat × Nat) (hR : XRep T o w p σ) :
    Calls Tryz.prog 26 #[.pointer (some ⟨p, 0, none⟩), .int .i64 h] w fun e w' => ∃ v, e = .returned (.tuple #[v, .int .i64 (σ.values h).2]) ∧ StepL XRep T o w p σ w' t v (σ.values h).1 := by
  have hR' := hR
  obtain ⟨hok, L, X, hX, hT⟩ := hR
  cases hf : σ.find h with
  | none =>
    have hres : σ.values h = ([], 2) := by simp [Sp.values, hf]
    rw [hres]
    refine (xValues_none hX h (hT.non h hf)).mono ?_
    rintro e w' ⟨rfl, hk⟩
    exact ⟨_, rfl, hR'.stayL t (NewI.nil hk)⟩
  | some a =>
    obtain ⟨x, hA, hx⟩ := hT.som h a hf
    have ha := kind_of hok hf
    have hres : σ.values h = (σ.valuesOf a, 0) := by simp [Sp.values, hf]
    rw [hres]
    rcases ha.kind with hk | hk
    · have hg := hx.g
      rw [hk, ← hT.k1.len] at hg
      have hv := values_eq hx hf ha (c := X.c1) (bs := X.b1) (by rw [hk]; exact hT.k1)
      refine (xValuesB hX h x hA (by rw [hx.kind, hk]) hg (hT.k1.wrap (.inl rfl))).mono ?_
      rintro e w' ⟨v, rfl, hn⟩
      rw [hv] at hn
      exact ⟨v, rfl, hR'.stayL t hn⟩
    · have hg := hx.g
      rw [hk, ← hT.k2.len] at hg
      have hv := values_eq hx hf ha (c := X.c2) (bs := X.b2) (by rw [hk]; exact hT.k2)
      refine (xValuesI hX h x hA (by rw [hx.kind, hk]) hg (hT.k2.wrap (.inr rfl))).mono ?_
      rintro e w' ⟨v, rfl, hn⟩
      rw [hv] at hn
      exact ⟨v, rfl, hR'.stayL t hn⟩

theorem xc_look {T : Tags} {o : Nat} {w : World} {p : Nat} {σ : Sp} (h : Int) (t : Nat × Nat) (hR : XRep T o w p σ) :
    Calls Tryz.prog 49 #[.pointer (some ⟨p, 0, none⟩), .int .i64 h] w fun e w' => ∃ v, e = .returned (.tuple #[.agg #[.int .i64 (σ.look h).1, v, .bool (σ.look h).2.2.1], .int .i64 (σ.look h).2.2.2]) ∧ StepL XRep T o w p σ w' t v (σ.look h).2.1 := by
  have hR' := hR
  obtain ⟨hok, L, X, hX, hT⟩ := hR
  cases hf : σ.find h with
  | none =>
    have hres : σ.look h = (0, [], false, 2) := by simp [Sp.look, hf]
    rw [hres]
    refine (xLook_none hX h (hT.non h hf)).mono ?_
    rintro e w' ⟨rfl, hk⟩
    exact ⟨_, rfl, hR'.stayL t (NewI.nil hk)⟩
  | some a =>
    obtain ⟨x, hA, hx⟩ := hT.som h a hf
    have ha := kind_of hok hf
    have hres : σ.look h = (a.kind, a.shape, a.ro, 0) := by simp [Sp.look, hf]
    rw [hres]
    refine (xLook_some hX h x hA (by rw [hx.kind]; exact ha.kind) hx.g.shape.1).mono ?_
    rintro e w' ⟨v, rfl, hn⟩
    rw [hx.l] at hn
    exact ⟨v, by rw [hx.kind, hx.ro], hR'.stayL t hn⟩

end Go.Proofs.YticbbncdcannlaaGreat

/- The program's space, walked at an array of uint8: valuesOver. -/
namespace Go.Proofs.YticbbncdcannlaaGreat
open Go.RowKit Go.Maps Go.ChangeMaps Go.MapKept

theorem str_okB {l t s : List Int} {f M : Int} (hg : GOk l t f M) (hs : okShape s) (h : stretchB l s = true) : GOk s (strT l t s) f M := by
  obtain ⟨h1, h2⟩ := (stretchB_iff l s).1 h
  refine hg.view hs (by unfold strT; rw [mkL_length]; exact Nat.le_refl _) (fun k hk hk1 => ?_) (meantOf l s) (fun i hi => meantOf_in l s i hg.shape.2.1 h1 h2 hi) (fun i hi => by rw [str_dot h1 hg.unit hg.shape.2.1 i])
  unfold strT
  rw [mkL_nth, if_pos hk]
  split
  · rename_i hd
    have h3 := h2 (k - (s.length - l.length)) (by omega)
    rw [show s.length - l.length + (k - (s.length - l.length)) = k by omega] at h3
    exact hg.unit _ (by omega) (by omega)
  · rfl

set_option maxRecDepth 100000 in
set_option maxHeartbeats 2000000 in
theorem xvaluesNoB (p : Nat) (w : World) (x : XA) (s : List Int) (hl : x.l.length ≤ 4) (hs : s.length ≤ 4) (hb : stretchB x.l s = false) :
    Calls Tryz.prog 134 #[.pointer (some ⟨p, 0, none⟩), .agg x.cs, .agg (shC s).toArray] w fun e w' => e = .returned (.tuple #[.slice none 0 0, .bool false]) ∧ Kp0 w w' := by
  have HS : Hid (∀ W, Calls Tryz.prog 127 #[.agg (grC x.l x.t x.f).toArray, .agg (shC s).toArray] W fun e w' => e = .returned (.tuple #[.agg zG, .bool false]) ∧ Kp0 W w') := fun W => by
    refine (xgstr_calls x.l x.t s x.f W hl hs).mono ?_
    rintro e w' ⟨h | h, hk⟩
    · rw [hb] at h; exact absurd h.1 (by simp)
    · exact ⟨h.2, hk⟩
  unfold XA.cs
  unfold zG at HS
  unfold shC at HS ⊢
  unfold grC at HS
  generalize s.length = m at *
  generalize x.l.length = n at *
  clear hb hl hs
  go_enter Tryz.func134, Tryz.ntmps134
  go_wp2_with fail
  refine (HS.out _).mono ?_
  rintro e w2 ⟨rfl, hw⟩
  have HK : Hid (Kp0 w w2) := Kp0.trans (((Kp.refl _ w).alloc _).alloc _) hw
  clear hw
  go_wp2
  go_ret2
  exact ⟨rfl, HK.out.alloc _⟩

set_option maxRecDepth 100000 in
set_option maxHeartbeats 2000000 in
theorem xvaluesOverB {T : Tags} {o : Nat} {w : World} {p : Nat} {L : XL} {X : XS} (h : XAt T o w p L X) (x : XA) (hk : x.kind = 1) (hg0 : GOk x.l x.t x.f X.c1.length) (s : List Int) (hs : okShape s) (hb : stretchB x.l s = true) (hw : ∀ j, j < X.c1.length → IntKind.i64.wrap (nth X.c1 j) = nth X.c1 j) :
    Calls Tryz.prog 134 #[.pointer (some ⟨p, 0, none⟩), .agg x.cs, .agg (shC s).toArray] w fun e w' => ∃ v, e = .returned (.tuple #[v, .bool true]) ∧ NewI w w' v ((gc s (strT x.l x.t s) x.f s.length).map fun c => nth X.c1 c.toNat) := by
  have HS : Hid (∀ W, Calls Tryz.prog 127 #[.agg (grC x.l x.t x.f).toArray, .agg (shC s).toArray] W fun e w' => e = .returned (.tuple #[.agg (grC s (strT x.l x.t s) x.f).toArray, .bool true]) ∧ Kp0 W w') := fun W => by
    refine (xgstr_calls x.l x.t s x.f W hg0.shape.1 hs.1).mono ?_
    rintro e w' ⟨h | h, hk⟩
    · exact ⟨h.2, hk⟩
    · rw [hb] at h; exact absurd h.1 (by simp)
  have hg := str_okB hg0 hs hb
  obtain ⟨t, ht⟩ : ∃ t, t = strT x.l x.t s := ⟨_, rfl⟩
  rw [← ht] at hg HS ⊢
  have hlen : (gc s t x.f s.length).length ≤ 1000000 := by
    have h1 := gc_length s t x.f hg.shape.2.1 s.length (Nat.le_refl _)
    rw [List.take_length] at h1
    have := hg.shape.2.2
    omega
  have HC : Hid (∀ W, Kp0 w W → Calls Tryz.prog 60 #[.agg (grC s t x.f).toArray] W fun e w' => ∃ v, e = .returned v ∧ (NewI W w' v (gc s t x.f s.length) ∧ Kp0 w w')) := fun W k =>
    (xcells_calls s t x.f _ W hg).mono (fun e w' ⟨v, h1, h2⟩ => ⟨v, h1, h2, by obtain ⟨_, _, _, _, h3, _⟩ := h2; exact Kp0.trans k h3⟩)
  generalize hP : gc s t x.f s.length = P at *
  have hin := hg.inside
  rw [hP] at hin
  have HR : Hid (∀ W vp W0, Kp0 w W → NewI W0 W vp P → Calls Tryz.prog 195 #[.pointer (some ⟨L.q1, 0, none⟩), vp] W fun e w' => ∃ v, e = .returned v ∧ NewI w w' v (P.map fun c => nth X.c1 c.toNat)) := fun W vp W0 k hn => by
    have hr0 : RdI W vp P := by obtain ⟨_, _, rfl, h1, _⟩ := hn; exact h1.rd
    refine (xReadB_calls (h.kp0 k).s1 P vp hr0 hin hw hlen).mono ?_
    rintro e w' ⟨v, rfl, ao, c, rfl, h1, h2, h3⟩
    exact ⟨_, rfl, ao, c, rfl, h1, Kp0.trans k h2, fun b hb => Nat.le_trans k.size (h3 b hb)⟩
  generalize (P.map fun c => nth X.c1 c.toNat) = V at *
  have HO : Hid (∀ W, Kp0 w W → Calls Tryz.prog 62 #[.pointer (some ⟨p, 0, none⟩), .int .i64 1] W fun e w' => e = .returned (.tuple #[L.inV 1, .bool true]) ∧ w' = W) := fun W k => xstoreOf_calls (h.kp0 k) 1 (by omega)
  rw [inVB] at HO
  unfold XA.cs
  rw [hk]
  unfold grC at HC HS
  unfold shC at HS ⊢
  generalize s.length = m at *
  generalize x.l.length = n at *
  have HMR := hid (Tryz.mReadB ⟨L.q1, 0, none⟩)
  clear h hg hg0 hw hlen hP hin hb hs ht
  go_enter Tryz.func134, Tryz.ntmps134
  go_wp2_with fail
  obtain ⟨hB0, hB1⟩ := two_heap w (.cells #[.int .i64 1, .int .i64 x.buf, .int .i64 (nth x.l 0), .int .i64 (nth x.l 1), .int .i64 (nth x.l 2), .int .i64 (nth x.l 3), .int .i64 (n : Int), .int .i64 x.f, .int .i64 (nth x.t 0), .int .i64 (nth x.t 1), .int .i64 (nth x.t 2), .int .i64 (nth x.t 3), .bool x.ro] 109) (shB s m)
  have HB0 := hid hB0
  clear hB0 hB1
  refine (HS.out _).mono ?_
  rintro e w2 ⟨rfl, hw⟩
  have HK : Hid (Kp0 w w2) := Kp0.trans (((Kp.refl _ w).alloc _).alloc _) hw
  have HB2 := hid (hw.heap HB0.out)
  clear hw HB0
  obtain ⟨b0, hb0⟩ : ∃ b0, w.heap.size = b0 := ⟨_, rfl⟩
  rw [hb0] at HB2 ⊢
  clear hb0
  have hlt : b0 < w2.heap.size := lt_of_heap HB2.out
  have y0 := (cells13 HB2.out).1
  go_wp2_with fail
  refine (HO.out _ (HK.out.alloc _)).mono ?_
  rintro e w3 ⟨rfl, hw⟩
  obtain rfl := hw.symm
  clear hw
  have HB : Hid ((w2.alloc (grB s t x.f m)).heap[w2.heap.size]? = some (grB s t x.f m)) := heap_alloc_new w2 _
  have HKW : Hid (Kp0 w (w2.alloc (grB s t x.f m))) := HK.out.alloc _
  clear y0
  go_wp2
  generalize w2.alloc (grB s t x.f m) = W at HB HKW ⊢
  generalize w2.heap.size = b at HB ⊢
  obtain ⟨z0, z1, z2, z3, z4, z5, z6, z7, z8, z9⟩ := cells10 HB.out
  have HKD : Hid (Kp0 w W.drew) := HKW.out.drew
  have hna := Tryz.nReadB ⟨L.q1, 0, none⟩
  go_region_law ((first
    | (refine step_call1 (by rfl) 60 (.tmp 29) _ (by rfl) _ Tryz.func60 (by kernel_rfl) (by kernel_rfl) _ (by rfl) (HC.out _ HKD.out) ?_; intro v7 w7 hR; obtain ⟨hn7, hk7⟩ := hR)
    | (refine step_invoke1 (by rfl) (.tmp 33) "Read" (.tmp 30) _ (by rfl) _ v7 (by rfl) (by rfl) _ _ (HMR.out v7 w7) (HR.out w7 v7 W.drew hk7 hn7) ?_; intro v8 w8 hR8)))
  all_goals
    have HR8 := hid hR8
    clear hR8 hn7 hk7
    go_wp2
    go_ret2
    exact ⟨_, rfl, HR8.out⟩

end Go.Proofs.YticbbncdcannlaaGreat

/- The program's space, walked at an array of int64: valuesOver. -/
namespace Go.Proofs.YticbbncdcannlaaGreat
open Go.RowKit Go.Maps Go.ChangeMaps Go.MapKept

theorem str_okI {l t s : List Int} {f M : Int} (hg : GOk l t f M) (hs : okShape s) (h : stretchB l s = true) : GOk s (strT l t s) f M := by
  obtain ⟨h1, h2⟩ := (stretchB_iff l s).1 h
  refine hg.view hs (by unfold strT; rw [mkL_length]; exact Nat.le_refl _) (fun k hk hk1 => ?_) (meantOf l s) (fun i hi => meantOf_in l s i hg.shape.2.1 h1 h2 hi) (fun i hi => by rw [str_dot h1 hg.unit hg.shape.2.1 i])
  unfold strT
  rw [mkL_nth, if_pos hk]
  split
  · rename_i hd
    have h3 := h2 (k - (s.length - l.length)) (by omega)
    rw [show s.length - l.length + (k - (s.length - l.length)) = k by omega] at h3
    exact hg.unit _ (by omega) (by omega)
  · rfl

set_option maxRecDepth 100000 in
set_option maxHeartbeats 2000000 in
theorem xvaluesOverI {T : Tags} {o : Nat} {w : World} {p : Nat} {L : XL} {X : XS} (h : XAt T o w p L X) (x : XA) (hk : x.kind = 2) (hg0 : GOk x.l x.t x.f X.c2.length) (s : List Int) (hs : okShape s) (hb : stretchB x.l s = true) (hw : ∀ j, j < X.c2.length → IntKind.i64.wrap (nth X.c2 j) = nth X.c2 j) :
    Calls Tryz.prog 134 #[.pointer (some ⟨p, 0, none⟩), .agg x.cs, .agg (shC s).toArray] w fun e w' => ∃ v, e = .returned (.tuple #[v, .bool true]) ∧ NewI w w' v ((gc s (strT x.l x.t s) x.f s.length).map fun c => nth X.c2 c.toNat) := by
  have HS : Hid (∀ W, Calls Tryz.prog 127 #[.agg (grC x.l x.t x.f).toArray, .agg (shC s).toArray] W fun e w' => e = .returned (.tuple #[.agg (grC s (strT x.l x.t s) x.f).toArray, .bool true]) ∧ Kp0 W w') := fun W => by
    refine (xgstr_calls x.l x.t s x.f W hg0.shape.1 hs.1).mono ?_
    rintro e w' ⟨h | h, hk⟩
    · exact ⟨h.2, hk⟩
    · rw [hb] at h; exact absurd h.1 (by simp)
  have hg := str_okI hg0 hs hb
  obtain ⟨t, ht⟩ : ∃ t, t = strT x.l x.t s := ⟨_, rfl⟩
  rw [← ht] at hg HS ⊢
  have hlen : (gc s t x.f s.length).length ≤ 1000000 := by
    have h1 := gc_length s t x.f hg.shape.2.1 s.length (Nat.le_refl _)
    rw [List.take_length] at h1
    have := hg.shape.2.2
    omega
  have HC : Hid (∀ W, Kp0 w W → Calls Tryz.prog 60 #[.agg (grC s t x.f).toArray] W fun e w' => ∃ v, e = .returned v ∧ (NewI W w' v (gc s t x.f s.length) ∧ Kp0 w w')) := fun W k =>
    (xcells_calls s t x.f _ W hg).mono (fun e w' ⟨v, h1, h2⟩ => ⟨v, h1, h2, by obtain ⟨_, _, _, _, h3, _⟩ := h2; exact Kp0.trans k h3⟩)
  generalize hP : gc s t x.f s.length = P at *
  have hin := hg.inside
  rw [hP] at hin
  have HR : Hid (∀ W vp W0, Kp0 w W → NewI W0 W vp P → Calls Tryz.prog 215 #[.pointer (some ⟨L.q2, 0, none⟩), vp] W fun e w' => ∃ v, e = .returned v ∧ NewI w w' v (P.map fun c => nth X.c2 c.toNat)) := fun W vp W0 k hn => by
    have hr0 : RdI W vp P := by obtain ⟨_, _, rfl, h1, _⟩ := hn; exact h1.rd
    refine (xReadI_calls (h.kp0 k).s2 P vp hr0 hin hw hlen).mono ?_
    rintro e w' ⟨v, rfl, ao, c, rfl, h1, h2, h3⟩
    exact ⟨_, rfl, ao, c, rfl, h1, Kp0.trans k h2, fun b hb => Nat.le_trans k.size (h3 b hb)⟩
  generalize (P.map fun c => nth X.c2 c.toNat) = V at *
  have HO : Hid (∀ W, Kp0 w W → Calls Tryz.prog 62 #[.pointer (some ⟨p, 0, none⟩), .int .i64 2] W fun e w' => e = .returned (.tuple #[L.inV 2, .bool true]) ∧ w' = W) := fun W k => xstoreOf_calls (h.kp0 k) 2 (by omega)
  rw [inVI] at HO
  unfold XA.cs
  rw [hk]
  unfold grC at HC HS
  unfold shC at HS ⊢
  generalize s.length = m at *
  generalize x.l.length = n at *
  have HMR := hid (Tryz.mReadI ⟨L.q2, 0, none⟩)
  clear h hg hg0 hw hlen hP hin hb hs ht
  go_enter Tryz.func134, Tryz.ntmps134
  go_wp2_with fail
  obtain ⟨hB0, hB1⟩ := two_heap w (.cells #[.int .i64 2, .int .i64 x.buf, .int .i64 (nth x.l 0), .int .i64 (nth x.l 1), .int .i64 (nth x.l 2), .int .i64 (nth x.l 3), .int .i64 (n : Int), .int .i64 x.f, .int .i64 (nth x.t 0), .int .i64 (nth x.t 1), .int .i64 (nth x.t 2), .int .i64 (nth x.t 3), .bool x.ro] 109) (shB s m)
  have HB0 := hid hB0
  clear hB0 hB1
  refine (HS.out _).mono ?_
  rintro e w2 ⟨rfl, hw⟩
  have HK : Hid (Kp0 w w2) := Kp0.trans (((Kp.refl _ w).alloc _).alloc _) hw
  have HB2 := hid (hw.heap HB0.out)
  clear hw HB0
  obtain ⟨b0, hb0⟩ : ∃ b0, w.heap.size = b0 := ⟨_, rfl⟩
  rw [hb0] at HB2 ⊢
  clear hb0
  have hlt : b0 < w2.heap.size := lt_of_heap HB2.out
  have y0 := (cells13 HB2.out).1
  go_wp2_with fail
  refine (HO.out _ (HK.out.alloc _)).mono ?_
  rintro e w3 ⟨rfl, hw⟩
  obtain rfl := hw.symm
  clear hw
  have HB : Hid ((w2.alloc (grB s t x.f m)).heap[w2.heap.size]? = some (grB s t x.f m)) := heap_alloc_new w2 _
  have HKW : Hid (Kp0 w (w2.alloc (grB s t x.f m))) := HK.out.alloc _
  clear y0
  go_wp2
  generalize w2.alloc (grB s t x.f m) = W at HB HKW ⊢
  generalize w2.heap.size = b at HB ⊢
  obtain ⟨z0, z1, z2, z3, z4, z5, z6, z7, z8, z9⟩ := cells10 HB.out
  have HKD : Hid (Kp0 w W.drew) := HKW.out.drew
  have hna := Tryz.nReadI ⟨L.q2, 0, none⟩
  go_region_law ((first
    | (refine step_call1 (by rfl) 60 (.tmp 29) _ (by rfl) _ Tryz.func60 (by kernel_rfl) (by kernel_rfl) _ (by rfl) (HC.out _ HKD.out) ?_; intro v7 w7 hR; obtain ⟨hn7, hk7⟩ := hR)
    | (refine step_invoke1 (by rfl) (.tmp 33) "Read" (.tmp 30) _ (by rfl) _ v7 (by rfl) (by rfl) _ _ (HMR.out v7 w7) (HR.out w7 v7 W.drew hk7 hn7) ?_; intro v8 w8 hR8)))
  all_goals
    have HR8 := hid hR8
    clear hR8 hn7 hk7
    go_wp2
    go_ret2
    exact ⟨_, rfl, HR8.out⟩

end Go.Proofs.YticbbncdcannlaaGreat

/- The program's package grid, walked: Layers. -/
namespace Go.Proofs.YticbbncdcannlaaGreat
open Go.RowKit

theorem laidAt_get (cur : Array Value) (o : Nat) (cs : List Value) (h : o + cs.length ≤ cur.size) (j : Nat) : (laidAt cur o cs)[j]? = if o ≤ j ∧ j < o + cs.length then cs[j - o]? else cur[j]? := by
  unfold laidAt
  rw [List.getElem?_toArray]
  have h1 : (cur.toList.take o).length = o := by simp; omega
  by_cases ha : j < o
  · rw [if_neg (by omega), List.append_assoc, List.getElem?_append_left (by omega), List.getElem?_take_of_lt ha, Array.getElem?_toList]
  · by_cases hb : j < o + cs.length
    · rw [if_pos (by omega), List.append_assoc, List.getElem?_append_right (by omega), h1, List.getElem?_append_left (by omega)]
    · rw [if_neg (by omega), List.getElem?_append_right (by rw [List.length_append]; omega), List.length_append, h1, List.getElem?_drop, show o + cs.length + (j - (o + cs.length)) = j by omega, Array.getElem?_toList]

/-- Rows of ten cells: the first N. -/
def TenRows (cur : Array Value) (R : Nat → List Value) (N : Nat) : Prop := ∀ q, q < N → ∀ c, c < 10 → cur[q * 10 + c]? = (R q)[c]?

theorem TenRows.more {cur : Array Value} {R : Nat → List Value} {N : Nat} (h : TenRows cur R N) (hs : N * 10 + 10 ≤ cur.size) (hl : (R N).length = 10) : TenRows (laidAt cur (N * 10) (R N)) R (N + 1) := fun q hq c hc => by
  rw [laidAt_get _ _ _ (by omega)]
  by_cases e : q = N
  · subst e
    rw [if_pos (by omega), show q * 10 + c - q * 10 = c by omega]
  · rw [if_neg (by omega)]
    exact h q (by omega) c hc

theorem info_grid : ∃ i z, Tryz.prog.info? 107 = some i ∧ i.zero = some z ∧ i.size = 10 ∧ i.bytes ≤ 100 := by
  have h : (Tryz.prog.info? 107).map (fun i => (i.zero.isSome, i.size, decide (i.bytes ≤ 100))) = some (true, 10, true) := by kernel_rfl
  cases hi : Tryz.prog.info? 107 with
  | none => rw [hi] at h; simp at h
  | some i =>
    rw [hi] at h
    simp at h
    obtain ⟨h1, h2, h3⟩ := h
    obtain ⟨z, hz⟩ := Option.isSome_iff_exists.1 h1
    exact ⟨i, z, rfl, hz, h2, h3⟩

theorem mk_grids (N : Nat) (hN : N ≤ 60) (W : World) : ∃ cur : Array Value, cur.size = N * 10 ∧ (Instr.makeSlice 140 (.int .i64 (N : Int)) (.int .i64 (N : Int))).run Tryz.prog W = .ok (.slice (some ⟨W.heap.size, 0, none⟩) N N) (W.alloc (.cells cur 107)) := by
  obtain ⟨i, z, h1, h2, h3, h4⟩ := info_grid
  have hb : (i.bytes : Int) * (N : Int) ≤ 281474976710656 := by
    have : i.bytes * N ≤ 100 * 60 := Nat.mul_le_mul h4 hN
    omega
  have := run_make (P := Tryz.prog) W 140 107 i z Tryz.underlying140 h1 h2 .i64 .i64 N N (by omega) (Int.le_refl _) hb (by omega)
  rw [h3] at this
  exact ⟨_, size_madeCells _ _, this⟩

set_option maxRecDepth 100000 in
set_option maxHeartbeats 4000000 in
theorem xLayers_no (l t : List Int) (f axis : Int) (w : World) (_hl : l.length ≤ 4) (h : axis < 0 ∨ (l.length : Int) ≤ axis) :
    Calls Tryz.prog 69 #[.agg (grC l t f).toArray, .int .i64 axis] w fun e w' => e = .returned (.tuple #[.slice none 0 0, .bool false]) ∧ Kp0 w w' := by
  have HA : Hid (∀ W, Calls Tryz.prog 93 #[.agg (shC l).toArray, .int .i64 axis] W fun e w' => e = .returned (.bool false) ∧ Kp0 W w') := hid (fun W => by
    have := xhasAxis_calls l axis W
    rw [show (decide (0 ≤ axis) && decide (axis < (l.length : Int))) = false by simp; omega] at this
    exact this)
  unfold shC at HA
  unfold grC
  generalize l.length = n at *
  clear h
  go_enter Tryz.func69, Tryz.ntmps69
  go_wp2_with fail
  refine (HA.out _).mono ?_
  rintro e w2 ⟨rfl, hw⟩
  have HK : Hid (Kp0 w w2) := Kp0.trans ((Kp.refl _ w).alloc _) hw
  clear hw
  go_wp2
  go_ret2
  exact ⟨rfl, HK.out⟩

set_option maxRecDepth 100000 in
set_option maxHeartbeats 4000000 in
theorem xLayers_yes (l t : List Int) (f : Int) (k N : Nat) (w : World) (M : Int) (hg : GOk l t f M) (hk : k < l.length) (hN : nth l k = (N : Int)) (hf : 0 ≤ f ∧ f ≤ 1000000) (ht : -1000000 ≤ nth t k ∧ nth t k ≤ 1000000) :
    Calls Tryz.prog 69 #[.agg (grC l t f).toArray, .int .i64 (k : Int)] w fun e w' => ∃ g, e = .returned (.tuple #[.slice (some ⟨g, 0, none⟩) N N, .bool true]) ∧ Kp0 w w' ∧ w.heap.size ≤ g ∧ ∃ cur, w'.heap[g]? = some (.cells cur 107 (0, 0)) ∧ cur.size = N * 10 ∧ TenRows cur (fun q => grC (foldS l k) (foldS t k) (f + (q : Int) * nth t k)) N := by
  have h6 := hg.shape.2.1 k hk
  have hN6 : 1 ≤ N ∧ N ≤ 60 := by omega
  have HA : Hid (∀ W, Calls Tryz.prog 93 #[.agg (shC l).toArray, .int .i64 (k : Int)] W fun e w' => e = .returned (.bool true) ∧ Kp0 W w') := hid (fun W => by
    have := xhasAxis_calls l (k : Int) W
    rw [show (decide (0 ≤ (k : Int)) && decide ((k : Int) < (l.length : Int))) = true by simp; omega] at this
    exact this)
  obtain ⟨R, hR⟩ : ∃ R : Nat → List Value, R = fun q : Nat => grC (foldS l k) (foldS t k) (f + (q : Int) * nth t k) := ⟨_, rfl⟩
  have HLY : Hid (∀ W (q : Nat), q < N → Calls Tryz.prog 100 #[.agg (grC l t f).toArray, .int .i64 (k : Int), .int .i64 (q : Int)] W fun e w' => e = .returned (.agg (R q).toArray) ∧ Kp0 W w') := hid (fun W q hq => by
    rw [hR]
    exact xlayer_calls l t f M k q W hg hk (by omega) hf ht)
  have HRL : Hid (∀ q, (R q).length = 10 ∧ (R q).toArray.all (·.oneCell') = true) := hid (fun q => by
    rw [hR]
    exact ⟨rfl, all10 rfl rfl rfl rfl rfl rfl rfl rfl rfl rfl⟩)
  rw [← hR]
  have hk4 : k < 4 := by have := hg.shape.1; omega
  have k4 : (k : Int) < 4 := by omega
  have HNK := hid hN
  unfold shC at HA
  unfold grC at HLY ⊢
  generalize l.length = n at *
  have HB0 : Hid ((w.alloc (grB l t f n)).heap[w.heap.size]? = some (grB l t f n)) := heap_alloc_new w _
  have HK0 : Hid (Kp0 w (w.alloc (grB l t f n))) := (Kp.refl _ w).alloc _
  clear hg hk hN h6 hR hf ht
  go_enter Tryz.func69, Tryz.ntmps69
  go_wp2_with fail
  refine (HA.out _).mono ?_
  rintro e w2 ⟨rfl, hw⟩
  have HK : Hid (Kp0 w w2) := HK0.out.trans hw
  have HB2 := hid (hw.heap HB0.out)
  have HSZ : Hid (w.heap.size < w2.heap.size) := hid (lt_of_heap HB2.out)
  clear hw HK0 HB0
  obtain ⟨b0, hb0⟩ : ∃ b0, w.heap.size = b0 := ⟨_, rfl⟩
  have HW0 := hid hb0
  rw [hb0] at HB2 HSZ ⊢
  clear hb0
  obtain ⟨cur0, hc0, hmk⟩ := mk_grids N hN6.2 w2
  have s1 := gr_sizes HB2.out k hk4
  rw [HNK.out] at s1
  go_wp2
  obtain ⟨g, hgz⟩ : ∃ g, w2.heap.size = g := ⟨_, rfl⟩
  have HG0 : Hid ((w2.alloc (.cells cur0 107)).heap[g]? = some (.cells cur0 107 (0, 0))) := hid (by rw [← hgz]; exact heap_alloc_new w2 _)
  have HB3 : Hid ((w2.alloc (.cells cur0 107)).heap[b0]? = some (grB l t f n)) := heap_alloc_keeps HB2.out _
  have HK3 : Hid (Kp0 w (w2.alloc (.cells cur0 107))) := HK.out.alloc _
  have hgb : b0 < g := by have := HSZ.out; omega
  rw [hgz]
  have HC0 := hid hc0
  clear hmk s1 hgz hc0 HB2 HK HSZ
  generalize w2.alloc (.cells cur0 107) = W at *
  go_loopw [7, 21] (fun _ a w' => ∃ q : Nat, q ≤ N ∧ a = .int .i64 q ∧ Hid (Kp0 w w') ∧ Hid (w'.heap[b0]? = some (grB l t f n)) ∧ ∃ cur, Hid (w'.heap[g]? = some (.cells cur 107 (0, 0))) ∧ Hid (cur.size = N * 10 ∧ TenRows cur R q)) (fun _ a _ => N - (intOf a).toNat)
  case atStart => exact ⟨0, Nat.zero_le _, rfl, HK3, HB3, cur0, HG0, hid ⟨HC0.out, fun q hq => by omega⟩⟩
  case round =>
    clear HG0 HB3 HK3
    obtain ⟨q, hq, rfl, HK, HB, cur, HG, HC⟩ := hrel
    by_cases hlt : q < N
    · have q1 : (q : Int) < (N : Int) := by omega
      have q0 : (0 : Int) ≤ (q : Int) := by omega
      obtain ⟨y0, y1, y2, y3, y4, y5, y6, y7, y8, y9⟩ := cells10 HB.out
      go_wp2_with fail
      refine (HLY.out _ q hlt).mono ?_
      rintro e w5 ⟨rfl, hw⟩
      have HK5 : Hid (Kp0 w w5) := HK.out.trans hw
      have HB5 := hid (hw.heap HB.out)
      have HG5 := hid (hw.heap HG.out)
      clear hw y0 y1 y2 y3 y4 y5 y6 y7 y8 y9
      have HSS : Hid (q * 10 + (R q).toArray.size ≤ cur.size) := hid (by rw [HC.out.1]; simp [(HRL.out q).1]; omega)
      have HSI : Hid ((Tryz.prog.info? 107).map (·.size) = some (R q).toArray.size) := hid (by rw [Tryz.szGrid]; simp [(HRL.out q).1])
      go_wp2_with (refine wpList_storeMid _ rfl 107 107 (.tmp 30) _ rfl g (q * 10) cur (R q).toArray rfl rfl HG5.out HSI.out HSS.out (HRL.out q).2 ?_; intro w6 hB6 hK6)
      have HK6 : Hid (Kp0 w w6) := Kp.trans HK5.out hK6 (fun i hi e => by have := HW0.out; omega)
      have HB6 := hid (hK6.heap HB5.out (by omega))
      refine ⟨⟨q + 1, by omega, by go_num, HK6, HB6, _, hid hB6, hid ⟨?_, ?_⟩⟩, by simp [intOf]; omega⟩
      · rw [laidAt_size (by rw [HC.out.1]; simp [(HRL.out q).1]; omega)]
        exact HC.out.1
      · exact HC.out.2.more (by rw [HC.out.1]; omega) (HRL.out q).1
    · obtain rfl : q = N := by omega
      have q1 : ¬ (q : Int) < (q : Int) := by omega
      go_wp2
      go_ret2
      exact ⟨g, rfl, HK.out, by have := HW0.out; omega, cur, HG.out, HC.out.1, HC.out.2⟩

end Go.Proofs.YticbbncdcannlaaGreat
