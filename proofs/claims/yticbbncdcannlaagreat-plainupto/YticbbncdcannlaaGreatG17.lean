/- The program's space, walked: Store, Look. -/
import Derived.Test.YticbbncdcannlaaGreatG16
import Derived.Test.YticbbncdcannlaaGreatG15

namespace Go.Proofs.YticbbncdcannlaaGreat
open Go.RowKit Go.Maps Go.ChangeMaps Go.MapKept

theorem Tryz.szLook : (Tryz.prog.info? 96).map (·.size) = some 3 := by kernel_rfl

set_option maxRecDepth 100000 in
set_option maxHeartbeats 2000000 in
theorem xStore_none (p : Nat) (w : World) (kind : Int) (h1 : kind ≠ 1) (h2 : kind ≠ 2) :
    Calls Tryz.prog 27 #[.pointer (some ⟨p, 0, none⟩), .int .i64 kind] w fun e w' => e = .returned (.tuple #[.agg #[.int .i64 0, .int .i64 0, .int .i64 0], .int .i64 3]) ∧ Kp0 w w' := by
  have HS := hid (fun W => xstoreOf_none p W kind h1 h2)
  go_enter Tryz.func27, Tryz.ntmps27
  go_wp2_with fail
  refine (HS.out _).mono ?_
  rintro e w2 ⟨rfl, hw⟩
  obtain rfl := hw.symm
  go_wp2
  go_returns
  exact ⟨rfl, (Kp.refl _ w).alloc _⟩

/-- What Store tells. -/
def XS.told (X : XS) (kind : Int) : Int × Int × Int := if kind = 1 then (X.c1.length, sumTo X.b1 X.b1.length, endTo X.b1 X.b1.length) else (X.c2.length, sumTo X.b2 X.b2.length, endTo X.b2 X.b2.length)

set_option maxRecDepth 100000 in
set_option maxHeartbeats 2000000 in
theorem xStore_some {T : Tags} {o : Nat} {w : World} {p : Nat} {L : XL} {X : XS} (h : XAt T o w p L X) (kind : Int) (hk : kind = 1 ∨ kind = 2) (i1 : bufsIn X.c1.length X.b1) (i2 : bufsIn X.c2.length X.b2) (c1 : X.c1.length ≤ 10000) (c2 : X.c2.length ≤ 10000) (l1 : X.b1.length ≤ 100000000) (l2 : X.b2.length ≤ 100000000) :
    Calls Tryz.prog 27 #[.pointer (some ⟨p, 0, none⟩), .int .i64 kind] w fun e w' => e = .returned (.tuple #[.agg #[.int .i64 (X.told kind).1, .int .i64 (X.told kind).2.1, .int .i64 (X.told kind).2.2], .int .i64 0]) ∧ Kp0 w w' := by
  have HS := hid (fun W (k : Kp0 w W) => xstoreOf_calls (h.kp0 k) kind hk)
  have H1 : Hid (∀ W, Kp0 w W → Calls Tryz.prog 196 #[.pointer (some ⟨L.q1, 0, none⟩)] W fun e w' => e = .returned (.agg #[.int .i64 (X.told 1).1, .int .i64 (X.told 1).2.1, .int .i64 (X.told 1).2.2]) ∧ Kp0 W w') := fun W k => xStateB_calls (h.kp0 k).s1 i1 c1 l1
  have H2 : Hid (∀ W, Kp0 w W → Calls Tryz.prog 216 #[.pointer (some ⟨L.q2, 0, none⟩)] W fun e w' => e = .returned (.agg #[.int .i64 (X.told 2).1, .int .i64 (X.told 2).2.1, .int .i64 (X.told 2).2.2]) ∧ Kp0 W w') := fun W k => xStateI_calls (h.kp0 k).s2 i2 c2 l2
  have HB : Hid ((w.alloc (.cells #[.int .i64 0, .int .i64 0, .int .i64 0] 61)).heap[w.heap.size]? = some (.cells #[.int .i64 0, .int .i64 0, .int .i64 0] 61 (0, 0))) := heap_alloc_new w _
  have HKW : Hid (Kp0 w (w.alloc (.cells #[.int .i64 0, .int .i64 0, .int .i64 0] 61))) := (Kp.refl _ w).alloc _
  have HBB : Hid (w.heap.size = w.heap.size) := rfl
  clear h i1 i2 c1 c2 l1 l2
  rcases hk with rfl | rfl
  · generalize (X.told 1).1 = a1 at *
    generalize (X.told 1).2.1 = a2 at *
    generalize (X.told 1).2.2 = a3 at *
    go_enter Tryz.func27, Tryz.ntmps27
    go_wp2_with fail
    refine (HS.out _ HKW.out).mono ?_
    rintro e w2 ⟨rfl, hw⟩
    obtain rfl := hw.symm
    rw [show L.inV 1 = .iface 126 (.pointer (some ⟨L.q1, 0, none⟩)) from rfl]
    go_wp2_with fail
    refine (H1.out _ HKW.out).mono ?_
    rintro e w3 ⟨rfl, hw⟩
    have HB3 := hid (hw.heap HB.out)
    have HK3 : Hid (Kp0 w w3) := Kp0.trans HKW.out hw
    clear hw
    go_wp2_with (refine wpList_storeRow _ rfl 61 (.tmp 4) _ rfl w.heap.size _ _ rfl rfl HB3.out Tryz.szStoreB rfl (all3 rfl rfl rfl) ?_; intro w5 hB5 hK5)
    (try simp only [Exit.inBlock, Exit.then])
    refine bodyPost_ret (res_cell2 rfl _ _ w.heap.size _ _ _ _ rfl hB5 Tryz.underlying61 rfl Tryz.szStoreB) rfl ?_
    exact ⟨rfl, Kp.trans HK3.out hK5 (fun i hi e => by omega)⟩
  · generalize (X.told 2).1 = a1 at *
    generalize (X.told 2).2.1 = a2 at *
    generalize (X.told 2).2.2 = a3 at *
    go_enter Tryz.func27, Tryz.ntmps27
    go_wp2_with fail
    refine (HS.out _ HKW.out).mono ?_
    rintro e w2 ⟨rfl, hw⟩
    obtain rfl := hw.symm
    rw [show L.inV 2 = .iface 127 (.pointer (some ⟨L.q2, 0, none⟩)) from rfl]
    go_wp2_with fail
    refine (H2.out _ HKW.out).mono ?_
    rintro e w3 ⟨rfl, hw⟩
    have HB3 := hid (hw.heap HB.out)
    have HK3 : Hid (Kp0 w w3) := Kp0.trans HKW.out hw
    clear hw
    go_wp2_with (refine wpList_storeRow _ rfl 61 (.tmp 4) _ rfl w.heap.size _ _ rfl rfl HB3.out Tryz.szStoreB rfl (all3 rfl rfl rfl) ?_; intro w5 hB5 hK5)
    (try simp only [Exit.inBlock, Exit.then])
    refine bodyPost_ret (res_cell2 rfl _ _ w.heap.size _ _ _ _ rfl hB5 Tryz.underlying61 rfl Tryz.szStoreB) rfl ?_
    exact ⟨rfl, Kp.trans HK3.out hK5 (fun i hi e => by omega)⟩

set_option maxRecDepth 100000 in
set_option maxHeartbeats 2000000 in
theorem xLook_none {T : Tags} {o : Nat} {w : World} {p : Nat} {L : XL} {X : XS} (h : XAt T o w p L X) (hd : Int) (hA : X.A hd = none) :
    Calls Tryz.prog 49 #[.pointer (some ⟨p, 0, none⟩), .int .i64 hd] w fun e w' => e = .returned (.tuple #[.agg #[.int .i64 0, .slice none 0 0, .bool false], .int .i64 2]) ∧ Kp0 w w' := by
  have HF := hid (fun W (k : Kp0 w W) => xfind_none (h.kp0 k) hd hA)
  unfold xaZ at HF
  have HB : Hid ((w.alloc (.cells #[.int .i64 0, .slice none 0 0, .bool false] 96)).heap[w.heap.size]? = some (.cells #[.int .i64 0, .slice none 0 0, .bool false] 96 (0, 0))) := heap_alloc_new w _
  have HKW : Hid (Kp0 w (w.alloc (.cells #[.int .i64 0, .slice none 0 0, .bool false] 96))) := (Kp.refl _ w).alloc _
  clear h hA
  go_enter Tryz.func49, Tryz.ntmps49
  go_wp2_with fail
  refine (HF.out _ HKW.out).mono ?_
  rintro e w2 ⟨rfl, hw⟩
  have HB3 : Hid (∀ O, (w2.alloc O).heap[w.heap.size]? = some (.cells #[.int .i64 0, .slice none 0 0, .bool false] 96 (0, 0))) := fun O => heap_alloc_keeps (hw.heap HB.out) O
  have HK3 : Hid (Kp0 w w2) := Kp0.trans HKW.out hw
  clear hw
  go_wp2_with (refine wpList_storeRow _ rfl 96 (.tmp 4) _ rfl w.heap.size _ _ rfl rfl (HB3.out _) Tryz.szLook rfl (all3 rfl rfl rfl) ?_; intro w5 hB5 hK5)
  (try simp only [Exit.inBlock, Exit.then])
  refine bodyPost_ret (res_cell2 rfl _ _ w.heap.size _ _ _ _ rfl hB5 Tryz.underlying96 rfl Tryz.szLook) rfl ?_
  exact ⟨rfl, Kp.trans (HK3.out.alloc _) hK5 (fun i hi e => by omega)⟩

end Go.Proofs.YticbbncdcannlaaGreat

/- The program's space, walked: Look, isMany. -/
namespace Go.Proofs.YticbbncdcannlaaGreat
open Go.RowKit Go.Maps Go.ChangeMaps Go.MapKept

set_option maxRecDepth 100000 in
set_option maxHeartbeats 4000000 in
theorem xLook_some {T : Tags} {o : Nat} {w : World} {p : Nat} {L : XL} {X : XS} (h : XAt T o w p L X) (hd : Int) (x : XA) (hA : X.A hd = some x) (hk : x.kind = 1 ∨ x.kind = 2) (hl : x.l.length ≤ 4) :
    Calls Tryz.prog 49 #[.pointer (some ⟨p, 0, none⟩), .int .i64 hd] w fun e w' => ∃ v, e = .returned (.tuple #[.agg #[.int .i64 x.kind, v, .bool x.ro], .int .i64 0]) ∧ NewI w w' v x.l := by
  have HF := hid (fun W (k : Kp0 w W) => xfind_some (h.kp0 k) hd x hA hk)
  unfold XA.cs at HF
  generalize L.inV x.kind = I at *
  have HB : Hid ((w.alloc (.cells #[.int .i64 0, .slice none 0 0, .bool false] 96)).heap[w.heap.size]? = some (.cells #[.int .i64 0, .slice none 0 0, .bool false] 96 (0, 0))) := heap_alloc_new w _
  have HKW : Hid (Kp0 w (w.alloc (.cells #[.int .i64 0, .slice none 0 0, .bool false] 96))) := (Kp.refl _ w).alloc _
  obtain ⟨b0, hb0⟩ : ∃ b0, w.heap.size = b0 := ⟨_, rfl⟩
  have HLC : Hid (∀ W, Kp0 w W → W.heap[b0]? = some (.cells #[.int .i64 0, .slice none 0 0, .bool false] 96 (0, 0)) → Calls Tryz.prog 84 #[.agg (shC x.l).toArray] W fun e w' => ∃ v, e = .returned v ∧ (∃ ao n c, v = .slice ao n c ∧ Hid (NewI w w' v x.l ∧ w'.heap[b0]? = some (.cells #[.int .i64 0, .slice none 0 0, .bool false] 96 (0, 0)) ∧ Kp0 w w' ∧ Kp0 W w' ∧ ∀ b, v.ownBlock = some b → b ≠ b0) ∧
      (w'.cell? ⟨b0, 0, none⟩ = some (.int .i64 0) ∧ w'.cell? ⟨b0, 1, none⟩ = some (.slice none 0 0) ∧ w'.cell? ⟨b0, 2, none⟩ = some (.bool false)) ∧ (w'.frozen? ⟨b0, 0, none⟩ = false ∧ w'.frozen? ⟨b0, 1, none⟩ = false ∧ w'.frozen? ⟨b0, 2, none⟩ = false))) := fun W k hb => by
    refine (xlist_calls x.l W hl).mono ?_
    rintro e w' ⟨v, rfl, ao, c, rfl, h1, h2, h3⟩
    have hb' := h2.heap hb
    exact ⟨_, rfl, ao, _, c, rfl, ⟨⟨ao, c, rfl, h1, Kp0.trans k h2, fun b e => Nat.le_trans k.size (h3 b e)⟩, hb', Kp0.trans k h2, h2, fun b e => by have := h3 b e; have := lt_of_heap hb; omega⟩, ⟨cell_of_row _ _ 0 _ _ _ hb', cell_of_row _ _ 1 _ _ _ hb', cell_of_row _ _ 2 _ _ _ hb'⟩, frozen_of_row _ _ _ _ _ hb', frozen_of_row _ _ _ _ _ hb', frozen_of_row _ _ _ _ _ hb'⟩
  unfold shC at HLC
  rw [hb0] at HB
  have HBB := hid hb0
  clear h hA hl
  go_enter Tryz.func49, Tryz.ntmps49
  go_wp2_with fail
  refine (HF.out _ HKW.out).mono ?_
  rintro e w2 ⟨rfl, hw⟩
  have HB2 := hid (hw.heap HB.out)
  have HK2 : Hid (Kp0 w w2) := Kp0.trans HKW.out hw
  clear hw
  clear hb0
  have hlt : b0 < w2.heap.size := lt_of_heap HB2.out
  have HBA : Hid ((w2.alloc (.cells #[.int .i64 x.kind, .int .i64 x.buf, .int .i64 (nth x.l 0), .int .i64 (nth x.l 1), .int .i64 (nth x.l 2), .int .i64 (nth x.l 3), .int .i64 (x.l.length : Int), .int .i64 x.f, .int .i64 (nth x.t 0), .int .i64 (nth x.t 1), .int .i64 (nth x.t 2), .int .i64 (nth x.t 3), .bool x.ro] 109)).heap[w2.heap.size]? = some (.cells #[.int .i64 x.kind, .int .i64 x.buf, .int .i64 (nth x.l 0), .int .i64 (nth x.l 1), .int .i64 (nth x.l 2), .int .i64 (nth x.l 3), .int .i64 (x.l.length : Int), .int .i64 x.f, .int .i64 (nth x.t 0), .int .i64 (nth x.t 1), .int .i64 (nth x.t 2), .int .i64 (nth x.t 3), .bool x.ro] 109 (0, 0))) := heap_alloc_new w2 _
  have HB3 := hid (heap_alloc_keeps HB2.out (.cells #[.int .i64 x.kind, .int .i64 x.buf, .int .i64 (nth x.l 0), .int .i64 (nth x.l 1), .int .i64 (nth x.l 2), .int .i64 (nth x.l 3), .int .i64 (x.l.length : Int), .int .i64 x.f, .int .i64 (nth x.t 0), .int .i64 (nth x.t 1), .int .i64 (nth x.t 2), .int .i64 (nth x.t 3), .bool x.ro] 109))
  have HK3 : Hid (Kp0 w (w2.alloc (.cells #[.int .i64 x.kind, .int .i64 x.buf, .int .i64 (nth x.l 0), .int .i64 (nth x.l 1), .int .i64 (nth x.l 2), .int .i64 (nth x.l 3), .int .i64 (x.l.length : Int), .int .i64 x.f, .int .i64 (nth x.t 0), .int .i64 (nth x.t 1), .int .i64 (nth x.t 2), .int .i64 (nth x.t 3), .bool x.ro] 109))) := HK2.out.alloc _
  have HNB : Hid (w2.heap.size ≠ b0) := hid (by omega)
  go_wp2
  generalize w2.alloc (.cells #[.int .i64 x.kind, .int .i64 x.buf, .int .i64 (nth x.l 0), .int .i64 (nth x.l 1), .int .i64 (nth x.l 2), .int .i64 (nth x.l 3), .int .i64 (x.l.length : Int), .int .i64 x.f, .int .i64 (nth x.t 0), .int .i64 (nth x.t 1), .int .i64 (nth x.t 2), .int .i64 (nth x.t 3), .bool x.ro] 109) = W at HB3 HK3 HBA ⊢
  clear hlt
  generalize w2.heap.size = b at HBA HNB ⊢
  obtain ⟨z0, z1, z2, z3, z4, z5, z6, z7, z8, z9, z10, z11, z12⟩ := cells13 HBA.out
  have HLD := hid (HLC.out W.drew HK3.out.drew HB3.out)
  go_region_law ((refine step_call1 (by rfl) 84 (.tmp 24) _ (by rfl) _ Tryz.func84 (by kernel_rfl) (by kernel_rfl) _ (by rfl) HLD.out ?_; intro v7 w7 hR; obtain ⟨ao7, n7, c7, rfl, hR7, ⟨y0, y1, y2⟩, f0, f1, f2⟩ := hR; have x0 := hR7.out.2.2.2.1.cell z0; have x12 := hR7.out.2.2.2.1.cell z12))
  all_goals
    have HR7 := hid hR7.out
    clear hR7
    go_wp2
    (try simp only [Exit.inBlock, Exit.then])
    refine bodyPost_ret (res_cell2 rfl _ _ b0 _ _ _ _ rfl (chain3 _ b0 _ _ _ _ _ _ _ HR7.out.2.1) Tryz.underlying96 rfl Tryz.szLook) rfl ?_
    obtain ⟨⟨ao, c, e1, h1, h2, h3⟩, hb7, hk7, -, hnb⟩ := HR7.out
    have e2 := e1
    simp at e2
    obtain ⟨rfl, rfl, rfl⟩ := e2
    have kc : Kp (fun b => b = b0) w7 (((w7.setCell ⟨b0, 0, none⟩ (.int .i64 x.kind)).setCell ⟨b0, 1, none⟩ (.slice ao7 x.l.length c7)).setCell ⟨b0, 2, none⟩ (.bool x.ro)) := kchain3 (Kp.refl _ w7) b0 _ _ _ (fun _ => rfl)
    refine ⟨_, rfl, ao7, c7, rfl, h1.kp kc (fun b hb e => hnb b hb e), Kp.trans h2 kc (fun b hb e => by have := HBB.out; omega), h3⟩

end Go.Proofs.YticbbncdcannlaaGreat

/- The program's space, walked at an array of uint8: Fill, Values. -/
namespace Go.Proofs.YticbbncdcannlaaGreat
open Go.RowKit Go.Maps Go.ChangeMaps Go.MapKept

theorem Tryz.mFillB (a : Addr) (x y : Value) (w : World) : (callMethod (.iface 126 (.pointer (some a))) "Fill" #[x, y]).run Tryz.prog w = .ok (.enter 193 #[.pointer (some a), x, y]) w := by kernel_rfl
theorem Tryz.mReadB (a : Addr) (x : Value) (w : World) : (callMethod (.iface 126 (.pointer (some a))) "Read" #[x]).run Tryz.prog w = .ok (.enter 195 #[.pointer (some a), x]) w := by kernel_rfl

theorem Tryz.nFillB (a : Addr) (w : World) : (nilAhead 367 126 (.pointer (some a)) "Fill").run Tryz.prog w = .ok (some false) w := by kernel_rfl
theorem Tryz.nReadB (a : Addr) (w : World) : (nilAhead 367 126 (.pointer (some a)) "Read").run Tryz.prog w = .ok (some false) w := by kernel_rfl

set_option maxRecDepth 100000 in
set_option maxHeartbeats 2000000 in
theorem xValuesB {T : Tags} {o : Nat} {w : World} {p : Nat} {L : XL} {X : XS} (h : XAt T o w p L X) (hd : Int) (x : XA) (hA : X.A hd = some x) (hk : x.kind = 1) (hg : GOk x.l x.t x.f X.c1.length) (hw : ∀ j, j < X.c1.length → IntKind.i64.wrap (nth X.c1 j) = nth X.c1 j) :
    Calls Tryz.prog 26 #[.pointer (some ⟨p, 0, none⟩), .int .i64 hd] w fun e w' => ∃ v, e = .returned (.tuple #[v, .int .i64 0]) ∧ NewI w w' v ((gc x.l x.t x.f x.l.length).map fun c => nth X.c1 c.toNat) := by
  have HF := hid (xfind_some h hd x hA (by omega))
  have hlen : (gc x.l x.t x.f x.l.length).length ≤ 1000000 := by
    have h1 := gc_length x.l x.t x.f hg.shape.2.1 x.l.length (Nat.le_refl _)
    rw [List.take_length] at h1
    have := hg.shape.2.2
    omega
  have HC : Hid (∀ W, Kp0 w W → Calls Tryz.prog 60 #[.agg (grC x.l x.t x.f).toArray] W fun e w' => ∃ v, e = .returned v ∧ (NewI W w' v (gc x.l x.t x.f x.l.length) ∧ Kp0 w w')) := fun W k =>
    (xcells_calls x.l x.t x.f _ W hg).mono (fun e w' ⟨v, h1, h2⟩ => ⟨v, h1, h2, by obtain ⟨_, _, _, _, h3, _⟩ := h2; exact Kp0.trans k h3⟩)
  generalize hP : gc x.l x.t x.f x.l.length = P at *
  have hin := hg.inside
  rw [hP] at hin
  have HR : Hid (∀ W vp W0, Kp0 w W → NewI W0 W vp P → Calls Tryz.prog 195 #[.pointer (some ⟨L.q1, 0, none⟩), vp] W fun e w' => ∃ v, e = .returned v ∧ NewI w w' v (P.map fun c => nth X.c1 c.toNat)) := fun W vp W0 k hn => by
    have hr0 : RdI W vp P := by obtain ⟨_, _, rfl, h1, _⟩ := hn; exact h1.rd
    refine (xReadB_calls (h.kp0 k).s1 P vp hr0 hin hw hlen).mono ?_
    rintro e w' ⟨v, rfl, ao, c, rfl, h1, h2, h3⟩
    exact ⟨_, rfl, ao, c, rfl, h1, Kp0.trans k h2, fun b hb => Nat.le_trans k.size (h3 b hb)⟩
  generalize (P.map fun c => nth X.c1 c.toNat) = V at *
  unfold grC at HC
  rw [hk, inVB] at HF
  unfold XA.cs at HF
  rw [hk] at HF
  have HMR := hid (Tryz.mReadB ⟨L.q1, 0, none⟩)
  clear h hA hg hw hlen hP hin
  go_enter Tryz.func26, Tryz.ntmps26
  go_wp2_with fail
  refine HF.out.mono ?_
  rintro e w2 ⟨rfl, hw⟩
  have HK := hid hw
  clear hw
  have HB : Hid ((w2.alloc (.cells #[.int .i64 1, .int .i64 x.buf, .int .i64 (nth x.l 0), .int .i64 (nth x.l 1), .int .i64 (nth x.l 2), .int .i64 (nth x.l 3), .int .i64 (x.l.length : Int), .int .i64 x.f, .int .i64 (nth x.t 0), .int .i64 (nth x.t 1), .int .i64 (nth x.t 2), .int .i64 (nth x.t 3), .bool x.ro] 109)).heap[w2.heap.size]? = some (.cells #[.int .i64 1, .int .i64 x.buf, .int .i64 (nth x.l 0), .int .i64 (nth x.l 1), .int .i64 (nth x.l 2), .int .i64 (nth x.l 3), .int .i64 (x.l.length : Int), .int .i64 x.f, .int .i64 (nth x.t 0), .int .i64 (nth x.t 1), .int .i64 (nth x.t 2), .int .i64 (nth x.t 3), .bool x.ro] 109 (0, 0))) := heap_alloc_new w2 _
  have HKW : Hid (Kp0 w (w2.alloc (.cells #[.int .i64 1, .int .i64 x.buf, .int .i64 (nth x.l 0), .int .i64 (nth x.l 1), .int .i64 (nth x.l 2), .int .i64 (nth x.l 3), .int .i64 (x.l.length : Int), .int .i64 x.f, .int .i64 (nth x.t 0), .int .i64 (nth x.t 1), .int .i64 (nth x.t 2), .int .i64 (nth x.t 3), .bool x.ro] 109))) := HK.out.alloc _
  go_wp2
  generalize w2.alloc (.cells #[.int .i64 1, .int .i64 x.buf, .int .i64 (nth x.l 0), .int .i64 (nth x.l 1), .int .i64 (nth x.l 2), .int .i64 (nth x.l 3), .int .i64 (x.l.length : Int), .int .i64 x.f, .int .i64 (nth x.t 0), .int .i64 (nth x.t 1), .int .i64 (nth x.t 2), .int .i64 (nth x.t 3), .bool x.ro] 109) = W at HB HKW ⊢
  generalize w2.heap.size = b at HB ⊢
  obtain ⟨z0, z1, z2, z3, z4, z5, z6, z7, z8, z9, z10, z11, z12⟩ := cells13 HB.out
  have HKD : Hid (Kp0 w W.drew) := HKW.out.drew
  have hna := Tryz.nReadB ⟨L.q1, 0, none⟩
  go_region_law ((first
    | (refine step_call1 (by rfl) 60 (.tmp 21) _ (by rfl) _ Tryz.func60 (by kernel_rfl) (by kernel_rfl) _ (by rfl) (HC.out _ HKD.out) ?_; intro v7 w7 hR; obtain ⟨hn7, hk7⟩ := hR)
    | (refine step_invoke1 (by rfl) (.tmp 25) "Read" (.tmp 22) _ (by rfl) _ v7 (by rfl) (by rfl) _ _ (HMR.out v7 w7) (HR.out w7 v7 W.drew hk7 hn7) ?_; intro v8 w8 hR8)))
  all_goals
    have HR8 := hid hR8
    clear hR8 hn7 hk7
    go_wp2
    go_ret2
    exact ⟨v8, rfl, HR8.out⟩

set_option maxRecDepth 100000 in
set_option maxHeartbeats 2000000 in
theorem xSpFillB {T : Tags} {o : Nat} {w : World} {p : Nat} {L : XL} {X : XS} (h : XAt T o w p L X) (hd v : Int) (x : XA) (hA : X.A hd = some x) (hk : x.kind = 1) (hro : x.ro = false) (hg : GOk x.l x.t x.f X.c1.length) (hv : IntKind.i64.wrap v = v) :
    Calls Tryz.prog 64 #[.pointer (some ⟨p, 0, none⟩), .int .i64 hd, .int .i64 v] w fun e w' => e = .returned (.int .i64 0) ∧ Kp (fun b => (T b).1 = o) w w' ∧ XAt T o w' p L (X.putB (wrTo X.c1 (gc x.l x.t x.f x.l.length) (fun _ => IntKind.wrap .u8 v) (gc x.l x.t x.f x.l.length).length)) := by
  have HF := hid (xfindw_some h hd x hA (by omega) hro)
  have hlen : (gc x.l x.t x.f x.l.length).length ≤ 1000000 := by
    have h1 := gc_length x.l x.t x.f hg.shape.2.1 x.l.length (Nat.le_refl _)
    rw [List.take_length] at h1
    have := hg.shape.2.2
    omega
  have HC : Hid (∀ W, Kp0 w W → Calls Tryz.prog 60 #[.agg (grC x.l x.t x.f).toArray] W fun e w' => ∃ v, e = .returned v ∧ (NewI W w' v (gc x.l x.t x.f x.l.length) ∧ Kp0 w w')) := fun W k =>
    (xcells_calls x.l x.t x.f _ W hg).mono (fun e w' ⟨v, h1, h2⟩ => ⟨v, h1, h2, by obtain ⟨_, _, _, _, h3, _⟩ := h2; exact Kp0.trans k h3⟩)
  have hin := hg.inside
  generalize gc x.l x.t x.f x.l.length = P at *
  have HR : Hid (∀ W vp W0, Kp0 w W → Kp0 w W0 → NewI W0 W vp P → Calls Tryz.prog 193 #[.pointer (some ⟨L.q1, 0, none⟩), .int .i64 v, vp] W fun e w' => ∃ u, e = .returned u ∧ (Kp (fun b => (T b).1 = o) w w' ∧ XAt T o w' p L (X.putB (wrTo X.c1 P (fun _ => IntKind.wrap .u8 v) P.length)))) := fun W vp W0 k k0 hn => by
    have hr0 : RdI W vp P := by obtain ⟨_, _, rfl, h1, _⟩ := hn; exact h1.rd
    have hne : vp.ownBlock ≠ some L.g1 := fun e => by
      obtain ⟨ao, c, rfl, _, _, h3⟩ := hn
      have := h3 _ e
      have := k0.size
      have := lt_of_heap h.s1.cells
      omega
    refine (xFillB_calls (h.kp0 k).s1 v P vp hr0 (fun _ => hne) hin hlen hv _ rfl).mono ?_
    rintro e w' ⟨rfl, hk', hb⟩
    exact ⟨_, rfl, (Kp.of0 k).trans hk' (fun b _ e => by rw [e, h.tg1]), (h.kp0 k).putB hk' hb (wrTo_length _ _ _ _)⟩
  generalize X.putB (wrTo X.c1 P (fun _ => IntKind.wrap .u8 v) P.length) = X' at *
  unfold grC at HC
  rw [hk, inVB] at HF
  unfold XA.cs at HF
  rw [hk, hro] at HF
  have HMR := hid (Tryz.mFillB ⟨L.q1, 0, none⟩)
  clear h hA hg hv hlen hin
  go_enter Tryz.func64, Tryz.ntmps64
  go_wp2_with fail
  refine HF.out.mono ?_
  rintro e w2 ⟨rfl, hw⟩
  have HK := hid hw
  clear hw
  have HB : Hid ((w2.alloc (.cells #[.int .i64 1, .int .i64 x.buf, .int .i64 (nth x.l 0), .int .i64 (nth x.l 1), .int .i64 (nth x.l 2), .int .i64 (nth x.l 3), .int .i64 (x.l.length : Int), .int .i64 x.f, .int .i64 (nth x.t 0), .int .i64 (nth x.t 1), .int .i64 (nth x.t 2), .int .i64 (nth x.t 3), .bool false] 109)).heap[w2.heap.size]? = some (.cells #[.int .i64 1, .int .i64 x.buf, .int .i64 (nth x.l 0), .int .i64 (nth x.l 1), .int .i64 (nth x.l 2), .int .i64 (nth x.l 3), .int .i64 (x.l.length : Int), .int .i64 x.f, .int .i64 (nth x.t 0), .int .i64 (nth x.t 1), .int .i64 (nth x.t 2), .int .i64 (nth x.t 3), .bool false] 109 (0, 0))) := heap_alloc_new w2 _
  have HKW : Hid (Kp0 w (w2.alloc (.cells #[.int .i64 1, .int .i64 x.buf, .int .i64 (nth x.l 0), .int .i64 (nth x.l 1), .int .i64 (nth x.l 2), .int .i64 (nth x.l 3), .int .i64 (x.l.length : Int), .int .i64 x.f, .int .i64 (nth x.t 0), .int .i64 (nth x.t 1), .int .i64 (nth x.t 2), .int .i64 (nth x.t 3), .bool false] 109))) := HK.out.alloc _
  go_wp2
  generalize w2.alloc (.cells #[.int .i64 1, .int .i64 x.buf, .int .i64 (nth x.l 0), .int .i64 (nth x.l 1), .int .i64 (nth x.l 2), .int .i64 (nth x.l 3), .int .i64 (x.l.length : Int), .int .i64 x.f, .int .i64 (nth x.t 0), .int .i64 (nth x.t 1), .int .i64 (nth x.t 2), .int .i64 (nth x.t 3), .bool false] 109) = W at HB HKW ⊢
  generalize w2.heap.size = b at HB ⊢
  obtain ⟨z0, z1, z2, z3, z4, z5, z6, z7, z8, z9, z10, z11, z12⟩ := cells13 HB.out
  have HKD : Hid (Kp0 w W.drew) := HKW.out.drew
  have hna := Tryz.nFillB ⟨L.q1, 0, none⟩
  go_region_law ((first
    | (refine step_call1 (by rfl) 60 (.tmp 23) _ (by rfl) _ Tryz.func60 (by kernel_rfl) (by kernel_rfl) _ (by rfl) (HC.out _ HKD.out) ?_; intro v7 w7 hR; obtain ⟨hn7, hk7⟩ := hR)
    | (refine step_invoke2 (by rfl) (.tmp 27) "Fill" (.tmp 21) (.tmp 24) _ (by rfl) _ (.int .i64 v) v7 (by rfl) (by rfl) (by rfl) _ _ (HMR.out (.int .i64 v) v7 w7) (HR.out w7 v7 W.drew hk7 HKD.out hn7) ?_; intro v8 w8 hR8)))
  all_goals
    have HR8 := hid hR8
    clear hR8 hn7 hk7
    go_wp2
    go_ret
    exact ⟨rfl, HR8.out.1, HR8.out.2⟩

end Go.Proofs.YticbbncdcannlaaGreat
