/- The program's space, walked: Store, Look. -/
import Derived.Test.YticbbncdcannlaaGreatG21
import Derived.Test.YticbbncdcannlaaGreatG20

namespace Go.Proofs.YticbbncdcannlaaGreat
open Go.RowKit Go.Maps Go.ChangeMaps Go.MapKept

theorem Tryz.szLook : (Tryz.prog.info? 96).map (·.size) = some 3 := by kernel_rfl

set_option maxRecDepth 100000 in
set_option maxHeartbeats 2000000 in
theorem xStore_none (p : Nat) (w : World) (kind : Int) (h1 : kind ≠ 1) (h2 : kind ≠ 2) :
    Calls Tryz.prog 27 #[.pointer (some ⟨p, 0, none⟩), .int .i64 kind] w fun e w' => e = .returned (.tuple #[.agg #[.int .i64 0, .int .i64 0, .int .i64 0], .int .i64 3]) ∧ Kp0 w w' := by
  have HS := hid (fun W => xstoreOf_none p W kind h1 h2)
  go_enter Tryz.func27, Tryz.ntmps27
  go_wp2_with fail
  refine (HS.out _).mono ?_
  rintro e w2 ⟨rfl, hw⟩
  obtain rfl := hw.symm
  go_wp2
  go_returns
  exact ⟨rfl, (Kp.refl _ w).alloc _⟩

/-- What Store tells. -/
def XS.told (X : XS) (kind : Int) : Int × Int × Int := if kind = 1 then (X.c1.length, sumTo X.b1 X.b1.length, endTo X.b1 X.b1.length) else (X.c2.length, sumTo X.b2 X.b2.length, endTo X.b2 X.b2.length)

set_option maxRecDepth 100000 in
set_option maxHeartbeats 2000000 in
theorem xStore_some {T : Tags} {o : Nat} {w : World} {p : Nat} {L : XL} {X : XS} (h : XAt T o w p L X) (kind : Int) (hk : kind = 1 ∨ kind = 2) (i1 : bufsIn X.c1.length X.b1) (i2 : bufsIn X.c2.length X.b2) (c1 : X.c1.length ≤ 10000) (c2 : X.c2.length ≤ 10000) (l1 : X.b1.length ≤ 100000000) (l2 : X.b2.length ≤ 100000000) :
    Calls Tryz.prog 27 #[.pointer (some ⟨p, 0, none⟩), .int .i64 kind] w fun e w' => e = .returned (.tuple #[.agg #[.int .i64 (X.told kind).1, .int .i64 (X.told kind).2.1, .int .i64 (X.told kind).2.2], .int .i64 0]) ∧ Kp0 w w' := by
  have HS := hid (fun W (k : Kp0 w W) => xstoreOf_calls (h.kp0 k) kind hk)
  have H1 : Hid (∀ W, Kp0 w W → Calls Tryz.prog 196 #[.pointer (some ⟨L.q1, 0, none⟩)] W fun e w' => e = .returned (.agg #[.int .i64 (X.told 1).1, .int .i64 (X.told 1).2.1, .int .i64 (X.told 1).2.2]) ∧ Kp0 W w') := fun W k => xStateB_calls (h.kp0 k).s1 i1 c1 l1
  have H2 : Hid (∀ W, Kp0 w W → Calls Tryz.prog 216 #[.pointer (some ⟨L.q2, 0, none⟩)] W fun e w' => e = .returned (.agg #[.int .i64 (X.told 2).1, .int .i64 (X.told 2).2.1, .int .i64 (X.told 2).2.2]) ∧ Kp0 W w') := fun W k => xStateI_calls (h.kp0 k).s2 i2 c2 l2
  have HB : Hid ((w.alloc (.cells #[.int .i64 0, .int .i64 0, .int .i64 0] 61)).heap[w.heap.size]? = some (.cells #[.int .i64 0, .int .i64 0, .int .i64 0] 61 (0, 0))) := heap_alloc_new w _
  have HKW : Hid (Kp0 w (w.alloc (.cells #[.int .i64 0, .int .i64 0, .int .i64 0] 61))) := (Kp.refl _ w).alloc _
  have HBB : Hid (w.heap.size = w.heap.size) := rfl
  clear h i1 i2 c1 c2 l1 l2
  rcases hk with rfl | rfl
  · generalize (X.told 1).1 = a1 at *
    generalize (X.told 1).2.1 = a2 at *
    generalize (X.told 1).2.2 = a3 at *
    go_enter Tryz.func27, Tryz.ntmps27
    go_wp2_with fail
    refine (HS.out _ HKW.out).mono ?_
    rintro e w2 ⟨rfl, hw⟩
    obtain rfl := hw.symm
    rw [show L.inV 1 = .iface 126 (.pointer (some ⟨L.q1, 0, none⟩)) from rfl]
    go_wp2_with fail
    refine (H1.out _ HKW.out).mono ?_
    rintro e w3 ⟨rfl, hw⟩
    have HB3 := hid (hw.heap HB.out)
    have HK3 : Hid (Kp0 w w3) := Kp0.trans HKW.out hw
    clear hw
    go_wp2_with (refine wpList_storeRow _ rfl 61 (.tmp 4) _ rfl w.heap.size _ _ rfl rfl HB3.out Tryz.szStoreB rfl (all3 rfl rfl rfl) ?_; intro w5 hB5 hK5)
    (try simp only [Exit.inBlock, Exit.then])
    refine bodyPost_ret (res_cell2 rfl _ _ w.heap.size _ _ _ _ rfl hB5 Tryz.underlying61 rfl Tryz.szStoreB) rfl ?_
    exact ⟨rfl, Kp.trans HK3.out hK5 (fun i hi e => by omega)⟩
  · generalize (X.told 2).1 = a1 at *
    generalize (X.told 2).2.1 = a2 at *
    generalize (X.told 2).2.2 = a3 at *
    go_enter Tryz.func27, Tryz.ntmps27
    go_wp2_with fail
    refine (HS.out _ HKW.out).mono ?_
    rintro e w2 ⟨rfl, hw⟩
    obtain rfl := hw.symm
    rw [show L.inV 2 = .iface 127 (.pointer (some ⟨L.q2, 0, none⟩)) from rfl]
    go_wp2_with fail
    refine (H2.out _ HKW.out).mono ?_
    rintro e w3 ⟨rfl, hw⟩
    have HB3 := hid (hw.heap HB.out)
    have HK3 : Hid (Kp0 w w3) := Kp0.trans HKW.out hw
    clear hw
    go_wp2_with (refine wpList_storeRow _ rfl 61 (.tmp 4) _ rfl w.heap.size _ _ rfl rfl HB3.out Tryz.szStoreB rfl (all3 rfl rfl rfl) ?_; intro w5 hB5 hK5)
    (try simp only [Exit.inBlock, Exit.then])
    refine bodyPost_ret (res_cell2 rfl _ _ w.heap.size _ _ _ _ rfl hB5 Tryz.underlying61 rfl Tryz.szStoreB) rfl ?_
    exact ⟨rfl, Kp.trans HK3.out hK5 (fun i hi e => by omega)⟩

set_option maxRecDepth 100000 in
set_option maxHeartbeats 2000000 in
theorem xLook_none {T : Tags} {o : Nat} {w : World} {p : Nat} {L : XL} {X : XS} (h : XAt T o w p L X) (hd : Int) (hA : X.A hd = none) :
    Calls Tryz.prog 49 #[.pointer (some ⟨p, 0, none⟩), .int .i64 hd] w fun e w' => e = .returned (.tuple #[.agg #[.int .i64 0, .slice none 0 0, .bool false], .int .i64 2]) ∧ Kp0 w w' := by
  have HF := hid (fun W (k : Kp0 w W) => xfind_none (h.kp0 k) hd hA)
  unfold xaZ at HF
  have HB : Hid ((w.alloc (.cells #[.int .i64 0, .slice none 0 0, .bool false] 96)).heap[w.heap.size]? = some (.cells #[.int .i64 0, .slice none 0 0, .bool false] 96 (0, 0))) := heap_alloc_new w _
  have HKW : Hid (Kp0 w (w.alloc (.cells #[.int .i64 0, .slice none 0 0, .bool false] 96))) := (Kp.refl _ w).alloc _
  clear h hA
  go_enter Tryz.func49, Tryz.ntmps49
  go_wp2_with fail
  refine (HF.out _ HKW.out).mono ?_
  rintro e w2 ⟨rfl, hw⟩
  have HB3 : Hid (∀ O, (w2.alloc O).heap[w.heap.size]? = some (.cells #[.int .i64 0, .slice none 0 0, .bool false] 96 (0, 0))) := fun O => heap_alloc_keeps (hw.heap HB.out) O
  have HK3 : Hid (Kp0 w w2) := Kp0.trans HKW.out hw
  clear hw
  go_wp2_with (refine wpList_storeRow _ rfl 96 (.tmp 4) _ rfl w.heap.size _ _ rfl rfl (HB3.out _) Tryz.szLook rfl (all3 rfl rfl rfl) ?_; intro w5 hB5 hK5)
  (try simp only [Exit.inBlock, Exit.then])
  refine bodyPost_ret (res_cell2 rfl _ _ w.heap.size _ _ _ _ rfl hB5 Tryz.underlying96 rfl Tryz.szLook) rfl ?_
  exact ⟨rfl, Kp.trans (HK3.out.alloc _) hK5 (fun i hi e => by omega)⟩

end Go.Proofs.YticbbncdcannlaaGreat

/- The program's space, walked: Look, isMany. -/
namespace Go.Proofs.YticbbncdcannlaaGreat
open Go.RowKit Go.Maps Go.ChangeMaps Go.MapKept

set_option maxRecDepth 100000 in
set_option maxHeartbeats 4000000 in
theorem xLook_some {T : Tags} {o : Nat} {w : World} {p : Nat} {L : XL} {X : XS} (h : XAt T o w p L X) (hd : Int) (x : XA) (hA : X.A hd = some x) (hk : x.kind = 1 ∨ x.kind = 2) (hl : x.l.length ≤ 4) :
    Calls Tryz.prog 49 #[.pointer (some ⟨p, 0, none⟩), .int .i64 hd] w fun e w' => ∃ v, e = .returned (.tuple #[.agg #[.int .i64 x.kind, v, .bool x.ro], .int .i64 0]) ∧ NewI w w' v x.l := by
  have HF := hid (fun W (k : Kp0 w W) => xfind_some (h.kp0 k) hd x hA hk)
  unfold XA.cs at HF
  generalize L.inV x.kind = I at *
  have HB : Hid ((w.alloc (.cells #[.int .i64 0, .slice none 0 0, .bool false] 96)).heap[w.heap.size]? = some (.cells #[.int .i64 0, .slice none 0 0, .bool false] 96 (0, 0))) := heap_alloc_new w _
  have HKW : Hid (Kp0 w (w.alloc (.cells #[.int .i64 0, .slice none 0 0, .bool false] 96))) := (Kp.refl _ w).alloc _
  obtain ⟨b0, hb0⟩ : ∃ b0, w.heap.size = b0 := ⟨_, rfl⟩
  have HLC : Hid (∀ W, Kp0 w W → W.heap[b0]? = some (.cells #[.int .i64 0, .slice none 0 0, .bool false] 96 (0, 0)) → Calls Tryz.prog 84 #[.agg (shC x.l).toArray] W fun e w' => ∃ v, e = .returned v ∧ (∃ ao n c, v = .slice ao n c ∧ Hid (NewI w w' v x.l ∧ w'.heap[b0]? = some (.cells #[.int .i64 0, .slice none 0 0, .bool false] 96 (0, 0)) ∧ Kp0 w w' ∧ Kp0 W w' ∧ ∀ b, v.ownBlock = some b → b ≠ b0) ∧
      (w'.cell? ⟨b0, 0, none⟩ = some (.int .i64 0) ∧ w'.cell? ⟨b0, 1, none⟩ = some (.slice none 0 0) ∧ w'.cell? ⟨b0, 2, none⟩ = some (.bool false)) ∧ (w'.frozen? ⟨b0, 0, none⟩ = false ∧ w'.frozen? ⟨b0, 1, none⟩ = false ∧ w'.frozen? ⟨b0, 2, none⟩ = false))) := fun W k hb => by
    refine (xlist_calls x.l W hl).mono ?_
    rintro e w' ⟨v, rfl, ao, c, rfl, h1, h2, h3⟩
    have hb' := h2.heap hb
    exact ⟨_, rfl, ao, _, c, rfl, ⟨⟨ao, c, rfl, h1, Kp0.trans k h2, fun b e => Nat.le_trans k.size (h3 b e)⟩, hb', Kp0.trans k h2, h2, fun b e => by have := h3 b e; have := lt_of_heap hb; omega⟩, ⟨cell_of_row _ _ 0 _ _ _ hb', cell_of_row _ _ 1 _ _ _ hb', cell_of_row _ _ 2 _ _ _ hb'⟩, frozen_of_row _ _ _ _ _ hb', frozen_of_row _ _ _ _ _ hb', frozen_of_row _ _ _ _ _ hb'⟩
  unfold shC at HLC
  rw [hb0] at HB
  have HBB := hid hb0
  clear h hA hl
  go_enter Tryz.func49, Tryz.ntmps49
  go_wp2_with fail
  refine (HF.out _ HKW.out).mono ?_
  rintro e w2 ⟨rfl, hw⟩
  have HB2 := hid (hw.heap HB.out)
  have HK2 : Hid (Kp0 w w2) := Kp0.trans HKW.out hw
  clear hw
  clear hb0
  have hlt : b0 < w2.heap.size := lt_of_heap HB2.out
  have HBA : Hid ((w2.alloc (.cells #[.int .i64 x.kind, .int .i64 x.buf, .int .i64 (nth x.l 0), .int .i64 (nth x.l 1), .int .i64 (nth x.l 2), .int .i64 (nth x.l 3), .int .i64 (x.l.length : Int), .int .i64 x.f, .int .i64 (nth x.t 0), .int .i64 (nth x.t 1), .int .i64 (nth x.t 2), .int .i64 (nth x.t 3), .bool x.ro] 109)).heap[w2.heap.size]? = some (.cells #[.int .i64 x.kind, .int .i64 x.buf, .int .i64 (nth x.l 0), .int .i64 (nth x.l 1), .int .i64 (nth x.l 2), .int .i64 (nth x.l 3), .int .i64 (x.l.length : Int), .int .i64 x.f, .int .i64 (nth x.t 0), .int .i64 (nth x.t 1), .int .i64 (nth x.t 2), .int .i64 (nth x.t 3), .bool x.ro] 109 (0, 0))) := heap_alloc_new w2 _
  have HB3 := hid (heap_alloc_keeps HB2.out (.cells #[.int .i64 x.kind, .int .i64 x.buf, .int .i64 (nth x.l 0), .int .i64 (nth x.l 1), .int .i64 (nth x.l 2), .int .i64 (nth x.l 3), .int .i64 (x.l.length : Int), .int .i64 x.f, .int .i64 (nth x.t 0), .int .i64 (nth x.t 1), .int .i64 (nth x.t 2), .int .i64 (nth x.t 3), .bool x.ro] 109))
  have HK3 : Hid (Kp0 w (w2.alloc (.cells #[.int .i64 x.kind, .int .i64 x.buf, .int .i64 (nth x.l 0), .int .i64 (nth x.l 1), .int .i64 (nth x.l 2), .int .i64 (nth x.l 3), .int .i64 (x.l.length : Int), .int .i64 x.f, .int .i64 (nth x.t 0), .int .i64 (nth x.t 1), .int .i64 (nth x.t 2), .int .i64 (nth x.t 3), .bool x.ro] 109))) := HK2.out.alloc _
  have HNB : Hid (w2.heap.size ≠ b0) := hid (by omega)
  go_wp2
  generalize w2.alloc (.cells #[.int .i64 x.kind, .int .i64 x.buf, .int .i64 (nth x.l 0), .int .i64 (nth x.l 1), .int .i64 (nth x.l 2), .int .i64 (nth x.l 3), .int .i64 (x.l.length : Int), .int .i64 x.f, .int .i64 (nth x.t 0), .int .i64 (nth x.t 1), .int .i64 (nth x.t 2), .int .i64 (nth x.t 3), .bool x.ro] 109) = W at HB3 HK3 HBA ⊢
  clear hlt
  generalize w2.heap.size = b at HBA HNB ⊢
  obtain ⟨z0, z1, z2, z3, z4, z5, z6, z7, z8, z9, z10, z11, z12⟩ := cells13 HBA.out
  have HLD := hid (HLC.out W.drew HK3.out.drew HB3.out)
  go_region_law ((refine step_call1 (by rfl) 84 (.tmp 24) _ (by rfl) _ Tryz.func84 (by kernel_rfl) (by kernel_rfl) _ (by rfl) HLD.out ?_; intro v7 w7 hR; obtain ⟨ao7, n7, c7, rfl, hR7, ⟨y0, y1, y2⟩, f0, f1, f2⟩ := hR; have x0 := hR7.out.2.2.2.1.cell z0; have x12 := hR7.out.2.2.2.1.cell z12))
  all_goals
    have HR7 := hid hR7.out
    clear hR7
    go_wp2
    (try simp only [Exit.inBlock, Exit.then])
    refine bodyPost_ret (res_cell2 rfl _ _ b0 _ _ _ _ rfl (chain3 _ b0 _ _ _ _ _ _ _ HR7.out.2.1) Tryz.underlying96 rfl Tryz.szLook) rfl ?_
    obtain ⟨⟨ao, c, e1, h1, h2, h3⟩, hb7, hk7, -, hnb⟩ := HR7.out
    have e2 := e1
    simp at e2
    obtain ⟨rfl, rfl, rfl⟩ := e2
    have kc : Kp (fun b => b = b0) w7 (((w7.setCell ⟨b0, 0, none⟩ (.int .i64 x.kind)).setCell ⟨b0, 1, none⟩ (.slice ao7 x.l.length c7)).setCell ⟨b0, 2, none⟩ (.bool x.ro)) := kchain3 (Kp.refl _ w7) b0 _ _ _ (fun _ => rfl)
    refine ⟨_, rfl, ao7, c7, rfl, h1.kp kc (fun b hb e => hnb b hb e), Kp.trans h2 kc (fun b hb e => by have := HBB.out; omega), h3⟩

end Go.Proofs.YticbbncdcannlaaGreat

/- The program's space, walked: isUsed. -/
namespace Go.Proofs.YticbbncdcannlaaGreat
open Go.RowKit Go.Maps Go.ChangeMaps Go.MapKept

/-- A step of the range over the map of arrays. -/
theorem wpList_next_xa (w : World) {ops : Array Oper} {rest : List Oper} {o : Oper} {a : Act} {Q : Exit → Act → World → Prop} (hg : o.guard = none) (it : Operand) (hop : o.op = Op.next it false) (b r n : Nat) (D : DataW Value) (A : Int → Option XA) (left : Lit → Bool) (cnt : Nat)
    (hit : a.eval it = .pointer (some ⟨r, 0, none⟩)) (h : w.ranges Tryz.prog 3 elemR b r n D left cnt) (hm : XMap D A)
    (hDone : (∀ kl, left kl = false) → wpList Tryz.prog ops Q rest (a.put o.dst (.tuple #[.bool false])) w)
    (hMore : ∀ (k : Int) (x : XA) (w' : World) (cnt' : Nat), A k = some x → left (.int .i64 k) = true → w'.ranges Tryz.prog 3 elemR b r n D (fun z => left z && !z.sameKey (.int .i64 k)) cnt' → cnt' < cnt → w.grownBy w' (some r) → w'.heap.size = w.heap.size →
      (Instr.entry (.pointer (some ⟨r, 0, none⟩))).run Tryz.prog w' = .ok (.tuple #[.int .i64 k, .agg x.cs]) w' → wpList Tryz.prog ops Q rest (a.put o.dst (.tuple #[.bool true, .int .i64 k, .agg x.cs])) w') :
    wpList Tryz.prog ops Q (o :: rest) a w :=
  wpList_next_ranges w hg it hop 3 Tryz.lawInt elemR (Value.int .i64) (fun v : Value => v) (fun key kl hkey => by obtain ⟨x, rfl, _⟩ := Maps.keyOf_int_inv Tryz.underlying3 hkey; exact ⟨x, rfl⟩) (fun v y _ => ⟨v, rfl⟩) b r n D left cnt hit h (fun _ hl => hDone hl)
    (fun k v kl y w' cnt' hkey hlk hv hat hrg hlt hgr hsz hen => by
      obtain ⟨k', ek, rfl, hwk⟩ := Maps.keyOf_int_inv Tryz.underlying3 hkey
      cases ek
      have hh := Maps.has_true_of_atKey hat
      cases hA : A k with
      | none => rw [hm.non k hA] at hh; cases hh
      | some x =>
        obtain ⟨-, -, h3⟩ := hm.som k x hA
        have e1 : y.1 = .held (.agg x.cs) := (hat .nil).symm.trans (h3 .nil)
        have e2 : v = .agg x.cs := by
          simp only [elemR, Option.some.injEq] at hv
          rw [← hv] at e1
          injection e1
        subst e2
        exact hMore k x w' cnt' hA hlk hrg hlt hgr hsz hen)

set_option maxRecDepth 100000 in
set_option maxHeartbeats 4000000 in
theorem xisUsed_calls {T : Tags} {o : Nat} {w : World} {p : Nat} {L : XL} {X : XS} (h : XAt T o w p L X) (kind buf : Int) :
    Calls Tryz.prog 61 #[.pointer (some ⟨p, 0, none⟩), .int .i64 kind, .int .i64 buf] w fun e w' => ∃ u, e = .returned (.bool u) ∧ (u = true ↔ ∃ a x, X.A a = some x ∧ x.kind = kind ∧ x.buf = buf) ∧ Kp0 w w' := by
  obtain ⟨z0, z1, z2, z3⟩ := cells4 h.blk
  have HM := hid h.map
  have HE := hid h.ent
  clear h
  go_enter Tryz.func61, Tryz.ntmps61
  go_wp2_with (first | (at_range; refine wpList_range_own _ rfl _ 128 rfl 3 109 Tryz.lawInt Tryz.underlying128 _ L.bm _ L.D rfl HM.out ?_; intro w0 hrg0 hg0 hs0) | go_in)
  go_frame
  obtain ⟨r, hr⟩ : ∃ r, w.heap.size = r := ⟨_, rfl⟩
  rw [hr] at hrg0 ⊢
  have HRG := hid hrg0
  have HK0 : Hid (Kp0 w w0) := Kp.grown (Kp.refl _ w) hg0 (fun k e => by cases e)
  have HRR := hid hr
  clear hrg0 hg0 hs0 hr z0 z1 z2 z3
  go_loopw [8, 14] (fun _ _ wr => ∃ left cnt, Hid (wr.ranges Tryz.prog 3 elemR L.bm r X.last L.D left cnt) ∧ Hid (∀ a x, X.A a = some x → left (.int .i64 a) = false → ¬ (x.kind = kind ∧ x.buf = buf)) ∧ Hid (Kp0 w wr)) (fun _ _ wr => wr.rangeLeft L.bm r)
  case atStart => exact ⟨_, _, HRG, hid (fun a x hA hl => by have := (HE.out.som a x hA).2.1; rw [this] at hl; cases hl), HK0⟩
  case round =>
    clear HRG HK0
    obtain ⟨left, cnt, HRG, HN, HK⟩ := hrel
    go_wp2_with (first | (at_next; refine wpList_next_xa _ rfl _ rfl L.bm r X.last L.D X.A left cnt rfl HRG.out HE.out ?_ ?_) | go_in)
    · intro hl0
      have HF : Hid (¬ ∃ a x, X.A a = some x ∧ x.kind = kind ∧ x.buf = buf) := hid (fun ⟨a, x, hA, hx⟩ => HN.out a x hA (hl0 _) hx)
      clear hl0
      go_wp2
      go_ret
      exact ⟨false, rfl, ⟨fun e => (Bool.noConfusion e), fun e => absurd e HF.out⟩, HK.out⟩
    · intro k x w1 cnt1 hA hlk hrg1 hlt hgr hsz hen
      have HA := hid hA
      have HRG1 := hid hrg1
      have HLT := hid hlt
      have HK1 : Hid (Kp0 w w1) := Kp.grown HK.out hgr (fun j e h => by cases e; have := HRR.out; omega)
      have HEN := hid hen
      unfold XA.cs at hen ⊢
      clear hA hlk hrg1 hlt hgr hsz
      by_cases hk1 : x.kind = kind
      · have d1 : (x.kind == kind) = true := by simp [hk1]
        by_cases hk2 : x.buf = buf
        · have d2 : (x.buf == buf) = true := by simp [hk2]
          have HX : Hid (∃ a x, X.A a = some x ∧ x.kind = kind ∧ x.buf = buf) := ⟨k, x, HA.out, hk1, hk2⟩
          clear hk1 hk2
          go_wp2
          go_ret
          exact ⟨true, rfl, ⟨fun _ => HX.out, fun _ => rfl⟩, HK1.out.alloc _⟩
        · have d2 : (x.buf == buf) = false := by simp [hk2]
          have HX : Hid (¬ (x.kind = kind ∧ x.buf = buf)) := fun e => hk2 e.2
          clear hk1 hk2
          go_wp2
          go_roundw
          case rel =>
            refine ⟨_, _, HRG1.out.alloc _, hid (fun a y hy hl => ?_), HK1.out.alloc _⟩
            by_cases ha : a = k
            · subst ha; rw [HA.out] at hy; cases hy; exact HX.out
            · refine HN.out a y hy ?_
              have : (Lit.int .i64 a).sameKey (.int .i64 k) = false := Maps.sameKey_ne (by simpa using ha)
              rw [this] at hl
              simpa using hl
          case measure =>
            rw [(HRG1.out.alloc _).left_eq, HRG.out.left_eq]
            exact HLT.out
      · have d1 : (x.kind == kind) = false := by simp [hk1]
        have HX : Hid (¬ (x.kind = kind ∧ x.buf = buf)) := fun e => hk1 e.1
        clear hk1
        go_wp2
        go_roundw
        case rel =>
          refine ⟨_, _, HRG1.out.alloc _, hid (fun a y hy hl => ?_), HK1.out.alloc _⟩
          by_cases ha : a = k
          · subst ha; rw [HA.out] at hy; cases hy; exact HX.out
          · refine HN.out a y hy ?_
            have : (Lit.int .i64 a).sameKey (.int .i64 k) = false := Maps.sameKey_ne (by simpa using ha)
            rw [this] at hl
            simpa using hl
        case measure =>
          rw [(HRG1.out.alloc _).left_eq, HRG.out.left_eq]
          exact HLT.out

end Go.Proofs.YticbbncdcannlaaGreat
