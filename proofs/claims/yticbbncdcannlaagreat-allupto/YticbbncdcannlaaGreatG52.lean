/- The program's space, walked where the array that is written is one of uint8: Assign. -/
import Derived.Deep.RegionLaw
import Derived.BigRegion
import Derived.Test.YticbbncdcannlaaGreatG51
import Derived.Test.YticbbncdcannlaaGreatG20
import Derived.Test.YticbbncdcannlaaGreatG50
import Derived.Test.YticbbncdcannlaaGreatG17
import Derived.Test.YticbbncdcannlaaGreatG21

namespace Go.Proofs.YticbbncdcannlaaGreat
open Go.RowKit Go.Maps Go.ChangeMaps Go.MapKept

theorem Tryz.mWriteB (a : Addr) (x y : Value) (w : World) : (callMethod (.iface 126 (.pointer (some a))) "Write" #[x, y]).run Tryz.prog w = .ok (.enter 198 #[.pointer (some a), x, y]) w := by kernel_rfl
theorem Tryz.nWriteB (a : Addr) (w : World) : (nilAhead 367 126 (.pointer (some a)) "Write").run Tryz.prog w = .ok (some false) w := by kernel_rfl

set_option maxRecDepth 100000 in
set_option maxHeartbeats 2000000 in
theorem xAssignOkB (p q : Nat) (to fr : Int) (w : World) (m0 : Nat) (V0 : List Int) (mP : Nat) (P : List Int) {Q : World → Prop}
    (HT : Hid (∀ W vh, Kp0 w W → RdI W vh [fr] → Calls Tryz.prog 99 #[.pointer (some ⟨p, 0, none⟩), .int .i64 to, vh] W fun e w' => ∃ aP cP g a0 c0, e = .returned (.tuple #[.slice aP mP cP, .iface 126 (.pointer (some ⟨q, 0, none⟩)), .slice (some ⟨g, 0, none⟩) 1 1, .int .i64 0]) ∧ (Kp0 W w' ∧ w'.heap[g]? = some (.cells #[.slice a0 m0 c0] 26 (0, 0)) ∧ W.heap.size ≤ g ∧ Fr W.heap.size w' (.slice aP mP cP) P ∧ Fr W.heap.size w' (.slice a0 m0 c0) V0)))
    (HW : Hid (∀ W vp vv, Kp0 w W → Fr w.heap.size W vp P → Fr w.heap.size W vv V0 → Calls Tryz.prog 198 #[.pointer (some ⟨q, 0, none⟩), vp, vv] W fun e w' => ∃ u, e = .returned u ∧ Q w')) :
    Calls Tryz.prog 65 #[.pointer (some ⟨p, 0, none⟩), .int .i64 to, .int .i64 fr] w fun e w' => e = .returned (.int .i64 0) ∧ Q w' := by
  have HK1 : Hid (Kp0 w (w.alloc (.cells #[.int .i64 fr] 3))) := (Kp.refl _ w).alloc _
  have HR1 : Hid (RdI (w.alloc (.cells #[.int .i64 fr] 3)) (.slice (some ⟨w.heap.size, 0, none⟩) 1 1) [fr]) := rd_of_blk (heap_alloc_new w _) rfl
  go_enter Tryz.func65, Tryz.ntmps65
  go_wp2_with fail
  refine (HT.out _ _ HK1.out HR1.out).mono ?_
  rintro e w2 ⟨aP, cP, g, a0, c0, rfl, hk, hb, hg, hP, hV⟩
  have HK2 : Hid (Kp0 w w2) := Kp0.trans HK1.out hk
  have HFP : Hid (Fr w.heap.size w2 (.slice aP mP cP) P) := hP.le (by simp)
  have HFV : Hid (Fr w.heap.size w2 (.slice a0 m0 c0) V0) := hV.le (by simp)
  have y0 : w2.cell? ⟨g, 0, none⟩ = some (.slice a0 m0 c0) := cell_of_row _ g 0 _ _ _ hb
  have HMR := hid (Tryz.mWriteB ⟨q, 0, none⟩)
  have hna := Tryz.nWriteB ⟨q, 0, none⟩
  clear hk hb hg hP hV HK1 HR1 HT
  go_wp2
  have HKD : Hid (Kp0 w w2.drew) := HK2.out.drew
  have HFPD : Hid (Fr w.heap.size w2.drew (.slice aP mP cP) P) := HFP.out.kp0 (Kp0.refl w2).drew
  have HFVD : Hid (Fr w.heap.size w2.drew (.slice a0 m0 c0) V0) := HFV.out.kp0 (Kp0.refl w2).drew
  go_region_law ((refine step_invoke2 (by rfl) (.tmp 31) "Write" (.tmp 25) (.tmp 28) _ (by rfl) _ (.slice aP mP cP) (.slice a0 m0 c0) (by rfl) (by rfl) (by rfl) _ _ (HMR.out _ _ _) (HW.out _ _ _ HKD.out HFPD.out HFVD.out) ?_; intro v8 w8 hR8))
  all_goals
    have HR8 := hid hR8
    clear hR8
    go_wp2
    go_ret
    exact ⟨rfl, HR8.out⟩

end Go.Proofs.YticbbncdcannlaaGreat

/- The program's space, walked where the array that is written is one of int64: Assign. -/
namespace Go.Proofs.YticbbncdcannlaaGreat
open Go.RowKit Go.Maps Go.ChangeMaps Go.MapKept

theorem Tryz.mWriteI (a : Addr) (x y : Value) (w : World) : (callMethod (.iface 127 (.pointer (some a))) "Write" #[x, y]).run Tryz.prog w = .ok (.enter 218 #[.pointer (some a), x, y]) w := by kernel_rfl
theorem Tryz.nWriteI (a : Addr) (w : World) : (nilAhead 367 127 (.pointer (some a)) "Write").run Tryz.prog w = .ok (some false) w := by kernel_rfl

set_option maxRecDepth 100000 in
set_option maxHeartbeats 2000000 in
theorem xAssignOkI (p q : Nat) (to fr : Int) (w : World) (m0 : Nat) (V0 : List Int) (mP : Nat) (P : List Int) {Q : World → Prop}
    (HT : Hid (∀ W vh, Kp0 w W → RdI W vh [fr] → Calls Tryz.prog 99 #[.pointer (some ⟨p, 0, none⟩), .int .i64 to, vh] W fun e w' => ∃ aP cP g a0 c0, e = .returned (.tuple #[.slice aP mP cP, .iface 127 (.pointer (some ⟨q, 0, none⟩)), .slice (some ⟨g, 0, none⟩) 1 1, .int .i64 0]) ∧ (Kp0 W w' ∧ w'.heap[g]? = some (.cells #[.slice a0 m0 c0] 26 (0, 0)) ∧ W.heap.size ≤ g ∧ Fr W.heap.size w' (.slice aP mP cP) P ∧ Fr W.heap.size w' (.slice a0 m0 c0) V0)))
    (HW : Hid (∀ W vp vv, Kp0 w W → Fr w.heap.size W vp P → Fr w.heap.size W vv V0 → Calls Tryz.prog 218 #[.pointer (some ⟨q, 0, none⟩), vp, vv] W fun e w' => ∃ u, e = .returned u ∧ Q w')) :
    Calls Tryz.prog 65 #[.pointer (some ⟨p, 0, none⟩), .int .i64 to, .int .i64 fr] w fun e w' => e = .returned (.int .i64 0) ∧ Q w' := by
  have HK1 : Hid (Kp0 w (w.alloc (.cells #[.int .i64 fr] 3))) := (Kp.refl _ w).alloc _
  have HR1 : Hid (RdI (w.alloc (.cells #[.int .i64 fr] 3)) (.slice (some ⟨w.heap.size, 0, none⟩) 1 1) [fr]) := rd_of_blk (heap_alloc_new w _) rfl
  go_enter Tryz.func65, Tryz.ntmps65
  go_wp2_with fail
  refine (HT.out _ _ HK1.out HR1.out).mono ?_
  rintro e w2 ⟨aP, cP, g, a0, c0, rfl, hk, hb, hg, hP, hV⟩
  have HK2 : Hid (Kp0 w w2) := Kp0.trans HK1.out hk
  have HFP : Hid (Fr w.heap.size w2 (.slice aP mP cP) P) := hP.le (by simp)
  have HFV : Hid (Fr w.heap.size w2 (.slice a0 m0 c0) V0) := hV.le (by simp)
  have y0 : w2.cell? ⟨g, 0, none⟩ = some (.slice a0 m0 c0) := cell_of_row _ g 0 _ _ _ hb
  have HMR := hid (Tryz.mWriteI ⟨q, 0, none⟩)
  have hna := Tryz.nWriteI ⟨q, 0, none⟩
  clear hk hb hg hP hV HK1 HR1 HT
  go_wp2
  have HKD : Hid (Kp0 w w2.drew) := HK2.out.drew
  have HFPD : Hid (Fr w.heap.size w2.drew (.slice aP mP cP) P) := HFP.out.kp0 (Kp0.refl w2).drew
  have HFVD : Hid (Fr w.heap.size w2.drew (.slice a0 m0 c0) V0) := HFV.out.kp0 (Kp0.refl w2).drew
  go_region_law ((refine step_invoke2 (by rfl) (.tmp 31) "Write" (.tmp 25) (.tmp 28) _ (by rfl) _ (.slice aP mP cP) (.slice a0 m0 c0) (by rfl) (by rfl) (by rfl) _ _ (HMR.out _ _ _) (HW.out _ _ _ HKD.out HFPD.out HFVD.out) ?_; intro v8 w8 hR8))
  all_goals
    have HR8 := hid hR8
    clear hR8
    go_wp2
    go_ret
    exact ⟨rfl, HR8.out⟩

end Go.Proofs.YticbbncdcannlaaGreat

/- The program's calls in the document's words: Assign. -/
namespace Go.Proofs.YticbbncdcannlaaGreat
open Go.RowKit

/-- Cells that are there are written, each with its own number. -/
theorem Tie.writesFB {X : XS} {sz : Nat} {σ : Sp} (h : Tie X sz σ) (hok : σ.ok) (P : List Int) (hP : ∀ j, j < P.length → 0 ≤ nth P j ∧ nth P j < σ.cap 1 ∧ σ.taken 1 (nth P j) = true) (f : Nat → Int) (w1 : ∀ j, j < P.length → 0 ≤ f j ∧ f j < 256) (n : Nat) (hn : n ≤ P.length) :
    Tie (X.putB (wrTo X.c1 P f n)) sz (σ.writes 1 P f n) ∧ ∀ j, (σ.writes 1 P f n).taken j = σ.taken j := by
  induction n with
  | zero => exact ⟨h, fun _ => rfl⟩
  | succ n ih =>
    obtain ⟨i1, i2⟩ := ih (by omega)
    obtain ⟨p1, p2, p3⟩ := hP n (by omega)
    have hc := (writes_same σ 1 P f n).2.2 1
    have := i1.putB (writes_ok hok 1 P f n) (nth P n).toNat (by rw [hc]; omega) (by rw [i2, show (((nth P n).toNat : Nat) : Int) = nth P n by omega]; exact p3) (f n) (w1 n (by omega))
    exact ⟨this, fun j => by rw [Sp.writes, put_taken]; exact i2 j⟩

theorem Tie.writesFI {X : XS} {sz : Nat} {σ : Sp} (h : Tie X sz σ) (hok : σ.ok) (P : List Int) (hP : ∀ j, j < P.length → 0 ≤ nth P j ∧ nth P j < σ.cap 2 ∧ σ.taken 2 (nth P j) = true) (f : Nat → Int) (w2 : ∀ j, j < P.length → IntKind.i64.wrap (f j) = f j) (n : Nat) (hn : n ≤ P.length) :
    Tie (X.putI (wrTo X.c2 P f n)) sz (σ.writes 2 P f n) ∧ ∀ j, (σ.writes 2 P f n).taken j = σ.taken j := by
  induction n with
  | zero => exact ⟨h, fun _ => rfl⟩
  | succ n ih =>
    obtain ⟨i1, i2⟩ := ih (by omega)
    obtain ⟨p1, p2, p3⟩ := hP n (by omega)
    have hc := (writes_same σ 2 P f n).2.2 2
    have := i1.putI (writes_ok hok 2 P f n) (nth P n).toNat (by rw [hc]; omega) (by rw [i2, show (((nth P n).toNat : Nat) : Int) = nth P n by omega]; exact p3) (f n) (w2 n (by omega))
    exact ⟨this, fun j => by rw [Sp.writes, put_taken]; exact i2 j⟩

theorem writes_congr {σ : Sp} {kind : Int} {ps : List Int} {f g : Nat → Int} (k : Nat) (h : ∀ j, j < k → f j = g j) : σ.writes kind ps f k = σ.writes kind ps g k := by
  induction k with
  | zero => rfl
  | succ k ih => rw [Sp.writes, Sp.writes, ih (fun j hj => h j (by omega)), h k (by omega)]

/-- A stretched array's cells. -/
theorem ATie.str {σ : Sp} {a : Arr} {x : XA} (hx : ATie σ a x) (s : List Int) (hs : okShape s) (hb : stretchB a.shape s = true) : gc s (strT x.l x.t s) x.f s.length = picked a.cells (meant a.shape s) := by
  obtain ⟨h1, h2⟩ := (stretchB_iff _ _).1 hb
  rw [← hx.l] at h1 h2 ⊢
  rw [← hx.cells]
  exact gc_view hx.g.shape.2.1 hs.2.1 (meantOf x.l s) (fun i hi => meantOf_in x.l s i hx.g.shape.2.1 h1 h2 hi) (fun i hi => by rw [str_dot h1 hx.g.unit hx.g.shape.2.1 i])

/-- Its values, read in the program's store. -/
theorem seen_eq {σ : Sp} {h : Int} {a : Arr} {x : XA} (hx : ATie σ a x) (hf : σ.find h = some a) (ha : a.ok σ) (s : List Int) (hs : okShape s) (hb : stretchB a.shape s = true) {c : List Int} {bs : List (Int × Int)} (hk : KTie σ a.kind c bs) : ((gc s (strT x.l x.t s) x.f s.length).map fun y => nth c y.toNat) = σ.seen a s := by
  rw [hx.str s hs hb]
  unfold Sp.seen
  have hl := meant_length a.shape s
  refine ext_nth (by simp [picked]) (fun j hj => ?_)
  have hj' : j < (meant a.shape s).length := by simpa [picked] using hj
  have hbd := meant_bd a.shape s ha.shape hs hb j (by omega)
  have hlen := ha.length
  have hr : (nth (meant a.shape s) j).toNat < a.cells.length := by omega
  rw [map_nth _ _ _ (by simpa [picked] using hj'), picked_nth _ _ _ hj', picked_nth _ _ _ hj']
  have h1 := ha.inside _ hr
  have h2 := hx.taken hf _ hr
  unfold Sp.valuesOf
  rw [map_nth _ _ _ hr]
  exact hk.at _ h1.1 h1.2 h2

theorem seen_length (σ : Sp) (a : Arr) (s : List Int) : (σ.seen a s).length = (vol s).toNat := by unfold Sp.seen picked; rw [List.length_map, meant_length]

/-- Numbers of a store's cells are numbers of its kind. -/
theorem Tie.valuesIn {X : XS} {sz : Nat} {σ : Sp} (h : Tie X sz σ) {a : Arr} (ha : a.ok σ) (j : Nat) : IntKind.i64.wrap (nth (σ.valuesOf a) j) = nth (σ.valuesOf a) j ∧ (a.kind = 1 → 0 ≤ nth (σ.valuesOf a) j ∧ nth (σ.valuesOf a) j < 256) := by
  by_cases hj : j < a.cells.length
  · unfold Sp.valuesOf
    rw [map_nth _ _ _ hj]
    have h1 := ha.inside j hj
    rcases ha.kind with hk | hk
    · rw [hk] at h1 ⊢
      have h2 := h.k1.wf1 rfl (nth a.cells j).toNat (by omega)
      exact ⟨by simp [IntKind.wrap, IntKind.signed, IntKind.bits]; omega, fun _ => h2⟩
    · rw [hk] at h1 ⊢
      exact ⟨h.k2.wf2 rfl (nth a.cells j).toNat (by omega), fun e => by omega⟩
  · rw [nth_out (by unfold Sp.valuesOf; simp; omega)]
    exact ⟨by simp [IntKind.wrap, IntKind.signed, IntKind.bits], fun _ => by omega⟩

theorem Tie.seenIn {X : XS} {sz : Nat} {σ : Sp} (h : Tie X sz σ) {a : Arr} (ha : a.ok σ) (s : List Int) (j : Nat) : IntKind.i64.wrap (nth (σ.seen a s) j) = nth (σ.seen a s) j := by
  by_cases hj : j < (meant a.shape s).length
  · unfold Sp.seen
    rw [picked_nth _ _ _ hj]
    exact (h.valuesIn ha _).1
  · rw [nth_out (by unfold Sp.seen picked; simp; omega)]
    simp [IntKind.wrap, IntKind.signed, IntKind.bits]

/-- valuesOver, in the document's words. -/
theorem xc_over {T : Tags} {o : Nat} {w : World} {p : Nat} {σ : Sp} {L : XL} {X : XS} (hok : σ.ok) (hX : XAt T o w p L X) (hT : Tie X (Maps.size L.D) σ) {h : Int} {a : Arr} {x : XA} (hf : σ.find h = some a) (hx : ATie σ a x) (s : List Int) (hs : okShape s) (hb : stretchB a.shape s = true) :
    Calls Tryz.prog 134 #[.pointer (some ⟨p, 0, none⟩), .agg x.cs, .agg (shC s).toArray] w fun e w' => ∃ ao c, e = .returned (.tuple #[.slice ao (vol s).toNat c, .bool true]) ∧ Kp0 w w' ∧ Fr w.heap.size w' (.slice ao (vol s).toNat c) (σ.seen a s) := by
  have ha := kind_of hok hf
  have hb' : stretchB x.l s = true := by rw [hx.l]; exact hb
  have hlen := seen_length σ a s
  rcases ha.kind with hk | hk
  · have hg := hx.g
    rw [hk, ← hT.k1.len] at hg
    have he := seen_eq hx hf ha s hs hb (c := X.c1) (bs := X.b1) (by rw [hk]; exact hT.k1)
    refine (xvaluesOverB hX x (by rw [hx.kind, hk]) hg s hs hb' (hT.k1.wrap (.inl rfl))).mono ?_
    rintro e w' ⟨v, rfl, hn⟩
    rw [he] at hn
    obtain ⟨ao, c, rfl, k, hfr⟩ := hn.fr
    rw [hlen] at hfr ⊢
    exact ⟨ao, c, rfl, k, hfr⟩
  · have hg := hx.g
    rw [hk, ← hT.k2.len] at hg
    have he := seen_eq hx hf ha s hs hb (c := X.c2) (bs := X.b2) (by rw [hk]; exact hT.k2)
    refine (xvaluesOverI hX x (by rw [hx.kind, hk]) hg s hs hb' (hT.k2.wrap (.inr rfl))).mono ?_
    rintro e w' ⟨v, rfl, hn⟩
    rw [he] at hn
    obtain ⟨ao, c, rfl, k, hfr⟩ := hn.fr
    rw [hlen] at hfr ⊢
    exact ⟨ao, c, rfl, k, hfr⟩

/-- The cells of an array, told by the program. -/
theorem xc_cells {σ : Sp} {a : Arr} {x : XA} (hx : ATie σ a x) (W : World) :
    Calls Tryz.prog 60 #[.agg (grC x.l x.t x.f).toArray] W fun e w' => ∃ ao c, e = .returned (.slice ao a.cells.length c) ∧ Kp0 W w' ∧ Fr W.heap.size w' (.slice ao a.cells.length c) a.cells := by
  refine (xcells_calls x.l x.t x.f _ W hx.g).mono ?_
  rintro e w' ⟨v, rfl, hn⟩
  rw [hx.cells] at hn
  obtain ⟨ao, c, rfl, k, hfr⟩ := hn.fr
  exact ⟨ao, c, rfl, k, hfr⟩

/-- Write into an array's cells, in the document's words. -/
theorem xc_writeB {T : Tags} {o : Nat} {w : World} {p : Nat} {σ : Sp} {L : XL} {X : XS} (hok : σ.ok) (hX : XAt T o w p L X) (hT : Tie X (Maps.size L.D) σ) {h : Int} {a : Arr} {x : XA} (hf : σ.find h = some a) (hx : ATie σ a x) (hk : a.kind = 1) (V : List Int) (hl : V.length = a.cells.length) (hV : ∀ j, IntKind.i64.wrap (nth V j) = nth V j)
    (W : World) (vp vv : Value) (k : Kp0 w W) (hp : Fr w.heap.size W vp a.cells) (hv : Fr w.heap.size W vv V) :
    Calls Tryz.prog 198 #[.pointer (some ⟨L.q1, 0, none⟩), vp, vv] W fun e w' => ∃ u, e = .returned u ∧ Step XRep T o w p (σ.writes 1 a.cells (fun i => asK 1 (nth V i)) a.cells.length) w' := by
  have ha := kind_of hok hf
  have hlt : L.g1 < w.heap.size := lt_of_heap hX.s1.cells
  have hP : ∀ j, j < a.cells.length → 0 ≤ nth a.cells j ∧ nth a.cells j < σ.cap 1 ∧ σ.taken 1 (nth a.cells j) = true := fun j hj => by
    have h1 := ha.inside j hj
    have h2 := hx.taken hf j hj
    rw [hk] at h1 h2
    exact ⟨h1.1, h1.2, h2⟩
  have h36 : a.cells.length ≤ 1000000 := by have := ha.length; have := ha.shape.2.2; omega
  refine (xWriteB_calls (hX.kp0 k).s1 a.cells V vp vv hp.1 (fun _ e => by have := hp.2 _ e; omega) hv.1 (fun _ e => by have := hv.2 _ e; omega) hl (fun j _ => hV j) (fun j hj => by rw [hT.k1.len]; exact ⟨(hP j hj).1, (hP j hj).2.1⟩) h36).mono ?_
  rintro e w' ⟨rfl, hk', hb⟩
  have hX' := (hX.kp0 k).putB hk' hb (wrTo_length _ _ _ _)
  have hw1 : (fun j => IntKind.wrap .u8 (nth V j)) = fun j => asK 1 (nth V j) := by funext j; rw [wrap_u8]; simp [asK]
  rw [hw1] at hX'
  have hn := (hT.writesFB hok a.cells hP (fun j => asK 1 (nth V j)) (fun j _ => by simp only [asK, if_true]; omega) a.cells.length (Nat.le_refl _)).1
  exact ⟨_, rfl, T, fun _ _ => rfl, ⟨writes_ok hok _ _ _ _, L, _, hX', hn⟩, (Kp.of0 k).trans hk' (fun b _ e => by rw [e, hX.tg1])⟩

theorem xc_writeI {T : Tags} {o : Nat} {w : World} {p : Nat} {σ : Sp} {L : XL} {X : XS} (hok : σ.ok) (hX : XAt T o w p L X) (hT : Tie X (Maps.size L.D) σ) {h : Int} {a : Arr} {x : XA} (hf : σ.find h = some a) (hx : ATie σ a x) (hk : a.kind = 2) (V : List Int) (hl : V.length = a.cells.length) (hV : ∀ j, IntKind.i64.wrap (nth V j) = nth V j)
    (W : World) (vp vv : Value) (k : Kp0 w W) (hp : Fr w.heap.size W vp a.cells) (hv : Fr w.heap.size W vv V) :
    Calls Tryz.prog 218 #[.pointer (some ⟨L.q2, 0, none⟩), vp, vv] W fun e w' => ∃ u, e = .returned u ∧ Step XRep T o w p (σ.writes 2 a.cells (fun i => asK 2 (nth V i)) a.cells.length) w' := by
  have ha := kind_of hok hf
  have hlt : L.g2 < w.heap.size := lt_of_heap hX.s2.cells
  have hP : ∀ j, j < a.cells.length → 0 ≤ nth a.cells j ∧ nth a.cells j < σ.cap 2 ∧ σ.taken 2 (nth a.cells j) = true := fun j hj => by
    have h1 := ha.inside j hj
    have h2 := hx.taken hf j hj
    rw [hk] at h1 h2
    exact ⟨h1.1, h1.2, h2⟩
  have h36 : a.cells.length ≤ 1000000 := by have := ha.length; have := ha.shape.2.2; omega
  refine (xWriteI_calls (hX.kp0 k).s2 a.cells V vp vv hp.1 (fun _ e => by have := hp.2 _ e; omega) hv.1 (fun _ e => by have := hv.2 _ e; omega) hl (fun j _ => hV j) (fun j hj => by rw [hT.k2.len]; exact ⟨(hP j hj).1, (hP j hj).2.1⟩) h36).mono ?_
  rintro e w' ⟨rfl, hk', hb⟩
  have hX' := (hX.kp0 k).putI hk' hb (wrTo_length _ _ _ _)
  have hw1 : (fun j => IntKind.wrap .i64 (nth V j)) = fun j => asK 2 (nth V j) := by funext j; rw [hV]; simp [asK]
  rw [hw1] at hX'
  have hn := (hT.writesFI hok a.cells hP (fun j => asK 2 (nth V j)) (fun j _ => by simp only [asK]; exact hV j) a.cells.length (Nat.le_refl _)).1
  exact ⟨_, rfl, T, fun _ _ => rfl, ⟨writes_ok hok _ _ _ _, L, _, hX', hn⟩, (Kp.of0 k).trans hk' (fun b _ e => by rw [e, hX.tg2])⟩

theorem xc_assign {T : Tags} {o : Nat} {w : World} {p : Nat} {σ : Sp} (to fr : Int) (hR : XRep T o w p σ) :
    Calls Tryz.prog 65 #[.pointer (some ⟨p, 0, none⟩), .int .i64 to, .int .i64 fr] w fun e w' => e = .returned (.int .i64 (σ.assign to fr).2) ∧ Step XRep T o w p (σ.assign to fr).1 w' := by
  have hR' := hR
  obtain ⟨hok, L, X, hX, hT⟩ := hR
  have no : ∀ er, er ≠ 0 → σ.assign to fr = (σ, er) → (∀ W vh, Kp0 w W → RdI W vh [fr] → Calls Tryz.prog 99 #[.pointer (some ⟨p, 0, none⟩), .int .i64 to, vh] W fun e w' => e = .returned (.tuple #[.slice none 0 0, .nilIface, .slice none 0 0, .int .i64 er]) ∧ Kp0 W w') →
      Calls Tryz.prog 65 #[.pointer (some ⟨p, 0, none⟩), .int .i64 to, .int .i64 fr] w fun e w' => e = .returned (.int .i64 (σ.assign to fr).2) ∧ Step XRep T o w p (σ.assign to fr).1 w' := fun er he hres hh => by
    rw [hres]
    refine (xAssign_no p to fr er w he (hid hh)).mono ?_
    rintro e w' ⟨rfl, hk⟩
    exact ⟨rfl, hR'.stay hk⟩
  cases hf : σ.find fr with
  | none =>
    refine no 2 (by omega) (by cases h : σ.find to <;> simp [Sp.assign, hf, h]) (fun W vh k hr => ?_)
    exact xtoWork_find p to 2 vh W (by omega) (xfindAll1_no0 (hX.kp0 k) fr vh hr (hT.non fr hf))
  | some b =>
    obtain ⟨y, hAy, hy⟩ := hT.som fr b hf
    have hb := kind_of hok hf
    have hky : y.kind = 1 ∨ y.kind = 2 := by rw [hy.kind]; exact hb.kind
    cases hft : σ.find to with
    | none =>
      refine no 2 (by omega) (by simp [Sp.assign, hft]) (fun W vh k hr => ?_)
      refine xtoWork_write p to 2 vh W (by omega) ((xfindAll1_yes (hX.kp0 k) fr vh hr y hAy hky).mono (fun e w' ⟨g, h1, h2, _⟩ => ⟨g, 1, h1, h2⟩)) (hid (fun W' k' => xfindw_none ((hX.kp0 k).kp0 k') to (hT.non to hft)))
    | some a =>
      obtain ⟨x, hA, hx⟩ := hT.som to a hft
      have ha := kind_of hok hft
      have hkx : x.kind = 1 ∨ x.kind = 2 := by rw [hx.kind]; exact ha.kind
      cases hro : x.ro with
      | true =>
        refine no 6 (by omega) (by simp [Sp.assign, hft, hf, ← hx.ro, hro]) (fun W vh k hr => ?_)
        refine xtoWork_write p to 6 vh W (by omega) ((xfindAll1_yes (hX.kp0 k) fr vh hr y hAy hky).mono (fun e w' ⟨g, h1, h2, _⟩ => ⟨g, 1, h1, h2⟩)) (hid (fun W' k' => xfindw_ro ((hX.kp0 k).kp0 k') to x hA hkx hro))
      | false =>
        have hsx : okShape x.l := hx.g.shape
        cases hst : stretchB b.shape a.shape with
        | false =>
          refine no 4 (by omega) (by simp [Sp.assign, hft, hf, ← hx.ro, hro, hst]) (fun W vh k hr => ?_)
          exact xtoWork1_no0 p to vh (L.inV x.kind) W y x (xfindAll1_yes (hX.kp0 k) fr vh hr y hAy hky) (hid (fun W' k' => xfindw_some ((hX.kp0 k).kp0 k') to x hA hkx hro)) (hid (fun W' k' => xvaluesNoB p W' y x.l hy.g.shape.1 hsx.1 (by rw [hy.l, hx.l]; exact hst)))
        | true =>
          have hres : σ.assign to fr = (σ.writes a.kind a.cells (fun i => asK a.kind (nth (σ.seen b a.shape) i)) a.cells.length, 0) := by simp [Sp.assign, hft, hf, ← hx.ro, hro, hst]
          rw [hres]
          have hvl : (σ.seen b a.shape).length = a.cells.length := by rw [seen_length]; have := ha.length; omega
          have hT1 : ∀ W vh, Kp0 w W → RdI W vh [fr] → Calls Tryz.prog 99 #[.pointer (some ⟨p, 0, none⟩), .int .i64 to, vh] W fun e w' => ∃ aP cP g a0 c0, e = .returned (.tuple #[.slice aP a.cells.length cP, L.inV x.kind, .slice (some ⟨g, 0, none⟩) 1 1, .int .i64 0]) ∧ (Kp0 W w' ∧ w'.heap[g]? = some (.cells #[.slice a0 (vol a.shape).toNat c0] 26 (0, 0)) ∧ W.heap.size ≤ g ∧ Fr W.heap.size w' (.slice aP a.cells.length cP) a.cells ∧ Fr W.heap.size w' (.slice a0 (vol a.shape).toNat c0) (σ.seen b a.shape)) := fun W vh k hr =>
            xtoWork1_yes p to vh (L.inV x.kind) W y x _ _ _ _ (xfindAll1_yes (hX.kp0 k) fr vh hr y hAy hky) (hid (fun W' k' => xfindw_some ((hX.kp0 k).kp0 k') to x hA hkx hro))
              (hid (fun W' k' => by rw [hx.l]; exact xc_over hok ((hX.kp0 k).kp0 k') hT hf hy a.shape ha.shape hst)) (hid (fun W' _ => xc_cells hx W'))
          rcases ha.kind with hk | hk
          · rw [hx.kind, hk, inVB] at hT1
            rw [hk]
            exact xAssignOkB p L.q1 to fr w _ _ _ _ (hid hT1) (hid (fun W vp vv k hp hv => xc_writeB hok hX hT hft hx hk _ hvl (fun j => hT.seenIn hb _ j) W vp vv k hp hv))
          · rw [hx.kind, hk, inVI] at hT1
            rw [hk]
            exact xAssignOkI p L.q2 to fr w _ _ _ _ (hid hT1) (hid (fun W vp vv k hp hv => xc_writeI hok hX hT hft hx hk _ hvl (fun j => hT.seenIn hb _ j) W vp vv k hp hv))

end Go.Proofs.YticbbncdcannlaaGreat

/- The program's space, walked where the array that is written is one of uint8: Work. -/
namespace Go.Proofs.YticbbncdcannlaaGreat
open Go.RowKit Go.Maps Go.ChangeMaps Go.MapKept

theorem Tryz.mCombineB (a : Addr) (x y z : Value) (w : World) : (callMethod (.iface 126 (.pointer (some a))) "Combine" #[x, y, z]).run Tryz.prog w = .ok (.enter 192 #[.pointer (some a), x, y, z]) w := by kernel_rfl
theorem Tryz.nCombineB (a : Addr) (w : World) : (nilAhead 367 126 (.pointer (some a)) "Combine").run Tryz.prog w = .ok (some false) w := by kernel_rfl

set_option maxRecDepth 100000 in
set_option maxHeartbeats 4000000 in
theorem xWorkOkB (p q : Nat) (op to x y : Int) (w : World) (m0 : Nat) (V0 : List Int) (m1 : Nat) (V1 VC : List Int) (mP : Nat) (P : List Int) (h1 : 1 ≤ op) (h2 : op ≤ 5) {Q : World → Prop}
    (HT : Hid (∀ W vh, Kp0 w W → RdI W vh [x, y] → Calls Tryz.prog 99 #[.pointer (some ⟨p, 0, none⟩), .int .i64 to, vh] W fun e w' => ∃ aP cP g a0 c0 a1 c1, e = .returned (.tuple #[.slice aP mP cP, .iface 126 (.pointer (some ⟨q, 0, none⟩)), .slice (some ⟨g, 0, none⟩) 2 2, .int .i64 0]) ∧ (Kp0 W w' ∧ w'.heap[g]? = some (.cells #[.slice a0 m0 c0, .slice a1 m1 c1] 26 (0, 0)) ∧ W.heap.size ≤ g ∧ Fr W.heap.size w' (.slice aP mP cP) P ∧ Fr W.heap.size w' (.slice a0 m0 c0) V0 ∧ Fr W.heap.size w' (.slice a1 m1 c1) V1)))
    (HC : Hid (∀ W v0 v1 vp, Kp0 w W → Fr w.heap.size W v0 V0 → Fr w.heap.size W v1 V1 → Fr w.heap.size W vp P → Calls Tryz.prog 192 #[.pointer (some ⟨q, 0, none⟩), .int .i64 op, v0, v1] W fun e w' => ∃ v, e = .returned v ∧ (Kp0 w w' ∧ Fr w.heap.size w' v VC ∧ Fr w.heap.size w' vp P)))
    (HW : Hid (∀ W vp vv, Kp0 w W → Fr w.heap.size W vp P → Fr w.heap.size W vv VC → Calls Tryz.prog 198 #[.pointer (some ⟨q, 0, none⟩), vp, vv] W fun e w' => ∃ u, e = .returned u ∧ Q w')) :
    Calls Tryz.prog 67 #[.pointer (some ⟨p, 0, none⟩), .int .i64 op, .int .i64 to, .int .i64 x, .int .i64 y] w fun e w' => e = .returned (.int .i64 0) ∧ Q w' := by
  have HK1 : Hid (Kp0 w (w.alloc (.cells #[.int .i64 x, .int .i64 y] 3))) := (Kp.refl _ w).alloc _
  have HR1 : Hid (RdI (w.alloc (.cells #[.int .i64 x, .int .i64 y] 3)) (.slice (some ⟨w.heap.size, 0, none⟩) 2 2) [x, y]) := rd_of_blk (heap_alloc_new w _) rfl
  have HO := hid (xIsOp_yes op w h1 h2)
  clear h1 h2
  go_enter Tryz.func67, Tryz.ntmps67
  go_wp2_with fail
  refine HO.out.mono ?_
  rintro e w1 ⟨rfl, hw⟩
  obtain rfl := hw.symm
  clear hw HO
  go_wp2_with fail
  refine (HT.out _ _ HK1.out HR1.out).mono ?_
  rintro e w2 ⟨aP, cP, g, a0, c0, a1, c1, rfl, hk, hb, hg, hP, hV, hV1⟩
  have HK2 : Hid (Kp0 w w2) := Kp0.trans HK1.out hk
  have HFP : Hid (Fr w.heap.size w2 (.slice aP mP cP) P) := hP.le (by simp)
  have HFV : Hid (Fr w.heap.size w2 (.slice a0 m0 c0) V0) := hV.le (by simp)
  have HFV1 : Hid (Fr w.heap.size w2 (.slice a1 m1 c1) V1) := hV1.le (by simp)
  have y0 : w2.cell? ⟨g, 0, none⟩ = some (.slice a0 m0 c0) := cell_of_row _ g 0 _ _ _ hb
  have y1 : w2.cell? ⟨g, 1, none⟩ = some (.slice a1 m1 c1) := cell_of_row _ g 1 _ _ _ hb
  have HMR := hid (Tryz.mWriteB ⟨q, 0, none⟩)
  have HMC := hid (Tryz.mCombineB ⟨q, 0, none⟩)
  have hna := Tryz.nWriteB ⟨q, 0, none⟩
  have hnc := Tryz.nCombineB ⟨q, 0, none⟩
  clear hk hb hg hP hV hV1 HK1 HR1 HT
  go_wp2
  have HKD : Hid (Kp0 w w2.drew) := HK2.out.drew
  have HFPD : Hid (Fr w.heap.size w2.drew (.slice aP mP cP) P) := HFP.out.kp0 (Kp0.refl w2).drew
  have HFVD : Hid (Fr w.heap.size w2.drew (.slice a0 m0 c0) V0) := HFV.out.kp0 (Kp0.refl w2).drew
  have HFVE : Hid (Fr w.heap.size w2.drew (.slice a1 m1 c1) V1) := HFV1.out.kp0 (Kp0.refl w2).drew
  go_region_law ((first
    | (refine step_invoke3 (by rfl) (.tmp 44) "Combine" (.tmp 35) (.tmp 38) (.tmp 41) _ (by rfl) _ (.int .i64 op) (.slice a0 m0 c0) (.slice a1 m1 c1) (by rfl) (by rfl) (by rfl) (by rfl) _ _ (HMC.out _ _ _ _) (HC.out _ _ _ _ HKD.out HFVD.out HFVE.out HFPD.out) ?_; intro v7 w7 hR7; obtain ⟨hK7, hC7, hP7⟩ := hR7)
    | (refine step_invoke2 (by rfl) (.tmp 48) "Write" (.tmp 33) (.tmp 45) _ (by rfl) _ (.slice aP mP cP) v7 (by rfl) (by rfl) (by rfl) _ _ (HMR.out _ _ _) (HW.out _ _ _ hK7 hP7 hC7) ?_; intro v8 w8 hR8)))
  all_goals
    have HR8 := hid hR8
    clear hR8 hK7 hC7 hP7
    go_wp2
    go_ret
    exact ⟨rfl, HR8.out⟩

end Go.Proofs.YticbbncdcannlaaGreat

/- The program's space, walked: makeOf where nothing is made; a look-up of an array that is there. -/
namespace Go.Proofs.YticbbncdcannlaaGreat
open Go.RowKit Go.Maps Go.ChangeMaps Go.MapKept

/-- A call of a Go function of five arguments, by its contract, as a step of a region that draws. -/
theorem step_call5 {P : Program} {ops : Array Oper} {o : Oper} {a : Act} {w : World} {K : Act → World → Prop} {Q : Exit → Act → World → Prop} {E : Prop} (hgd : o.guard = none) (f : FuncId) (x y z u t : Operand) (ts : Array TypeId)
    (ho : o.op = .call { callee := .value (.func f), args := #[x, y, z, u, t], argTypes := ts }) (fn : Func) (hf : P.funcs[f]? = some fn) (hname : (fn.name == "runtime.NumGoroutine") = false) (hb : fn.body.isSome = true) (vx vy vz vu vt : Value) (hx : a.eval x = vx) (hy : a.eval y = vy) (hz : a.eval z = vz) (hu : a.eval u = vu) (ht : a.eval t = vt) {R : Value → World → Prop}
    (hc : Calls P f #[vx, vy, vz, vu, vt] w fun e w' => ∃ v, e = .returned v ∧ R v w') (h : ∀ v w', R v w' → K (a.put o.dst v) w') :
    if Region.wanted o (yielded ops a.tmps) = true then Oper.wp P o a w K Q else E := by
  have hw : Region.wanted o (yielded ops a.tmps) = true := by simp [Region.wanted, hgd]
  rw [if_pos hw]
  have hr := run_callFunc_body (P := P) hf hname hb
  have hev : a.eval (.func f) = .func (.func f) #[] #[] := rfl
  unfold Oper.wp execOp
  simp [ho, resolve, hev, Deferred.ofValue, invoke, hx, hy, hz, hu, ht, hr, Oper.upon]
  refine hc.mono ?_
  rintro e w' ⟨v, rfl, hR⟩
  exact h v w' hR

theorem look_run1 {w : World} {b n : Nat} {D : DataW Value} {A : Int → Option XA} (h : w.ownsMap Tryz.prog 3 elemR b n D) (hm : XMap D A) (a : Int) (x : XA) (hA : A a = some x) :
    (Instr.lookup 128 (.map (some b)) (.int .i64 a) false).run Tryz.prog w = .ok (.agg x.cs) w := by
  obtain ⟨hw, h1, h2⟩ := hm.som a x hA
  obtain ⟨v, ps, hrun, hv⟩ := h.lookup (e := 109) Tryz.lawInt Tryz.underlying128 (Tryz.zeroArr w) (zd := .held (.agg xaZ)) (zp := []) rfl (keyOf_int_mk Tryz.underlying3 hw)
  rw [hrun]
  simp only [elemR, Option.some.injEq, Prod.mk.injEq] at hv
  rw [h2] at hv
  have : v = .agg x.cs := by injection hv.1
  rw [this]

theorem Tryz.fieldGrid (c0 c1 c2 c3 c4 c5 c6 c7 c8 c9 c10 c11 c12 : Value) (W : World) : (Instr.field 109 (.agg #[c0, c1, c2, c3, c4, c5, c6, c7, c8, c9, c10, c11, c12]) 2).run Tryz.prog W = .ok (.agg #[c2, c3, c4, c5, c6, c7, c8, c9, c10, c11]) W := by kernel_rfl

set_option maxRecDepth 100000 in
set_option maxHeartbeats 1000000 in
theorem xmakeOf_no (p : Nat) (kind : Int) (I : Value) (s : List Int) (vv : Value) (w : World) (er : Int) (he : er ≠ 0) {R : World → Prop}
    (HW : Hid (∀ W, Kp0 w W → Calls Tryz.prog 63 #[.pointer (some ⟨p, 0, none⟩), .int .i64 kind, I, .agg (shC s).toArray] W fun e w' => ∃ a, e = .returned (.tuple #[.int .i64 a, .int .i64 er]) ∧ R w')) :
    Calls Tryz.prog 59 #[.pointer (some ⟨p, 0, none⟩), .int .i64 kind, I, .agg (shC s).toArray, vv] w fun e w' => e = .returned (.tuple #[.int .i64 0, .int .i64 er]) ∧ R w' := by
  have d1 : (er != 0) = true := by simp [he]
  unfold shC at HW ⊢
  generalize s.length = m at *
  clear he
  go_enter Tryz.func59, Tryz.ntmps59
  go_wp2_with fail
  refine (HW.out _ ((Kp.refl _ w).alloc _)).mono ?_
  rintro e w2 ⟨a, rfl, hR⟩
  have HR := hid hR
  clear hR
  go_wp2
  go_ret2
  exact ⟨rfl, HR.out⟩

end Go.Proofs.YticbbncdcannlaaGreat

/- The program's space at uint8, walked: makeOf. -/
namespace Go.Proofs.YticbbncdcannlaaGreat
open Go.RowKit Go.Maps Go.ChangeMaps Go.MapKept

set_option maxRecDepth 100000 in
set_option maxHeartbeats 4000000 in
theorem xmakeOfOkB (p q : Nat) (kind hn : Int) (s : List Int) (vv : Value) (w : World) (mc : Nat) (P : List Int) {R Q : World → Prop}
    (HW : Hid (∀ W, Kp0 w W → Calls Tryz.prog 63 #[.pointer (some ⟨p, 0, none⟩), .int .i64 kind, .iface 126 (.pointer (some ⟨q, 0, none⟩)), .agg (shC s).toArray] W fun e w' => e = .returned (.tuple #[.int .i64 hn, .int .i64 0]) ∧ R w'))
    (HL : Hid (∀ w', R w' → ∃ (x : XA) (bm : Nat) (c0 c1 c3 : Value), w'.heap[p]? = some (.cells #[c0, c1, .map (some bm), c3] 130 (0, 0)) ∧ (Instr.lookup 128 (.map (some bm)) (.int .i64 hn) false).run Tryz.prog w'.drew = .ok (.agg x.cs) w'.drew ∧ ∀ W, Calls Tryz.prog 60 #[.agg (grC x.l x.t x.f).toArray] W fun e w' => ∃ ao c, e = .returned (.slice ao mc c) ∧ Kp0 W w' ∧ Fr W.heap.size w' (.slice ao mc c) P))
    (HX : Hid (∀ w' W vp, R w' → Kp0 w' W → Fr w'.heap.size W vp P → Calls Tryz.prog 198 #[.pointer (some ⟨q, 0, none⟩), vp, vv] W fun e w2 => ∃ u, e = .returned u ∧ Q w2)) :
    Calls Tryz.prog 59 #[.pointer (some ⟨p, 0, none⟩), .int .i64 kind, .iface 126 (.pointer (some ⟨q, 0, none⟩)), .agg (shC s).toArray, vv] w fun e w' => e = .returned (.tuple #[.int .i64 hn, .int .i64 0]) ∧ Q w' := by
  unfold shC at HW ⊢
  generalize s.length = m at *
  have HMR := hid (Tryz.mWriteB ⟨q, 0, none⟩)
  have hna := Tryz.nWriteB ⟨q, 0, none⟩
  go_enter Tryz.func59, Tryz.ntmps59
  go_wp2_with fail
  refine (HW.out _ ((Kp.refl _ w).alloc _)).mono ?_
  rintro e w2 ⟨rfl, hR⟩
  have HR := hid hR
  obtain ⟨x, bm, c0, c1, c3, hb, hlk, hC⟩ := HL.out w2 hR
  have HC2 : Hid (∀ W, Calls Tryz.prog 60 #[.agg (grC x.l x.t x.f).toArray] W fun e w' => ∃ v, e = .returned v ∧ ∃ ao c, v = .slice ao mc c ∧ Kp0 W w' ∧ Fr W.heap.size w' (.slice ao mc c) P) := hid (fun W => (hC W).mono (fun e w' ⟨ao, c, h1, h2, h3⟩ => ⟨_, h1, ao, c, rfl, h2, h3⟩))
  unfold XA.cs at hlk
  unfold grC at HC2
  clear hC
  generalize x.l.length = n at *
  have y2 : w2.cell? ⟨p, 2, none⟩ = some (.map (some bm)) := cell_of_row _ p 2 _ _ _ hb
  have hfd := Tryz.fieldGrid (.int .i64 x.kind) (.int .i64 x.buf) (.int .i64 (nth x.l 0)) (.int .i64 (nth x.l 1)) (.int .i64 (nth x.l 2)) (.int .i64 (nth x.l 3)) (.int .i64 (n : Int)) (.int .i64 x.f) (.int .i64 (nth x.t 0)) (.int .i64 (nth x.t 1)) (.int .i64 (nth x.t 2)) (.int .i64 (nth x.t 3)) (.bool x.ro)
  clear hR hb HL HW
  go_wp2
  go_region_law ((first
    | (refine step_call1 (by rfl) 60 (.tmp 32) _ (by rfl) _ Tryz.func60 (by kernel_rfl) (by kernel_rfl) _ (by rfl) (HC2.out _) ?_; intro v7 w7 hR7; obtain ⟨ao, c7, rfl, hk7, hf7⟩ := hR7)
    | (refine step_invoke2 (by rfl) (.tmp 37) "Write" (.tmp 33) (.tmp 34) _ (by rfl) _ (.slice ao mc c7) vv (by rfl) (by rfl) (by rfl) _ _ (HMR.out _ _ _) (HX.out _ _ _ HR.out (Kp0.trans (Kp0.refl w2).drew hk7) hf7) ?_; intro v8 w8 hR8)))
  all_goals
    have HR8 := hid hR8
    clear hR8 hk7 hf7
    go_wp2
    go_ret2
    exact ⟨rfl, HR8.out⟩

end Go.Proofs.YticbbncdcannlaaGreat
