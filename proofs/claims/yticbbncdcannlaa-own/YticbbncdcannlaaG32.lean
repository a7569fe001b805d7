/- The program's space, walked: Assign, Work where they refuse. -/
import Derived.Test.YticbbncdcannlaaG31
import Derived.Test.YticbbncdcannlaaG14
import Derived.Deep.RegionLaw
import Derived.BigRegion
import Derived.Test.YticbbncdcannlaaG30
import Derived.Test.YticbbncdcannlaaG11

namespace Go.Proofs.Yticbbncdcannlaa
open Go.RowKit Go.Maps Go.ChangeMaps Go.MapKept

set_option maxRecDepth 100000 in
set_option maxHeartbeats 2000000 in
theorem xAssign_no (p : Nat) (to fr er : Int) (w : World) (he : er ≠ 0)
    (HT : Hid (∀ W vh, Kp0 w W → RdI W vh [fr] → Calls Try.prog 32 #[.pointer (some ⟨p, 0, none⟩), .int .i64 to, vh] W fun e w' => e = .returned (.tuple #[.slice none 0 0, .nilIface, .slice none 0 0, .int .i64 er]) ∧ Kp0 W w')) :
    Calls Try.prog 16 #[.pointer (some ⟨p, 0, none⟩), .int .i64 to, .int .i64 fr] w fun e w' => e = .returned (.int .i64 er) ∧ Kp0 w w' := by
  have HK1 : Hid (Kp0 w (w.alloc (.cells #[.int .i64 fr] 3))) := (Kp.refl _ w).alloc _
  have HR1 : Hid (RdI (w.alloc (.cells #[.int .i64 fr] 3)) (.slice (some ⟨w.heap.size, 0, none⟩) 1 1) [fr]) := rd_of_blk (heap_alloc_new w _) rfl
  have d1 : (er != 0) = true := by simp [he]
  clear he
  go_enter Try.func16, Try.ntmps16
  go_wp2_with fail
  refine (HT.out _ _ HK1.out HR1.out).mono ?_
  rintro e w2 ⟨rfl, hk⟩
  have HK2 : Hid (Kp0 w w2) := Kp0.trans HK1.out hk
  clear hk HK1 HR1 HT
  go_wp2
  go_ret
  exact ⟨rfl, HK2.out⟩

set_option maxRecDepth 100000 in
set_option maxHeartbeats 2000000 in
theorem xIsOp_yes (op : Int) (w : World) (h1 : 1 ≤ op) (h2 : op ≤ 5) : Calls Try.prog 31 #[.int .i64 op] w fun e w' => e = .returned (.bool true) ∧ w' = w := by
  have d2 : decide (op ≥ 1) = true := by simp; omega
  have d3 : decide (op ≤ 5) = true := by simp; omega
  clear h1 h2
  go_enter Try.func31, Try.ntmps31
  go_wp2
  go_ret
  exact ⟨rfl, rfl⟩

set_option maxRecDepth 100000 in
set_option maxHeartbeats 2000000 in
theorem xWork_op (p : Nat) (op to x y : Int) (w : World) (he : op < 1 ∨ 5 < op) :
    Calls Try.prog 15 #[.pointer (some ⟨p, 0, none⟩), .int .i64 op, .int .i64 to, .int .i64 x, .int .i64 y] w fun e w' => e = .returned (.int .i64 1) ∧ Kp0 w w' := by
  have HK : Hid (Kp0 w w) := Kp0.refl w
  rcases he with he | he
  · have d1 : decide (op ≥ 1) = false := by simp; omega
    clear he
    go_enter Try.func15, Try.ntmps15
    go_wp2
    go_ret
    exact ⟨rfl, HK.out⟩
  · have d1 : decide (op ≥ 1) = true := by simp; omega
    have d2 : decide (op ≤ 5) = false := by simp; omega
    clear he
    go_enter Try.func15, Try.ntmps15
    go_wp2
    go_ret
    exact ⟨rfl, HK.out⟩

set_option maxRecDepth 100000 in
set_option maxHeartbeats 2000000 in
theorem xWork_no (p : Nat) (op to x y er : Int) (w : World) (h1 : 1 ≤ op) (h2 : op ≤ 5) (he : er ≠ 0)
    (HT : Hid (∀ W vh, Kp0 w W → RdI W vh [x, y] → Calls Try.prog 32 #[.pointer (some ⟨p, 0, none⟩), .int .i64 to, vh] W fun e w' => e = .returned (.tuple #[.slice none 0 0, .nilIface, .slice none 0 0, .int .i64 er]) ∧ Kp0 W w')) :
    Calls Try.prog 15 #[.pointer (some ⟨p, 0, none⟩), .int .i64 op, .int .i64 to, .int .i64 x, .int .i64 y] w fun e w' => e = .returned (.int .i64 er) ∧ Kp0 w w' := by
  have HK1 : Hid (Kp0 w (w.alloc (.cells #[.int .i64 x, .int .i64 y] 3))) := (Kp.refl _ w).alloc _
  have HR1 : Hid (RdI (w.alloc (.cells #[.int .i64 x, .int .i64 y] 3)) (.slice (some ⟨w.heap.size, 0, none⟩) 2 2) [x, y]) := rd_of_blk (heap_alloc_new w _) rfl
  have d1 : (er != 0) = true := by simp [he]
  have HO := hid (xIsOp_yes op w h1 h2)
  clear he h1 h2
  go_enter Try.func15, Try.ntmps15
  go_wp2_with fail
  refine HO.out.mono ?_
  rintro e w1 ⟨rfl, hw⟩
  obtain rfl := hw.symm
  clear hw
  go_wp2_with fail
  refine (HT.out _ _ HK1.out HR1.out).mono ?_
  rintro e w2 ⟨rfl, hk⟩
  have HK2 : Hid (Kp0 w w2) := Kp0.trans HK1.out hk
  clear hk HK1 HR1 HT
  go_wp2
  go_ret
  exact ⟨rfl, HK2.out⟩

end Go.Proofs.Yticbbncdcannlaa

/- The program's space, walked where the array that is written is one of uint8: Assign. -/
namespace Go.Proofs.Yticbbncdcannlaa
open Go.RowKit Go.Maps Go.ChangeMaps Go.MapKept

theorem Try.mWriteB (a : Addr) (x y : Value) (w : World) : (callMethod (.iface 63 (.pointer (some a))) "Write" #[x, y]).run Try.prog w = .ok (.enter 85 #[.pointer (some a), x, y]) w := by kernel_rfl
theorem Try.nWriteB (a : Addr) (w : World) : (nilAhead 256 63 (.pointer (some a)) "Write").run Try.prog w = .ok (some false) w := by kernel_rfl

set_option maxRecDepth 100000 in
set_option maxHeartbeats 2000000 in
theorem xAssignOkB (p q : Nat) (to fr : Int) (w : World) (m0 : Nat) (V0 : List Int) (mP : Nat) (P : List Int) {Q : World → Prop}
    (HT : Hid (∀ W vh, Kp0 w W → RdI W vh [fr] → Calls Try.prog 32 #[.pointer (some ⟨p, 0, none⟩), .int .i64 to, vh] W fun e w' => ∃ aP cP g a0 c0, e = .returned (.tuple #[.slice aP mP cP, .iface 63 (.pointer (some ⟨q, 0, none⟩)), .slice (some ⟨g, 0, none⟩) 1 1, .int .i64 0]) ∧ (Kp0 W w' ∧ w'.heap[g]? = some (.cells #[.slice a0 m0 c0] 22 (0, 0)) ∧ W.heap.size ≤ g ∧ Fr W.heap.size w' (.slice aP mP cP) P ∧ Fr W.heap.size w' (.slice a0 m0 c0) V0)))
    (HW : Hid (∀ W vp vv, Kp0 w W → Fr w.heap.size W vp P → Fr w.heap.size W vv V0 → Calls Try.prog 85 #[.pointer (some ⟨q, 0, none⟩), vp, vv] W fun e w' => ∃ u, e = .returned u ∧ Q w')) :
    Calls Try.prog 16 #[.pointer (some ⟨p, 0, none⟩), .int .i64 to, .int .i64 fr] w fun e w' => e = .returned (.int .i64 0) ∧ Q w' := by
  have HK1 : Hid (Kp0 w (w.alloc (.cells #[.int .i64 fr] 3))) := (Kp.refl _ w).alloc _
  have HR1 : Hid (RdI (w.alloc (.cells #[.int .i64 fr] 3)) (.slice (some ⟨w.heap.size, 0, none⟩) 1 1) [fr]) := rd_of_blk (heap_alloc_new w _) rfl
  go_enter Try.func16, Try.ntmps16
  go_wp2_with fail
  refine (HT.out _ _ HK1.out HR1.out).mono ?_
  rintro e w2 ⟨aP, cP, g, a0, c0, rfl, hk, hb, hg, hP, hV⟩
  have HK2 : Hid (Kp0 w w2) := Kp0.trans HK1.out hk
  have HFP : Hid (Fr w.heap.size w2 (.slice aP mP cP) P) := hP.le (by simp)
  have HFV : Hid (Fr w.heap.size w2 (.slice a0 m0 c0) V0) := hV.le (by simp)
  have y0 : w2.cell? ⟨g, 0, none⟩ = some (.slice a0 m0 c0) := cell_of_row _ g 0 _ _ _ hb
  have HMR := hid (Try.mWriteB ⟨q, 0, none⟩)
  have hna := Try.nWriteB ⟨q, 0, none⟩
  clear hk hb hg hP hV HK1 HR1 HT
  go_wp2
  have HKD : Hid (Kp0 w w2.drew) := HK2.out.drew
  have HFPD : Hid (Fr w.heap.size w2.drew (.slice aP mP cP) P) := HFP.out.kp0 (Kp0.refl w2).drew
  have HFVD : Hid (Fr w.heap.size w2.drew (.slice a0 m0 c0) V0) := HFV.out.kp0 (Kp0.refl w2).drew
  go_region_law ((refine step_invoke2 (by rfl) (.tmp 31) "Write" (.tmp 25) (.tmp 28) _ (by rfl) _ (.slice aP mP cP) (.slice a0 m0 c0) (by rfl) (by rfl) (by rfl) _ _ (HMR.out _ _ _) (HW.out _ _ _ HKD.out HFPD.out HFVD.out) ?_; intro v8 w8 hR8))
  all_goals
    have HR8 := hid hR8
    clear hR8
    go_wp2
    go_ret
    exact ⟨rfl, HR8.out⟩

end Go.Proofs.Yticbbncdcannlaa

/- The program's space, walked where the array that is written is one of int64: Assign. -/
namespace Go.Proofs.Yticbbncdcannlaa
open Go.RowKit Go.Maps Go.ChangeMaps Go.MapKept

theorem Try.mWriteI (a : Addr) (x y : Value) (w : World) : (callMethod (.iface 64 (.pointer (some a))) "Write" #[x, y]).run Try.prog w = .ok (.enter 105 #[.pointer (some a), x, y]) w := by kernel_rfl
theorem Try.nWriteI (a : Addr) (w : World) : (nilAhead 256 64 (.pointer (some a)) "Write").run Try.prog w = .ok (some false) w := by kernel_rfl

set_option maxRecDepth 100000 in
set_option maxHeartbeats 2000000 in
theorem xAssignOkI (p q : Nat) (to fr : Int) (w : World) (m0 : Nat) (V0 : List Int) (mP : Nat) (P : List Int) {Q : World → Prop}
    (HT : Hid (∀ W vh, Kp0 w W → RdI W vh [fr] → Calls Try.prog 32 #[.pointer (some ⟨p, 0, none⟩), .int .i64 to, vh] W fun e w' => ∃ aP cP g a0 c0, e = .returned (.tuple #[.slice aP mP cP, .iface 64 (.pointer (some ⟨q, 0, none⟩)), .slice (some ⟨g, 0, none⟩) 1 1, .int .i64 0]) ∧ (Kp0 W w' ∧ w'.heap[g]? = some (.cells #[.slice a0 m0 c0] 22 (0, 0)) ∧ W.heap.size ≤ g ∧ Fr W.heap.size w' (.slice aP mP cP) P ∧ Fr W.heap.size w' (.slice a0 m0 c0) V0)))
    (HW : Hid (∀ W vp vv, Kp0 w W → Fr w.heap.size W vp P → Fr w.heap.size W vv V0 → Calls Try.prog 105 #[.pointer (some ⟨q, 0, none⟩), vp, vv] W fun e w' => ∃ u, e = .returned u ∧ Q w')) :
    Calls Try.prog 16 #[.pointer (some ⟨p, 0, none⟩), .int .i64 to, .int .i64 fr] w fun e w' => e = .returned (.int .i64 0) ∧ Q w' := by
  have HK1 : Hid (Kp0 w (w.alloc (.cells #[.int .i64 fr] 3))) := (Kp.refl _ w).alloc _
  have HR1 : Hid (RdI (w.alloc (.cells #[.int .i64 fr] 3)) (.slice (some ⟨w.heap.size, 0, none⟩) 1 1) [fr]) := rd_of_blk (heap_alloc_new w _) rfl
  go_enter Try.func16, Try.ntmps16
  go_wp2_with fail
  refine (HT.out _ _ HK1.out HR1.out).mono ?_
  rintro e w2 ⟨aP, cP, g, a0, c0, rfl, hk, hb, hg, hP, hV⟩
  have HK2 : Hid (Kp0 w w2) := Kp0.trans HK1.out hk
  have HFP : Hid (Fr w.heap.size w2 (.slice aP mP cP) P) := hP.le (by simp)
  have HFV : Hid (Fr w.heap.size w2 (.slice a0 m0 c0) V0) := hV.le (by simp)
  have y0 : w2.cell? ⟨g, 0, none⟩ = some (.slice a0 m0 c0) := cell_of_row _ g 0 _ _ _ hb
  have HMR := hid (Try.mWriteI ⟨q, 0, none⟩)
  have hna := Try.nWriteI ⟨q, 0, none⟩
  clear hk hb hg hP hV HK1 HR1 HT
  go_wp2
  have HKD : Hid (Kp0 w w2.drew) := HK2.out.drew
  have HFPD : Hid (Fr w.heap.size w2.drew (.slice aP mP cP) P) := HFP.out.kp0 (Kp0.refl w2).drew
  have HFVD : Hid (Fr w.heap.size w2.drew (.slice a0 m0 c0) V0) := HFV.out.kp0 (Kp0.refl w2).drew
  go_region_law ((refine step_invoke2 (by rfl) (.tmp 31) "Write" (.tmp 25) (.tmp 28) _ (by rfl) _ (.slice aP mP cP) (.slice a0 m0 c0) (by rfl) (by rfl) (by rfl) _ _ (HMR.out _ _ _) (HW.out _ _ _ HKD.out HFPD.out HFVD.out) ?_; intro v8 w8 hR8))
  all_goals
    have HR8 := hid hR8
    clear hR8
    go_wp2
    go_ret
    exact ⟨rfl, HR8.out⟩

end Go.Proofs.Yticbbncdcannlaa

/- The program's calls in the document's words: Assign. -/
namespace Go.Proofs.Yticbbncdcannlaa
open Go.RowKit

/-- Cells that are there are written, each with its own number. -/
theorem Tie.writesFB {X : XS} {sz : Nat} {σ : Sp} (h : Tie X sz σ) (hok : σ.ok) (P : List Int) (hP : ∀ j, j < P.length → 0 ≤ nth P j ∧ nth P j < σ.cap 1 ∧ σ.taken 1 (nth P j) = true) (f : Nat → Int) (w1 : ∀ j, j < P.length → 0 ≤ f j ∧ f j < 256) (n : Nat) (hn : n ≤ P.length) :
    Tie (X.putB (wrTo X.c1 P f n)) sz (σ.writes 1 P f n) ∧ ∀ j, (σ.writes 1 P f n).taken j = σ.taken j := by
  induction n with
  | zero => exact ⟨h, fun _ => rfl⟩
  | succ n ih =>
    obtain ⟨i1, i2⟩ := ih (by omega)
    obtain ⟨p1, p2, p3⟩ := hP n (by omega)
    have hc := (writes_same σ 1 P f n).2.2 1
    have := i1.putB (writes_ok hok 1 P f n) (nth P n).toNat (by rw [hc]; omega) (by rw [i2, show (((nth P n).toNat : Nat) : Int) = nth P n by omega]; exact p3) (f n) (w1 n (by omega))
    exact ⟨this, fun j => by rw [Sp.writes, put_taken]; exact i2 j⟩

theorem Tie.writesFI {X : XS} {sz : Nat} {σ : Sp} (h : Tie X sz σ) (hok : σ.ok) (P : List Int) (hP : ∀ j, j < P.length → 0 ≤ nth P j ∧ nth P j < σ.cap 2 ∧ σ.taken 2 (nth P j) = true) (f : Nat → Int) (w2 : ∀ j, j < P.length → IntKind.i64.wrap (f j) = f j) (n : Nat) (hn : n ≤ P.length) :
    Tie (X.putI (wrTo X.c2 P f n)) sz (σ.writes 2 P f n) ∧ ∀ j, (σ.writes 2 P f n).taken j = σ.taken j := by
  induction n with
  | zero => exact ⟨h, fun _ => rfl⟩
  | succ n ih =>
    obtain ⟨i1, i2⟩ := ih (by omega)
    obtain ⟨p1, p2, p3⟩ := hP n (by omega)
    have hc := (writes_same σ 2 P f n).2.2 2
    have := i1.putI (writes_ok hok 2 P f n) (nth P n).toNat (by rw [hc]; omega) (by rw [i2, show (((nth P n).toNat : Nat) : Int) = nth P n by omega]; exact p3) (f n) (w2 n (by omega))
    exact ⟨this, fun j => by rw [Sp.writes, put_taken]; exact i2 j⟩

theorem wrTo_congr {c ps : List Int} {f g : Nat → Int} (k : Nat) (h : ∀ j, j < k → f j = g j) : wrTo c ps f k = wrTo c ps g k := by
  induction k with
  | zero => rfl
  | succ k ih => rw [wrTo, wrTo, ih (fun j hj => h j (by omega)), h k (by omega)]
theorem writes_congr {σ : Sp} {kind : Int} {ps : List Int} {f g : Nat → Int} (k : Nat) (h : ∀ j, j < k → f j = g j) : σ.writes kind ps f k = σ.writes kind ps g k := by
  induction k with
  | zero => rfl
  | succ k ih => rw [Sp.writes, Sp.writes, ih (fun j hj => h j (by omega)), h k (by omega)]

/-- A stretched array's cells. -/
theorem ATie.str {σ : Sp} {a : Arr} {x : XA} (hx : ATie σ a x) (s : List Int) (hs : okShape s) (hb : stretchB a.shape s = true) : gc s (strT x.l x.t s) x.f s.length = picked a.cells (meant a.shape s) := by
  obtain ⟨h1, h2⟩ := (stretchB_iff _ _).1 hb
  rw [← hx.l] at h1 h2 ⊢
  rw [← hx.cells]
  exact gc_view hx.g.shape.2.1 hs.2.1 (meantOf x.l s) (fun i hi => meantOf_in x.l s i hx.g.shape.2.1 h1 h2 hi) (fun i hi => by rw [str_dot h1 hx.g.unit hx.g.shape.2.1 i])

/-- Its values, read in the program's store. -/
theorem seen_eq {σ : Sp} {h : Int} {a : Arr} {x : XA} (hx : ATie σ a x) (hf : σ.find h = some a) (ha : a.ok σ) (s : List Int) (hs : okShape s) (hb : stretchB a.shape s = true) {c : List Int} {bs : List (Int × Int)} (hk : KTie σ a.kind c bs) : ((gc s (strT x.l x.t s) x.f s.length).map fun y => nth c y.toNat) = σ.seen a s := by
  rw [hx.str s hs hb]
  unfold Sp.seen
  have hl := meant_length a.shape s
  refine ext_nth (by simp [picked]) (fun j hj => ?_)
  have hj' : j < (meant a.shape s).length := by simpa [picked] using hj
  have hbd := meant_bd a.shape s ha.shape hs hb j (by omega)
  have hlen := ha.length
  have hr : (nth (meant a.shape s) j).toNat < a.cells.length := by omega
  rw [map_nth _ _ _ (by simpa [picked] using hj'), picked_nth _ _ _ hj', picked_nth _ _ _ hj']
  have h1 := ha.inside _ hr
  have h2 := hx.taken hf _ hr
  unfold Sp.valuesOf
  rw [map_nth _ _ _ hr]
  exact hk.at _ h1.1 h1.2 h2

theorem seen_length (σ : Sp) (a : Arr) (s : List Int) : (σ.seen a s).length = (vol s).toNat := by unfold Sp.seen picked; rw [List.length_map, meant_length]

/-- Numbers of a store's cells are numbers of its kind. -/
theorem Tie.valuesIn {X : XS} {sz : Nat} {σ : Sp} (h : Tie X sz σ) {a : Arr} (ha : a.ok σ) (j : Nat) : IntKind.i64.wrap (nth (σ.valuesOf a) j) = nth (σ.valuesOf a) j ∧ (a.kind = 1 → 0 ≤ nth (σ.valuesOf a) j ∧ nth (σ.valuesOf a) j < 256) := by
  by_cases hj : j < a.cells.length
  · unfold Sp.valuesOf
    rw [map_nth _ _ _ hj]
    have h1 := ha.inside j hj
    rcases ha.kind with hk | hk
    · rw [hk] at h1 ⊢
      have h2 := h.k1.wf1 rfl (nth a.cells j).toNat (by omega)
      exact ⟨by simp [IntKind.wrap, IntKind.signed, IntKind.bits]; omega, fun _ => h2⟩
    · rw [hk] at h1 ⊢
      exact ⟨h.k2.wf2 rfl (nth a.cells j).toNat (by omega), fun e => by omega⟩
  · rw [nth_out (by unfold Sp.valuesOf; simp; omega)]
    exact ⟨by simp [IntKind.wrap, IntKind.signed, IntKind.bits], fun _ => by omega⟩

theorem Tie.seenIn {X : XS} {sz : Nat} {σ : Sp} (h : Tie X sz σ) {a : Arr} (ha : a.ok σ) (s : List Int) (j : Nat) : IntKind.i64.wrap (nth (σ.seen a s) j) = nth (σ.seen a s) j := by
  by_cases hj : j < (meant a.shape s).length
  · unfold Sp.seen
    rw [picked_nth _ _ _ hj]
    exact (h.valuesIn ha _).1
  · rw [nth_out (by unfold Sp.seen picked; simp; omega)]
    simp [IntKind.wrap, IntKind.signed, IntKind.bits]

/-- valuesOver, in the document's words. -/
theorem xc_over {T : Tags} {o : Nat} {w : World} {p : Nat} {σ : Sp} {L : XL} {X : XS} (hok : σ.ok) (hX : XAt T o w p L X) (hT : Tie X (Maps.size L.D) σ) {h : Int} {a : Arr} {x : XA} (hf : σ.find h = some a) (hx : ATie σ a x) (s : List Int) (hs : okShape s) (hb : stretchB a.shape s = true) :
    Calls Try.prog 45 #[.pointer (some ⟨p, 0, none⟩), .agg x.cs, .agg (shC s).toArray] w fun e w' => ∃ ao c, e = .returned (.tuple #[.slice ao (vol s).toNat c, .bool true]) ∧ Kp0 w w' ∧ Fr w.heap.size w' (.slice ao (vol s).toNat c) (σ.seen a s) := by
  have ha := kind_of hok hf
  have hb' : stretchB x.l s = true := by rw [hx.l]; exact hb
  have hlen := seen_length σ a s
  rcases ha.kind with hk | hk
  · have hg := hx.g
    rw [hk, ← hT.k1.len] at hg
    have he := seen_eq hx hf ha s hs hb (c := X.c1) (bs := X.b1) (by rw [hk]; exact hT.k1)
    refine (xvaluesOverB hX x (by rw [hx.kind, hk]) hg s hs hb' (hT.k1.wrap (.inl rfl))).mono ?_
    rintro e w' ⟨v, rfl, hn⟩
    rw [he] at hn
    obtain ⟨ao, c, rfl, k, hfr⟩ := hn.fr
    rw [hlen] at hfr ⊢
    exact ⟨ao, c, rfl, k, hfr⟩
  · have hg := hx.g
    rw [hk, ← hT.k2.len] at hg
    have he := seen_eq hx hf ha s hs hb (c := X.c2) (bs := X.b2) (by rw [hk]; exact hT.k2)
    refine (xvaluesOverI hX x (by rw [hx.kind, hk]) hg s hs hb' (hT.k2.wrap (.inr rfl))).mono ?_
    rintro e w' ⟨v, rfl, hn⟩
    rw [he] at hn
    obtain ⟨ao, c, rfl, k, hfr⟩ := hn.fr
    rw [hlen] at hfr ⊢
    exact ⟨ao, c, rfl, k, hfr⟩

/-- The cells of an array, told by the program. -/
theorem xc_cells {σ : Sp} {a : Arr} {x : XA} (hx : ATie σ a x) (W : World) :
    Calls Try.prog 29 #[.agg (grC x.l x.t x.f).toArray] W fun e w' => ∃ ao c, e = .returned (.slice ao a.cells.length c) ∧ Kp0 W w' ∧ Fr W.heap.size w' (.slice ao a.cells.length c) a.cells := by
  refine (xcells_calls x.l x.t x.f _ W hx.g).mono ?_
  rintro e w' ⟨v, rfl, hn⟩
  rw [hx.cells] at hn
  obtain ⟨ao, c, rfl, k, hfr⟩ := hn.fr
  exact ⟨ao, c, rfl, k, hfr⟩

/-- Write into an array's cells, in the document's words. -/
theorem xc_writeB {T : Tags} {o : Nat} {w : World} {p : Nat} {σ : Sp} {L : XL} {X : XS} (hok : σ.ok) (hX : XAt T o w p L X) (hT : Tie X (Maps.size L.D) σ) {h : Int} {a : Arr} {x : XA} (hf : σ.find h = some a) (hx : ATie σ a x) (hk : a.kind = 1) (V : List Int) (hl : V.length = a.cells.length) (hV : ∀ j, IntKind.i64.wrap (nth V j) = nth V j)
    (W : World) (vp vv : Value) (k : Kp0 w W) (hp : Fr w.heap.size W vp a.cells) (hv : Fr w.heap.size W vv V) :
    Calls Try.prog 85 #[.pointer (some ⟨L.q1, 0, none⟩), vp, vv] W fun e w' => ∃ u, e = .returned u ∧ Step XRep T o w p (σ.writes 1 a.cells (fun i => asK 1 (nth V i)) a.cells.length) w' := by
  have ha := kind_of hok hf
  have hlt : L.g1 < w.heap.size := lt_of_heap hX.s1.cells
  have hP : ∀ j, j < a.cells.length → 0 ≤ nth a.cells j ∧ nth a.cells j < σ.cap 1 ∧ σ.taken 1 (nth a.cells j) = true := fun j hj => by
    have h1 := ha.inside j hj
    have h2 := hx.taken hf j hj
    rw [hk] at h1 h2
    exact ⟨h1.1, h1.2, h2⟩
  have h36 : a.cells.length ≤ 1000000 := by have := ha.length; have := ha.shape.2.2; omega
  refine (xWriteB_calls (hX.kp0 k).s1 a.cells V vp vv hp.1 (fun _ e => by have := hp.2 _ e; omega) hv.1 (fun _ e => by have := hv.2 _ e; omega) hl (fun j _ => hV j) (fun j hj => by rw [hT.k1.len]; exact ⟨(hP j hj).1, (hP j hj).2.1⟩) h36).mono ?_
  rintro e w' ⟨rfl, hk', hb⟩
  have hX' := (hX.kp0 k).putB hk' hb (wrTo_length _ _ _ _)
  have hw1 : (fun j => IntKind.wrap .u8 (nth V j)) = fun j => asK 1 (nth V j) := by funext j; rw [wrap_u8]; simp [asK]
  rw [hw1] at hX'
  have hn := (hT.writesFB hok a.cells hP (fun j => asK 1 (nth V j)) (fun j _ => by simp only [asK, if_true]; omega) a.cells.length (Nat.le_refl _)).1
  exact ⟨_, rfl, T, fun _ _ => rfl, ⟨writes_ok hok _ _ _ _, L, _, hX', hn⟩, (Kp.of0 k).trans hk' (fun b _ e => by rw [e, hX.tg1])⟩

theorem xc_writeI {T : Tags} {o : Nat} {w : World} {p : Nat} {σ : Sp} {L : XL} {X : XS} (hok : σ.ok) (hX : XAt T o w p L X) (hT : Tie X (Maps.size L.D) σ) {h : Int} {a : Arr} {x : XA} (hf : σ.find h = some a) (hx : ATie σ a x) (hk : a.kind = 2) (V : List Int) (hl : V.length = a.cells.length) (hV : ∀ j, IntKind.i64.wrap (nth V j) = nth V j)
    (W : World) (vp vv : Value) (k : Kp0 w W) (hp : Fr w.heap.size W vp a.cells) (hv : Fr w.heap.size W vv V) :
    Calls Try.prog 105 #[.pointer (some ⟨L.q2, 0, none⟩), vp, vv] W fun e w' => ∃ u, e = .returned u ∧ Step XRep T o w p (σ.writes 2 a.cells (fun i => asK 2 (nth V i)) a.cells.length) w' := by
  have ha := kind_of hok hf
  have hlt : L.g2 < w.heap.size := lt_of_heap hX.s2.cells
  have hP : ∀ j, j < a.cells.length → 0 ≤ nth a.cells j ∧ nth a.cells j < σ.cap 2 ∧ σ.taken 2 (nth a.cells j) = true := fun j hj => by
    have h1 := ha.inside j hj
    have h2 := hx.taken hf j hj
    rw [hk] at h1 h2
    exact ⟨h1.1, h1.2, h2⟩
  have h36 : a.cells.length ≤ 1000000 := by have := ha.length; have := ha.shape.2.2; omega
  refine (xWriteI_calls (hX.kp0 k).s2 a.cells V vp vv hp.1 (fun _ e => by have := hp.2 _ e; omega) hv.1 (fun _ e => by have := hv.2 _ e; omega) hl (fun j _ => hV j) (fun j hj => by rw [hT.k2.len]; exact ⟨(hP j hj).1, (hP j hj).2.1⟩) h36).mono ?_
  rintro e w' ⟨rfl, hk', hb⟩
  have hX' := (hX.kp0 k).putI hk' hb (wrTo_length _ _ _ _)
  have hw1 : (fun j => IntKind.wrap .i64 (nth V j)) = fun j => asK 2 (nth V j) := by funext j; rw [hV]; simp [asK]
  rw [hw1] at hX'
  have hn := (hT.writesFI hok a.cells hP (fun j => asK 2 (nth V j)) (fun j _ => by simp only [asK]; exact hV j) a.cells.length (Nat.le_refl _)).1
  exact ⟨_, rfl, T, fun _ _ => rfl, ⟨writes_ok hok _ _ _ _, L, _, hX', hn⟩, (Kp.of0 k).trans hk' (fun b _ e => by rw [e, hX.tg2])⟩

theorem Step.from0 {T : Tags} {o : Nat} {w W w' : World} {p : Nat} {σ : Sp} (h : Step XRep T o W p σ w') (k : Kp0 w W) : Step XRep T o w p σ w' := by
  obtain ⟨T', h1, h2, h3⟩ := h
  exact ⟨T', fun b hb => h1 b (Nat.lt_of_lt_of_le hb k.size), h2, (Kp.of0 k).trans h3 (fun _ _ e => e)⟩

theorem xc_assign {T : Tags} {o : Nat} {w : World} {p : Nat} {σ : Sp} (to fr : Int) (hR : XRep T o w p σ) :
    Calls Try.prog 16 #[.pointer (some ⟨p, 0, none⟩), .int .i64 to, .int .i64 fr] w fun e w' => e = .returned (.int .i64 (σ.assign to fr).2) ∧ Step XRep T o w p (σ.assign to fr).1 w' := by
  have hR' := hR
  obtain ⟨hok, L, X, hX, hT⟩ := hR
  have no : ∀ er, er ≠ 0 → σ.assign to fr = (σ, er) → (∀ W vh, Kp0 w W → RdI W vh [fr] → Calls Try.prog 32 #[.pointer (some ⟨p, 0, none⟩), .int .i64 to, vh] W fun e w' => e = .returned (.tuple #[.slice none 0 0, .nilIface, .slice none 0 0, .int .i64 er]) ∧ Kp0 W w') →
      Calls Try.prog 16 #[.pointer (some ⟨p, 0, none⟩), .int .i64 to, .int .i64 fr] w fun e w' => e = .returned (.int .i64 (σ.assign to fr).2) ∧ Step XRep T o w p (σ.assign to fr).1 w' := fun er he hres hh => by
    rw [hres]
    refine (xAssign_no p to fr er w he (hid hh)).mono ?_
    rintro e w' ⟨rfl, hk⟩
    exact ⟨rfl, hR'.stay hk⟩
  cases hf : σ.find fr with
  | none =>
    refine no 2 (by omega) (by cases h : σ.find to <;> simp [Sp.assign, hf, h]) (fun W vh k hr => ?_)
    exact xtoWork_find p to 2 vh W (by omega) (xfindAll1_no0 (hX.kp0 k) fr vh hr (hT.non fr hf))
  | some b =>
    obtain ⟨y, hAy, hy⟩ := hT.som fr b hf
    have hb := kind_of hok hf
    have hky : y.kind = 1 ∨ y.kind = 2 := by rw [hy.kind]; exact hb.kind
    cases hft : σ.find to with
    | none =>
      refine no 2 (by omega) (by simp [Sp.assign, hft]) (fun W vh k hr => ?_)
      refine xtoWork_write p to 2 vh W (by omega) ((xfindAll1_yes (hX.kp0 k) fr vh hr y hAy hky).mono (fun e w' ⟨g, h1, h2, _⟩ => ⟨g, 1, h1, h2⟩)) (hid (fun W' k' => xfindw_none ((hX.kp0 k).kp0 k') to (hT.non to hft)))
    | some a =>
      obtain ⟨x, hA, hx⟩ := hT.som to a hft
      have ha := kind_of hok hft
      have hkx : x.kind = 1 ∨ x.kind = 2 := by rw [hx.kind]; exact ha.kind
      cases hro : x.ro with
      | true =>
        refine no 6 (by omega) (by simp [Sp.assign, hft, hf, ← hx.ro, hro]) (fun W vh k hr => ?_)
        refine xtoWork_write p to 6 vh W (by omega) ((xfindAll1_yes (hX.kp0 k) fr vh hr y hAy hky).mono (fun e w' ⟨g, h1, h2, _⟩ => ⟨g, 1, h1, h2⟩)) (hid (fun W' k' => xfindw_ro ((hX.kp0 k).kp0 k') to x hA hkx hro))
      | false =>
        have hsx : okShape x.l := hx.g.shape
        cases hst : stretchB b.shape a.shape with
        | false =>
          refine no 4 (by omega) (by simp [Sp.assign, hft, hf, ← hx.ro, hro, hst]) (fun W vh k hr => ?_)
          exact xtoWork1_no0 p to vh (L.inV x.kind) W y x (xfindAll1_yes (hX.kp0 k) fr vh hr y hAy hky) (hid (fun W' k' => xfindw_some ((hX.kp0 k).kp0 k') to x hA hkx hro)) (hid (fun W' k' => xvaluesNoB p W' y x.l hy.g.shape.1 hsx.1 (by rw [hy.l, hx.l]; exact hst)))
        | true =>
          have hres : σ.assign to fr = (σ.writes a.kind a.cells (fun i => asK a.kind (nth (σ.seen b a.shape) i)) a.cells.length, 0) := by simp [Sp.assign, hft, hf, ← hx.ro, hro, hst]
          rw [hres]
          have hvl : (σ.seen b a.shape).length = a.cells.length := by rw [seen_length]; have := ha.length; omega
          have hT1 : ∀ W vh, Kp0 w W → RdI W vh [fr] → Calls Try.prog 32 #[.pointer (some ⟨p, 0, none⟩), .int .i64 to, vh] W fun e w' => ∃ aP cP g a0 c0, e = .returned (.tuple #[.slice aP a.cells.length cP, L.inV x.kind, .slice (some ⟨g, 0, none⟩) 1 1, .int .i64 0]) ∧ (Kp0 W w' ∧ w'.heap[g]? = some (.cells #[.slice a0 (vol a.shape).toNat c0] 22 (0, 0)) ∧ W.heap.size ≤ g ∧ Fr W.heap.size w' (.slice aP a.cells.length cP) a.cells ∧ Fr W.heap.size w' (.slice a0 (vol a.shape).toNat c0) (σ.seen b a.shape)) := fun W vh k hr =>
            xtoWork1_yes p to vh (L.inV x.kind) W y x _ _ _ _ (xfindAll1_yes (hX.kp0 k) fr vh hr y hAy hky) (hid (fun W' k' => xfindw_some ((hX.kp0 k).kp0 k') to x hA hkx hro))
              (hid (fun W' k' => by rw [hx.l]; exact xc_over hok ((hX.kp0 k).kp0 k') hT hf hy a.shape ha.shape hst)) (hid (fun W' _ => xc_cells hx W'))
          rcases ha.kind with hk | hk
          · rw [hx.kind, hk, inVB] at hT1
            rw [hk]
            exact xAssignOkB p L.q1 to fr w _ _ _ _ (hid hT1) (hid (fun W vp vv k hp hv => xc_writeB hok hX hT hft hx hk _ hvl (fun j => hT.seenIn hb _ j) W vp vv k hp hv))
          · rw [hx.kind, hk, inVI] at hT1
            rw [hk]
            exact xAssignOkI p L.q2 to fr w _ _ _ _ (hid hT1) (hid (fun W vp vv k hp hv => xc_writeI hok hX hT hft hx hk _ hvl (fun j => hT.seenIn hb _ j) W vp vv k hp hv))

end Go.Proofs.Yticbbncdcannlaa

/- The program's space, walked where the array that is written is one of uint8: Work. -/
namespace Go.Proofs.Yticbbncdcannlaa
open Go.RowKit Go.Maps Go.ChangeMaps Go.MapKept

theorem Try.mCombineB (a : Addr) (x y z : Value) (w : World) : (callMethod (.iface 63 (.pointer (some a))) "Combine" #[x, y, z]).run Try.prog w = .ok (.enter 79 #[.pointer (some a), x, y, z]) w := by kernel_rfl
theorem Try.nCombineB (a : Addr) (w : World) : (nilAhead 256 63 (.pointer (some a)) "Combine").run Try.prog w = .ok (some false) w := by kernel_rfl

set_option maxRecDepth 100000 in
set_option maxHeartbeats 4000000 in
theorem xWorkOkB (p q : Nat) (op to x y : Int) (w : World) (m0 : Nat) (V0 : List Int) (m1 : Nat) (V1 VC : List Int) (mP : Nat) (P : List Int) (h1 : 1 ≤ op) (h2 : op ≤ 5) {Q : World → Prop}
    (HT : Hid (∀ W vh, Kp0 w W → RdI W vh [x, y] → Calls Try.prog 32 #[.pointer (some ⟨p, 0, none⟩), .int .i64 to, vh] W fun e w' => ∃ aP cP g a0 c0 a1 c1, e = .returned (.tuple #[.slice aP mP cP, .iface 63 (.pointer (some ⟨q, 0, none⟩)), .slice (some ⟨g, 0, none⟩) 2 2, .int .i64 0]) ∧ (Kp0 W w' ∧ w'.heap[g]? = some (.cells #[.slice a0 m0 c0, .slice a1 m1 c1] 22 (0, 0)) ∧ W.heap.size ≤ g ∧ Fr W.heap.size w' (.slice aP mP cP) P ∧ Fr W.heap.size w' (.slice a0 m0 c0) V0 ∧ Fr W.heap.size w' (.slice a1 m1 c1) V1)))
    (HC : Hid (∀ W v0 v1 vp, Kp0 w W → Fr w.heap.size W v0 V0 → Fr w.heap.size W v1 V1 → Fr w.heap.size W vp P → Calls Try.prog 79 #[.pointer (some ⟨q, 0, none⟩), .int .i64 op, v0, v1] W fun e w' => ∃ v, e = .returned v ∧ (Kp0 w w' ∧ Fr w.heap.size w' v VC ∧ Fr w.heap.size w' vp P)))
    (HW : Hid (∀ W vp vv, Kp0 w W → Fr w.heap.size W vp P → Fr w.heap.size W vv VC → Calls Try.prog 85 #[.pointer (some ⟨q, 0, none⟩), vp, vv] W fun e w' => ∃ u, e = .returned u ∧ Q w')) :
    Calls Try.prog 15 #[.pointer (some ⟨p, 0, none⟩), .int .i64 op, .int .i64 to, .int .i64 x, .int .i64 y] w fun e w' => e = .returned (.int .i64 0) ∧ Q w' := by
  have HK1 : Hid (Kp0 w (w.alloc (.cells #[.int .i64 x, .int .i64 y] 3))) := (Kp.refl _ w).alloc _
  have HR1 : Hid (RdI (w.alloc (.cells #[.int .i64 x, .int .i64 y] 3)) (.slice (some ⟨w.heap.size, 0, none⟩) 2 2) [x, y]) := rd_of_blk (heap_alloc_new w _) rfl
  have HO := hid (xIsOp_yes op w h1 h2)
  clear h1 h2
  go_enter Try.func15, Try.ntmps15
  go_wp2_with fail
  refine HO.out.mono ?_
  rintro e w1 ⟨rfl, hw⟩
  obtain rfl := hw.symm
  clear hw HO
  go_wp2_with fail
  refine (HT.out _ _ HK1.out HR1.out).mono ?_
  rintro e w2 ⟨aP, cP, g, a0, c0, a1, c1, rfl, hk, hb, hg, hP, hV, hV1⟩
  have HK2 : Hid (Kp0 w w2) := Kp0.trans HK1.out hk
  have HFP : Hid (Fr w.heap.size w2 (.slice aP mP cP) P) := hP.le (by simp)
  have HFV : Hid (Fr w.heap.size w2 (.slice a0 m0 c0) V0) := hV.le (by simp)
  have HFV1 : Hid (Fr w.heap.size w2 (.slice a1 m1 c1) V1) := hV1.le (by simp)
  have y0 : w2.cell? ⟨g, 0, none⟩ = some (.slice a0 m0 c0) := cell_of_row _ g 0 _ _ _ hb
  have y1 : w2.cell? ⟨g, 1, none⟩ = some (.slice a1 m1 c1) := cell_of_row _ g 1 _ _ _ hb
  have HMR := hid (Try.mWriteB ⟨q, 0, none⟩)
  have HMC := hid (Try.mCombineB ⟨q, 0, none⟩)
  have hna := Try.nWriteB ⟨q, 0, none⟩
  have hnc := Try.nCombineB ⟨q, 0, none⟩
  clear hk hb hg hP hV hV1 HK1 HR1 HT
  go_wp2
  have HKD : Hid (Kp0 w w2.drew) := HK2.out.drew
  have HFPD : Hid (Fr w.heap.size w2.drew (.slice aP mP cP) P) := HFP.out.kp0 (Kp0.refl w2).drew
  have HFVD : Hid (Fr w.heap.size w2.drew (.slice a0 m0 c0) V0) := HFV.out.kp0 (Kp0.refl w2).drew
  have HFVE : Hid (Fr w.heap.size w2.drew (.slice a1 m1 c1) V1) := HFV1.out.kp0 (Kp0.refl w2).drew
  go_region_law ((first
    | (refine step_invoke3 (by rfl) (.tmp 44) "Combine" (.tmp 35) (.tmp 38) (.tmp 41) _ (by rfl) _ (.int .i64 op) (.slice a0 m0 c0) (.slice a1 m1 c1) (by rfl) (by rfl) (by rfl) (by rfl) _ _ (HMC.out _ _ _ _) (HC.out _ _ _ _ HKD.out HFVD.out HFVE.out HFPD.out) ?_; intro v7 w7 hR7; obtain ⟨hK7, hC7, hP7⟩ := hR7)
    | (refine step_invoke2 (by rfl) (.tmp 48) "Write" (.tmp 33) (.tmp 45) _ (by rfl) _ (.slice aP mP cP) v7 (by rfl) (by rfl) (by rfl) _ _ (HMR.out _ _ _) (HW.out _ _ _ hK7 hP7 hC7) ?_; intro v8 w8 hR8)))
  all_goals
    have HR8 := hid hR8
    clear hR8 hK7 hC7 hP7
    go_wp2
    go_ret
    exact ⟨rfl, HR8.out⟩

end Go.Proofs.Yticbbncdcannlaa

/- The program's space, walked where the array that is written is one of int64: Work. -/
namespace Go.Proofs.Yticbbncdcannlaa
open Go.RowKit Go.Maps Go.ChangeMaps Go.MapKept

theorem Try.mCombineI (a : Addr) (x y z : Value) (w : World) : (callMethod (.iface 64 (.pointer (some a))) "Combine" #[x, y, z]).run Try.prog w = .ok (.enter 99 #[.pointer (some a), x, y, z]) w := by kernel_rfl
theorem Try.nCombineI (a : Addr) (w : World) : (nilAhead 256 64 (.pointer (some a)) "Combine").run Try.prog w = .ok (some false) w := by kernel_rfl

set_option maxRecDepth 100000 in
set_option maxHeartbeats 4000000 in
theorem xWorkOkI (p q : Nat) (op to x y : Int) (w : World) (m0 : Nat) (V0 : List Int) (m1 : Nat) (V1 VC : List Int) (mP : Nat) (P : List Int) (h1 : 1 ≤ op) (h2 : op ≤ 5) {Q : World → Prop}
    (HT : Hid (∀ W vh, Kp0 w W → RdI W vh [x, y] → Calls Try.prog 32 #[.pointer (some ⟨p, 0, none⟩), .int .i64 to, vh] W fun e w' => ∃ aP cP g a0 c0 a1 c1, e = .returned (.tuple #[.slice aP mP cP, .iface 64 (.pointer (some ⟨q, 0, none⟩)), .slice (some ⟨g, 0, none⟩) 2 2, .int .i64 0]) ∧ (Kp0 W w' ∧ w'.heap[g]? = some (.cells #[.slice a0 m0 c0, .slice a1 m1 c1] 22 (0, 0)) ∧ W.heap.size ≤ g ∧ Fr W.heap.size w' (.slice aP mP cP) P ∧ Fr W.heap.size w' (.slice a0 m0 c0) V0 ∧ Fr W.heap.size w' (.slice a1 m1 c1) V1)))
    (HC : Hid (∀ W v0 v1 vp, Kp0 w W → Fr w.heap.size W v0 V0 → Fr w.heap.size W v1 V1 → Fr w.heap.size W vp P → Calls Try.prog 99 #[.pointer (some ⟨q, 0, none⟩), .int .i64 op, v0, v1] W fun e w' => ∃ v, e = .returned v ∧ (Kp0 w w' ∧ Fr w.heap.size w' v VC ∧ Fr w.heap.size w' vp P)))
    (HW : Hid (∀ W vp vv, Kp0 w W → Fr w.heap.size W vp P → Fr w.heap.size W vv VC → Calls Try.prog 105 #[.pointer (some ⟨q, 0, none⟩), vp, vv] W fun e w' => ∃ u, e = .returned u ∧ Q w')) :
    Calls Try.prog 15 #[.pointer (some ⟨p, 0, none⟩), .int .i64 op, .int .i64 to, .int .i64 x, .int .i64 y] w fun e w' => e = .returned (.int .i64 0) ∧ Q w' := by
  have HK1 : Hid (Kp0 w (w.alloc (.cells #[.int .i64 x, .int .i64 y] 3))) := (Kp.refl _ w).alloc _
  have HR1 : Hid (RdI (w.alloc (.cells #[.int .i64 x, .int .i64 y] 3)) (.slice (some ⟨w.heap.size, 0, none⟩) 2 2) [x, y]) := rd_of_blk (heap_alloc_new w _) rfl
  have HO := hid (xIsOp_yes op w h1 h2)
  clear h1 h2
  go_enter Try.func15, Try.ntmps15
  go_wp2_with fail
  refine HO.out.mono ?_
  rintro e w1 ⟨rfl, hw⟩
  obtain rfl := hw.symm
  clear hw HO
  go_wp2_with fail
  refine (HT.out _ _ HK1.out HR1.out).mono ?_
  rintro e w2 ⟨aP, cP, g, a0, c0, a1, c1, rfl, hk, hb, hg, hP, hV, hV1⟩
  have HK2 : Hid (Kp0 w w2) := Kp0.trans HK1.out hk
  have HFP : Hid (Fr w.heap.size w2 (.slice aP mP cP) P) := hP.le (by simp)
  have HFV : Hid (Fr w.heap.size w2 (.slice a0 m0 c0) V0) := hV.le (by simp)
  have HFV1 : Hid (Fr w.heap.size w2 (.slice a1 m1 c1) V1) := hV1.le (by simp)
  have y0 : w2.cell? ⟨g, 0, none⟩ = some (.slice a0 m0 c0) := cell_of_row _ g 0 _ _ _ hb
  have y1 : w2.cell? ⟨g, 1, none⟩ = some (.slice a1 m1 c1) := cell_of_row _ g 1 _ _ _ hb
  have HMR := hid (Try.mWriteI ⟨q, 0, none⟩)
  have HMC := hid (Try.mCombineI ⟨q, 0, none⟩)
  have hna := Try.nWriteI ⟨q, 0, none⟩
  have hnc := Try.nCombineI ⟨q, 0, none⟩
  clear hk hb hg hP hV hV1 HK1 HR1 HT
  go_wp2
  have HKD : Hid (Kp0 w w2.drew) := HK2.out.drew
  have HFPD : Hid (Fr w.heap.size w2.drew (.slice aP mP cP) P) := HFP.out.kp0 (Kp0.refl w2).drew
  have HFVD : Hid (Fr w.heap.size w2.drew (.slice a0 m0 c0) V0) := HFV.out.kp0 (Kp0.refl w2).drew
  have HFVE : Hid (Fr w.heap.size w2.drew (.slice a1 m1 c1) V1) := HFV1.out.kp0 (Kp0.refl w2).drew
  go_region_law ((first
    | (refine step_invoke3 (by rfl) (.tmp 44) "Combine" (.tmp 35) (.tmp 38) (.tmp 41) _ (by rfl) _ (.int .i64 op) (.slice a0 m0 c0) (.slice a1 m1 c1) (by rfl) (by rfl) (by rfl) (by rfl) _ _ (HMC.out _ _ _ _) (HC.out _ _ _ _ HKD.out HFVD.out HFVE.out HFPD.out) ?_; intro v7 w7 hR7; obtain ⟨hK7, hC7, hP7⟩ := hR7)
    | (refine step_invoke2 (by rfl) (.tmp 48) "Write" (.tmp 33) (.tmp 45) _ (by rfl) _ (.slice aP mP cP) v7 (by rfl) (by rfl) (by rfl) _ _ (HMR.out _ _ _) (HW.out _ _ _ hK7 hP7 hC7) ?_; intro v8 w8 hR8)))
  all_goals
    have HR8 := hid hR8
    clear hR8 hK7 hC7 hP7
    go_wp2
    go_ret
    exact ⟨rfl, HR8.out⟩

end Go.Proofs.Yticbbncdcannlaa
