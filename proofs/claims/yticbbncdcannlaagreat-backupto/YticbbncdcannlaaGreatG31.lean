/- The program's package grid, walked: hasAxis, cuts, Cut. -/
import Derived.Test.YticbbncdcannlaaGreatG30
import Derived.Test.YticbbncdcannlaaGreatG12

namespace Go.Proofs.YticbbncdcannlaaGreat
open Go.RowKit

set_option maxRecDepth 100000 in
set_option maxHeartbeats 400000 in
theorem xhasAxis_calls (l : List Int) (axis : Int) (w : World) :
    Calls Tryz.prog 93 #[.agg (shC l).toArray, .int .i64 axis] w fun e w' => e = .returned (.bool (decide (0 ≤ axis) && decide (axis < (l.length : Int)))) ∧ Kp0 w w' := by
  obtain ⟨n, hn⟩ : ∃ n, n = l.length := ⟨_, rfl⟩
  unfold shC
  rw [← hn]
  clear hn
  by_cases h1 : 0 ≤ axis
  · have d1 : decide (0 ≤ axis) = true := by simp [h1]
    clear h1
    go_enter Tryz.func93, Tryz.ntmps93
    go_wp2
    go_ret
    exact ⟨by rw [d1]; simp, (Kp.refl _ w).alloc _⟩
  · have d1 : decide (0 ≤ axis) = false := by simp [h1]
    clear h1
    go_enter Tryz.func93, Tryz.ntmps93
    go_wp2
    go_ret
    exact ⟨by rw [d1]; simp, (Kp.refl _ w).alloc _⟩

theorem mul_small {a b : Int} (h1 : 0 ≤ a) (h2 : a ≤ 60) (h3 : -60 ≤ b) (h4 : b ≤ 60) : -3600 ≤ a * b ∧ a * b ≤ 3600 := by
  constructor
  · have := Int.mul_le_mul_of_nonneg_left h3 h1
    omega
  · have := Int.mul_le_mul_of_nonneg_left h4 h1
    omega

/-- What the program's cuts tells. -/
def cutsP (size start count step : Int) : Bool :=
  if step = 0 then false else if count < 1 then false else if size < count then false else if start < 0 then false else if size ≤ start then false else if count = 1 then true else if step ≤ -size then false else if size ≤ step then false else decide (0 ≤ start + (count - 1) * step) && decide (start + (count - 1) * step < size)

set_option maxRecDepth 100000 in
set_option maxHeartbeats 4000000 in
theorem xcuts_calls (size start count step : Int) (w : World) (hs : 1 ≤ size ∧ size ≤ 60) :
    Calls Tryz.prog 94 #[.int .i64 size, .int .i64 start, .int .i64 count, .int .i64 step] w fun e w' => e = .returned (.bool (cutsP size start count step)) ∧ w' = w := by
  by_cases h1 : step = 0
  · have HR : Hid (cutsP size start count step = false) := hid (by simp [cutsP, h1])
    rw [HR.out]
    have e1 : (step == 0) = true := by simp; omega
    clear h1 HR
    go_enter Tryz.func94, Tryz.ntmps94
    go_wp2
    go_ret
    exact ⟨rfl, rfl⟩
  ·
    by_cases h2 : count < 1
    · have HR : Hid (cutsP size start count step = false) := hid (by simp [cutsP, h1, h2])
      rw [HR.out]
      have e1 : (step == 0) = false := by simp; omega
      have e2 : decide (count < 1) = true := by simp; omega
      clear h1 h2 HR
      go_enter Tryz.func94, Tryz.ntmps94
      go_wp2
      go_ret
      exact ⟨rfl, rfl⟩
    ·
      by_cases h3 : size < count
      · have HR : Hid (cutsP size start count step = false) := hid (by simp [cutsP, h1, h2, h3])
        rw [HR.out]
        have e1 : (step == 0) = false := by simp; omega
        have e2 : decide (count < 1) = false := by simp; omega
        have e3 : decide (size < count) = true := by simp; omega
        clear h1 h2 h3 HR
        go_enter Tryz.func94, Tryz.ntmps94
        go_wp2
        go_ret
        exact ⟨rfl, rfl⟩
      ·
        by_cases h4 : start < 0
        · have HR : Hid (cutsP size start count step = false) := hid (by simp [cutsP, h1, h2, h3, h4])
          rw [HR.out]
          have e1 : (step == 0) = false := by simp; omega
          have e2 : decide (count < 1) = false := by simp; omega
          have e3 : decide (size < count) = false := by simp; omega
          have e4 : decide (start < 0) = true := by simp; omega
          clear h1 h2 h3 h4 HR
          go_enter Tryz.func94, Tryz.ntmps94
          go_wp2
          go_ret
          exact ⟨rfl, rfl⟩
        ·
          by_cases h5 : size ≤ start
          · have HR : Hid (cutsP size start count step = false) := hid (by simp [cutsP, h1, h2, h3, h4, h5])
            rw [HR.out]
            have e1 : (step == 0) = false := by simp; omega
            have e2 : decide (count < 1) = false := by simp; omega
            have e3 : decide (size < count) = false := by simp; omega
            have e4 : decide (start < 0) = false := by simp; omega
            have e5 : decide (size ≤ start) = true := by simp; omega
            clear h1 h2 h3 h4 h5 HR
            go_enter Tryz.func94, Tryz.ntmps94
            go_wp2
            go_ret
            exact ⟨rfl, rfl⟩
          ·
            by_cases h6 : count = 1
            · have HR : Hid (cutsP size start count step = true) := hid (by unfold cutsP; rw [if_neg h1, if_neg h2, if_neg h3, if_neg h4, if_neg h5, if_pos h6])
              rw [HR.out]
              have e1 : (step == 0) = false := by simp; omega
              have e2 : decide (count < 1) = false := by simp; omega
              have e3 : decide (size < count) = false := by simp; omega
              have e4 : decide (start < 0) = false := by simp; omega
              have e5 : decide (size ≤ start) = false := by simp; omega
              have e6 : (count == 1) = true := by simp; omega
              clear h1 h2 h3 h4 h5 h6 HR
              go_enter Tryz.func94, Tryz.ntmps94
              go_wp2
              go_ret
              exact ⟨rfl, rfl⟩
            ·
              by_cases h7 : step ≤ -size
              · have HR : Hid (cutsP size start count step = false) := hid (by simp [cutsP, h1, h2, h3, h4, h5, h6, h7])
                rw [HR.out]
                have e1 : (step == 0) = false := by simp; omega
                have e2 : decide (count < 1) = false := by simp; omega
                have e3 : decide (size < count) = false := by simp; omega
                have e4 : decide (start < 0) = false := by simp; omega
                have e5 : decide (size ≤ start) = false := by simp; omega
                have e6 : (count == 1) = false := by simp; omega
                have e7 : decide (step ≤ -size) = true := by simp; omega
                clear h1 h2 h3 h4 h5 h6 h7 HR
                go_enter Tryz.func94, Tryz.ntmps94
                go_wp2
                go_ret
                exact ⟨rfl, rfl⟩
              ·
                by_cases h8 : size ≤ step
                · have HR : Hid (cutsP size start count step = false) := hid (by simp [cutsP, h1, h2, h3, h4, h5, h6, h7, h8])
                  rw [HR.out]
                  have e1 : (step == 0) = false := by simp; omega
                  have e2 : decide (count < 1) = false := by simp; omega
                  have e3 : decide (size < count) = false := by simp; omega
                  have e4 : decide (start < 0) = false := by simp; omega
                  have e5 : decide (size ≤ start) = false := by simp; omega
                  have e6 : (count == 1) = false := by simp; omega
                  have e7 : decide (step ≤ -size) = false := by simp; omega
                  have e8 : decide (size ≤ step) = true := by simp; omega
                  clear h1 h2 h3 h4 h5 h6 h7 h8 HR
                  go_enter Tryz.func94, Tryz.ntmps94
                  go_wp2
                  go_ret
                  exact ⟨rfl, rfl⟩
                ·
                  have e1 : (step == 0) = false := by simp; omega
                  have e2 : decide (count < 1) = false := by simp; omega
                  have e3 : decide (size < count) = false := by simp; omega
                  have e4 : decide (start < 0) = false := by simp; omega
                  have e5 : decide (size ≤ start) = false := by simp; omega
                  have e6 : (count == 1) = false := by simp; omega
                  have e7 : decide (step ≤ -size) = false := by simp; omega
                  have e8 : decide (size ≤ step) = false := by simp; omega
                  have HR : Hid (cutsP size start count step = (decide (0 ≤ start + (count - 1) * step) && decide (start + (count - 1) * step < size))) := hid (by simp [cutsP, h1, h2, h3, h4, h5, h6, h7, h8])
                  rw [HR.out]
                  clear HR
                  have b1 : -3600 ≤ (count - 1) * step ∧ (count - 1) * step ≤ 3600 := mul_small (by omega) (by omega) (by omega) (by omega)
                  obtain ⟨b2, b3⟩ := b1
                  have c1 : 1 ≤ count := by omega
                  have c2 : count ≤ 60 := by omega
                  have c3 : 0 ≤ start := by omega
                  have c4 : start ≤ 60 := by omega
                  by_cases h9 : 0 ≤ start + (count - 1) * step
                  · have e9 : decide (0 ≤ start + (count - 1) * step) = true := by simp [h9]
                    clear h1 h2 h3 h4 h5 h6 h7 h8 h9
                    go_enter Tryz.func94, Tryz.ntmps94
                    go_wp2
                    go_ret
                    exact ⟨by rw [e9]; simp, rfl⟩
                  · have e9 : decide (0 ≤ start + (count - 1) * step) = false := by simp [h9]
                    clear h1 h2 h3 h4 h5 h6 h7 h8 h9
                    go_enter Tryz.func94, Tryz.ntmps94
                    go_wp2
                    go_ret
                    exact ⟨by rw [e9]; simp, rfl⟩
                  
end Go.Proofs.YticbbncdcannlaaGreat

/- The program's package grid, walked: Cut. -/
namespace Go.Proofs.YticbbncdcannlaaGreat
open Go.RowKit

/-- A grid of nothing. -/
def zG : Array Value := #[.int .i64 0, .int .i64 0, .int .i64 0, .int .i64 0, .int .i64 0, .int .i64 0, .int .i64 0, .int .i64 0, .int .i64 0, .int .i64 0]
abbrev zGB : Obj := .cells #[.int .i64 0, .int .i64 0, .int .i64 0, .int .i64 0, .int .i64 0, .int .i64 0, .int .i64 0, .int .i64 0, .int .i64 0, .int .i64 0] 107

theorem two_heap (w : World) (A B : Obj) : ((w.alloc A).alloc B).heap[w.heap.size]? = some A ∧ ((w.alloc A).alloc B).heap[w.heap.size + 1]? = some B :=
  ⟨heap_alloc2_old w A B, heap_alloc2_new w A B⟩

theorem nth_setU {l : List Int} {k : Nat} (hk : k < l.length) (x : Int) (j : Nat) : nth (l.set k x) j = upd (nth l) k x j := by
  rw [nth_setN _ _ _ _ hk]; rfl

theorem cutT_nth {l t : List Int} (ht : t.length ≤ l.length) {k : Nat} (hk : k < l.length) (count step : Int) (j : Nat) : nth (cutT l t k count step) j = upd (nth t) k (stepOf count (step * nth t k)) j := by
  unfold cutT
  rw [mkL_nth]
  split
  · rfl
  · unfold upd
    rw [if_neg (by omega), nth_out (by omega)]

theorem gr_first {w : World} {b : Nat} {S T : Nat → Int} {f : Int} {n : Nat} (h : w.heap[b]? = some (grG S T f n)) (x : Int) : ((w.setCell ⟨b, 5, none⟩ (.int .i64 x)).drew).heap[b]? = some (grG S T x n) := by
  have h1 := heap_setCell_same w b 5 _ _ (.int .i64 x) h
  exact h1

set_option maxRecDepth 100000 in
set_option maxHeartbeats 2000000 in
theorem xgcut_axis (l t : List Int) (f axis start count step : Int) (w : World) (h : (decide (0 ≤ axis) && decide (axis < (l.length : Int))) = false) :
    Calls Tryz.prog 55 #[.agg (grC l t f).toArray, .int .i64 axis, .int .i64 start, .int .i64 count, .int .i64 step] w fun e w' => e = .returned (.tuple #[.agg zG, .bool false]) ∧ Kp0 w w' := by
  have HA := hid (fun W => xhasAxis_calls l axis W)
  rw [h] at HA
  unfold shC at HA
  unfold grC zG
  generalize l.length = n at *
  clear h
  obtain ⟨hB0, hB1⟩ := two_heap w (grB l t f n) zGB
  have HB1 := hid hB1
  clear hB0 hB1
  go_enter Tryz.func55, Tryz.ntmps55
  go_wp2_with fail
  refine (HA.out _).mono ?_
  rintro e w2 ⟨rfl, hw⟩
  have HB2 := hid (hw.heap HB1.out)
  have HK : Hid (Kp0 w w2) := Kp0.trans (((Kp.refl _ w).alloc _).alloc _) hw
  clear hw HB1
  obtain ⟨b0, hb0⟩ : ∃ b0, w.heap.size = b0 := ⟨_, rfl⟩
  rw [hb0] at HB2 ⊢
  have HBB := hid hb0
  clear hb0
  go_wp2_with (refine wpList_storeRow _ rfl 107 (.tmp 10) _ rfl (b0 + 1) _ _ rfl rfl HB2.out Tryz.szGrid rfl (all10 rfl rfl rfl rfl rfl rfl rfl rfl rfl rfl) ?_; intro w5 hB5 hK5)
  (try simp only [Exit.inBlock, Exit.then])
  refine bodyPost_ret (res_cell2 rfl _ _ (b0 + 1) _ _ _ _ rfl hB5 Tryz.underlying107 rfl Tryz.szGrid) rfl ?_
  exact ⟨rfl, Kp.trans HK.out hK5 (fun i hi e => by have := HBB.out; omega)⟩

set_option maxRecDepth 100000 in
set_option maxHeartbeats 2000000 in
theorem xgcut_no (l t : List Int) (f start count step : Int) (k : Nat) (w : World) (hk : k < l.length) (hl : l.length ≤ 4) (hs : sized l) (h : cutsP (nth l k) start count step = false) :
    Calls Tryz.prog 55 #[.agg (grC l t f).toArray, .int .i64 (k : Int), .int .i64 start, .int .i64 count, .int .i64 step] w fun e w' => e = .returned (.tuple #[.agg zG, .bool false]) ∧ Kp0 w w' := by
  have HA := hid (fun W => xhasAxis_calls l (k : Int) W)
  rw [show (decide ((0 : Int) ≤ (k : Int)) && decide ((k : Int) < (l.length : Int))) = true by simp; omega] at HA
  have HC := hid (fun W => xcuts_calls (nth l k) start count step W (hs k hk))
  rw [h] at HC
  unfold shC at HA
  unfold grC zG
  have k1 : (k : Int) < 4 := by omega
  have k2 : k < 4 := by omega
  generalize l.length = n at *
  clear h hs hk hl
  obtain ⟨hB0, hB1⟩ := two_heap w (grB l t f n) zGB
  have HB0 := hid hB0
  have HB1 := hid hB1
  clear hB0 hB1
  go_enter Tryz.func55, Tryz.ntmps55
  go_wp2_with fail
  refine (HA.out _).mono ?_
  rintro e w2 ⟨rfl, hw⟩
  have HB2 := hid (hw.heap HB1.out)
  have HB3 := hid (hw.heap HB0.out)
  have HK : Hid (Kp0 w w2) := Kp0.trans (((Kp.refl _ w).alloc _).alloc _) hw
  clear hw HB1 HB0
  obtain ⟨b0, hb0⟩ : ∃ b0, w.heap.size = b0 := ⟨_, rfl⟩
  rw [hb0] at HB2 HB3 ⊢
  have HBB := hid hb0
  clear hb0
  have q1 := gr_sizes HB3.out k k2
  go_wp2_with fail
  refine (HC.out _).mono ?_
  rintro e w3 ⟨rfl, hw⟩
  obtain rfl := hw.symm
  go_wp2_with (refine wpList_storeRow _ rfl 107 (.tmp 10) _ rfl (b0 + 1) _ _ rfl rfl HB2.out Tryz.szGrid rfl (all10 rfl rfl rfl rfl rfl rfl rfl rfl rfl rfl) ?_; intro w5 hB5 hK5)
  (try simp only [Exit.inBlock, Exit.then])
  refine bodyPost_ret (res_cell2 rfl _ _ (b0 + 1) _ _ _ _ rfl hB5 Tryz.underlying107 rfl Tryz.szGrid) rfl ?_
  exact ⟨rfl, Kp.trans HK.out hK5 (fun i hi e => by have := HBB.out; omega)⟩

set_option maxRecDepth 100000 in
set_option maxHeartbeats 4000000 in
theorem xgcut_yes (l t : List Int) (f start step : Int) (k cn : Nat) (w : World) (hk : k < l.length) (hl : l.length ≤ 4) (ht : t.length ≤ l.length) (hs : sized l) (h : cutsP (nth l k) start cn step = true)
    (hf : 0 ≤ f ∧ f ≤ 1000000) (hp : -1000000 ≤ start * nth t k ∧ start * nth t k ≤ 1000000) (hq : (cn : Int) ≠ 1 → IntKind.i64.wrap (step * nth t k) = step * nth t k) :
    Calls Tryz.prog 55 #[.agg (grC l t f).toArray, .int .i64 (k : Int), .int .i64 start, .int .i64 (cn : Int), .int .i64 step] w fun e w' => e = .returned (.tuple #[.agg (grC (l.set k (cn : Int)) (cutT l t k cn step) (f + start * nth t k)).toArray, .bool true]) ∧ Kp0 w w' := by
  have HA := hid (fun W => xhasAxis_calls l (k : Int) W)
  rw [show (decide ((0 : Int) ≤ (k : Int)) && decide ((k : Int) < (l.length : Int))) = true by simp; omega] at HA
  have HC := hid (fun W => xcuts_calls (nth l k) start cn step W (hs k hk))
  rw [h] at HC
  obtain ⟨u, hu⟩ : ∃ u, IntKind.i64.wrap (step * nth t k) = u := ⟨_, rfl⟩
  have HU : Hid (stepOf cn (step * nth t k) = stepOf cn u) := hid (by
    unfold stepOf
    by_cases h1 : (cn : Int) = 1
    · rw [if_pos h1, if_pos h1]
    · rw [if_neg h1, if_neg h1, ← hu, hq h1])
  have HRES : Hid ((grC (l.set k (cn : Int)) (cutT l t k cn step) (f + start * nth t k)).toArray = #[.int .i64 (upd (nth l) k cn 0), .int .i64 (upd (nth l) k cn 1), .int .i64 (upd (nth l) k cn 2), .int .i64 (upd (nth l) k cn 3), .int .i64 (l.length : Int), .int .i64 (f + start * nth t k), .int .i64 (upd (nth t) k (stepOf cn u) 0), .int .i64 (upd (nth t) k (stepOf cn u) 1), .int .i64 (upd (nth t) k (stepOf cn u) 2), .int .i64 (upd (nth t) k (stepOf cn u) 3)]) := hid (by
    unfold grC
    simp only [nth_setU hk, cutT_nth ht hk, HU.out, List.length_set])
  have HP := hid (fun W b hb => xput_calls b k (cn : Int) u (nth l) (nth t) (f + start * nth t k) l.length W (by omega) hb)
  rw [HRES.out]
  clear HRES HU hq
  unfold shC at HA
  unfold grC
  have k1 : (k : Int) < 4 := by omega
  have k2 : k < 4 := by omega
  obtain ⟨f0, f1⟩ := hf
  obtain ⟨p0, p1⟩ := hp
  generalize l.length = n at *
  clear h hs hk hl ht
  obtain ⟨hB0, hB1⟩ := two_heap w (grB l t f n) zGB
  have HB0 := hid hB0
  have HB1 := hid hB1
  clear hB0 hB1
  go_enter Tryz.func55, Tryz.ntmps55
  go_wp2_with fail
  refine (HA.out _).mono ?_
  rintro e w2 ⟨rfl, hw⟩
  have HB2 := hid (hw.heap HB1.out)
  have HB3 := hid (hw.heap HB0.out)
  have HK : Hid (Kp0 w w2) := Kp0.trans (((Kp.refl _ w).alloc _).alloc _) hw
  clear hw HB1 HB0
  obtain ⟨b0, hb0⟩ : ∃ b0, w.heap.size = b0 := ⟨_, rfl⟩
  rw [hb0] at HB2 HB3 ⊢
  have HBB := hid hb0
  clear hb0
  have q1 := gr_sizes HB3.out k k2
  obtain ⟨c0, c1, c2, c3, c4, c5, c6, c7, c8, c9⟩ := cells10 HB3.out
  go_wp2_with fail
  refine (HC.out _).mono ?_
  rintro e w3 ⟨rfl, hw⟩
  obtain rfl := hw.symm
  go_wp2_with fail
  have HG2 : Hid ((w2.alloc (grG (nth l) (nth t) f n)).heap[w2.heap.size]? = some (grG (nth l) (nth t) f n)) := heap_alloc_new w2 _
  have HG0 : Hid ((w2.alloc (grG (nth l) (nth t) f n)).heap[b0]? = some (grB l t f n)) := heap_alloc_keeps HB3.out _
  have HG1 : Hid ((w2.alloc (grG (nth l) (nth t) f n)).heap[b0 + 1]? = some zGB) := heap_alloc_keeps HB2.out _
  have HKW : Hid (Kp0 w (w2.alloc (grG (nth l) (nth t) f n))) := HK.out.alloc _
  have h02 : b0 < w2.heap.size := lt_of_heap HB3.out
  have h12 : b0 + 1 < w2.heap.size := lt_of_heap HB2.out
  clear c0 c1 c2 c3 c4 c5 c6 c7 c8 c9 q1 HB3 HB2 HK
  generalize w2.alloc (grG (nth l) (nth t) f n) = W at HG2 HG0 HG1 HKW ⊢
  generalize w2.heap.size = b2 at HG2 h02 h12 ⊢
  have s5 := (gr_rest (l := l) (t := t) HG2.out).2
  have s6 := frozen_of_row W b2 5 _ _ HG2.out
  have s7 := gr_steps HG0.out k k2
  have hne : ¬ b0 = b2 := by omega
  go_region
  go_wp2_with fail
  refine (HP.out _ b2 (gr_first HG2.out _)).mono ?_
  rintro e w6 ⟨rfl, hk6, hb6⟩
  have k5 : Kp (fun x => x = b2) W ((W.setCell ⟨b2, 5, none⟩ (.int .i64 (f + start * nth t k))).drew) := by
    have k4 : Kp (fun x => x = b2) W (W.setCell ⟨b2, 5, none⟩ (.int .i64 (f + start * nth t k))) := (Kp.refl _ W).setCell ⟨b2, 5, none⟩ _ (fun _ => rfl)
    exact k4.drew
  have k6 : Kp (fun x => x = b2) W w6 := Kp.trans k5 hk6 (fun _ _ e => e)
  have HZ := hid (k6.heap HG1.out (by omega))
  have HW6 : Hid (Kp0 w w6) := Kp.trans HKW.out k6 (fun i hi e => by have := HBB.out; omega)
  have HB6 := hid hb6
  clear hk6 hb6 k5 k6 s5 s6 s7 HG2 HG0 HG1 HKW
  obtain ⟨y0, y1, y2, y3, y4, y5, y6, y7, y8, y9⟩ := cells10 HB6.out
  go_wp2_with (refine wpList_storeRow _ rfl 107 (.tmp 10) _ rfl (b0 + 1) _ _ rfl rfl HZ.out Tryz.szGrid rfl (all10 rfl rfl rfl rfl rfl rfl rfl rfl rfl rfl) ?_; intro w5 hB5 hK5)
  (try simp only [Exit.inBlock, Exit.then])
  refine bodyPost_ret (res_cell2 rfl _ _ (b0 + 1) _ _ _ _ rfl hB5 Tryz.underlying107 rfl Tryz.szGrid) rfl ?_
  exact ⟨rfl, Kp.trans HW6.out hK5 (fun i hi e => by have := HBB.out; omega)⟩

end Go.Proofs.YticbbncdcannlaaGreat
