/- The document's answer (package trellisref), walked: As, Volume, Shape, Rank. -/
import Derived.Test.YticbbncdcannlaaGreatRows
import Derived.Test.YticbbncdcannlaaGreatG01

namespace Go.Proofs.YticbbncdcannlaaGreat
open Go.RowKit

theorem ret_int {k : IntKind} {a b : Int} (h : a = b) : Ending.returned (.int k a) = .returned (.int k b) := by rw [h]
theorem ret_bool {a b : Bool} (h : a = b) : Ending.returned (.bool a) = .returned (.bool b) := by rw [h]

set_option maxHeartbeats 400000 in
theorem as_calls (k v : Int) (w : World) :
    Calls Tryz.prog 126 #[.int .i64 k, .int .i64 v] w fun e w' => e = .returned (.int .i64 (asK k v)) ∧ w' = w := by
  by_cases hk : k = 1
  · have h1 : (k == 1) = true := by simp [hk]
    by_cases hn : v.tmod 256 < 0
    · have := asK_neg hn
      go_enter Tryz.func126, Tryz.ntmps126
      go_wp2
      go_ret
      exact ⟨ret_int (by simp [asK, hk]), rfl⟩
    · have := asK_pos hn
      go_enter Tryz.func126, Tryz.ntmps126
      go_wp2
      go_ret
      exact ⟨ret_int (by simp [asK]), rfl⟩
  · have h1 : (k == 1) = false := by simp [hk]
    go_enter Tryz.func126, Tryz.ntmps126
    go_wp2
    go_ret
    exact ⟨ret_int (by simp [asK, hk]), rfl⟩

set_option maxHeartbeats 400000 in
theorem volume_any (g o c : Nat) (xs : List Int) (w : World) (hs : sized xs) (hl : xs.length ≤ 4)
    (h1 : ∀ j, j < xs.length → w.cell? ⟨g, o + j, none⟩ = some (.int .i64 (nth xs j))) :
    Calls Tryz.prog 140 #[.slice (some ⟨g, o, none⟩) xs.length c] w fun e w' => e = .returned (.int .i64 (vol xs)) ∧ w' = w := by
  go_enter Tryz.func140, Tryz.ntmps140
  go_wp2
  go_loop [3, 4] (fun v i => ∃ k : Nat, k ≤ xs.length ∧ i = .int .i64 k ∧ v = .int .i64 (vol (xs.take k))) (fun _ i => xs.length - (intOf i).toNat)
  case atStart => exact ⟨0, Nat.zero_le _, rfl, rfl⟩
  case round =>
    obtain ⟨k, hk, rfl, rfl⟩ := hrel
    by_cases hlt : k < xs.length
    · have q1 := h1 k hlt
      have b1 := vol_bd xs hs hl k hk
      have b2 := vol_bd xs hs hl (k + 1) hlt
      have HV : Hid (vol (xs.take (k + 1)) = vol (xs.take k) * nth xs k) := vol_take xs k hlt
      rw [vol_take xs k hlt] at b2
      go_wp2
      go_round
      case rel => exact ⟨k + 1, by omega, by go_num, by rw [HV.out]⟩
      case measure => simp [intOf]; omega
    · go_wp2
      go_ret
      exact ⟨ret_int (by rw [List.take_of_length_le (by omega)]), rfl⟩

set_option maxHeartbeats 400000 in
theorem volume_nil (a : Option Addr) (c : Nat) (w : World) :
    Calls Tryz.prog 140 #[.slice a 0 c] w fun e w' => e = .returned (.int .i64 1) ∧ w' = w := by
  go_enter Tryz.func140, Tryz.ntmps140
  go_wp2
  refine wp_loop_rounds 1 ?_
  rw [rounds_succ]
  go_wp2
  go_ret
  exact ⟨rfl, rfl⟩

theorem volume_calls (v : Value) (xs : List Int) (w : World) (h : RdI w v xs) (hs : sized xs) (hl : xs.length ≤ 4) :
    Calls Tryz.prog 140 #[v] w fun e w' => e = .returned (.int .i64 (vol xs)) ∧ w' = w := by
  obtain ⟨a, c, rfl, h⟩ := h
  by_cases hx : xs = []
  · subst hx
    exact volume_nil a c w
  · obtain ⟨g, o, rfl, h'⟩ := h hx
    exact volume_any g o c xs w hs hl h'

set_option maxHeartbeats 400000 in
theorem shape_long (a : Option Addr) (n c : Nat) (w : World) (h : 4 < n) :
    Calls Tryz.prog 137 #[.slice a n c] w fun e w' => e = .returned (.bool false) ∧ w' = w := by
  go_enter Tryz.func137, Tryz.ntmps137
  go_wp2
  go_ret
  exact ⟨rfl, rfl⟩

set_option maxHeartbeats 400000 in
theorem shape_nil (a : Option Addr) (c : Nat) (w : World) :
    Calls Tryz.prog 137 #[.slice a 0 c] w fun e w' => e = .returned (.bool true) ∧ w' = w := by
  go_enter Tryz.func137, Tryz.ntmps137
  go_wp2
  refine wp_loop_rounds 1 ?_
  rw [rounds_succ]
  go_wp2
  go_ret
  exact ⟨rfl, rfl⟩

/-- The first k sizes may be. -/
def sizedTo (l : List Int) (k : Nat) : Prop := ∀ j, j < k → 1 ≤ nth l j ∧ nth l j ≤ 60

theorem volTo_bd (l : List Int) (hl : l.length ≤ 4) (k : Nat) (hk : k ≤ l.length) (hs : sizedTo l k) :
    1 ≤ vol (l.take k) ∧ vol (l.take k) ≤ 12960000 := by
  have hlen : (l.take k).length = k := by simp; omega
  have hn : ∀ j, j < k → nth (l.take k) j = nth l j := fun j hj => by
    rw [nth_lt (by omega), nth_lt (by omega)]; simp
  have := vol_bd (l.take k) (fun j hj => by rw [hn j (by omega)]; exact hs j (by omega)) (by omega) k (by omega)
  rwa [List.take_of_length_le (by omega)] at this

set_option maxHeartbeats 400000 in
theorem shape_any (g o c : Nat) (xs : List Int) (w : World) (hl : xs.length ≤ 4)
    (h1 : ∀ j, j < xs.length → w.cell? ⟨g, o + j, none⟩ = some (.int .i64 (nth xs j))) :
    Calls Tryz.prog 137 #[.slice (some ⟨g, o, none⟩) xs.length c] w fun e w' => e = .returned (.bool (shapeB xs)) ∧ w' = w := by
  have hl' : ¬ (4 : Int) < (xs.length : Int) := by omega
  go_enter Tryz.func137, Tryz.ntmps137
  go_wp2
  go_loop [3, 4] (fun v i => ∃ k : Nat, k ≤ xs.length ∧ i = .int .i64 k ∧ v = .int .i64 (vol (xs.take k)) ∧ sizedTo xs k) (fun _ i => xs.length - (intOf i).toNat)
  case atStart => exact ⟨0, Nat.zero_le _, rfl, rfl, fun j hj => by omega⟩
  case round =>
    obtain ⟨k, hk, rfl, rfl, hsz⟩ := hrel
    by_cases hlt : k < xs.length
    · have q1 := h1 k hlt
      have b1 := volTo_bd xs hl k hk hsz
      by_cases hok : 1 ≤ nth xs k ∧ nth xs k ≤ 60
      · obtain ⟨o1, o2⟩ := hok
        have hsz' : sizedTo xs (k + 1) := fun j hj => by
          rcases Nat.lt_succ_iff_lt_or_eq.1 hj with h | h
          · exact hsz j h
          · subst h; exact ⟨o1, o2⟩
        have b2 := volTo_bd xs hl (k + 1) hlt hsz'
        have HV : Hid (vol (xs.take (k + 1)) = vol (xs.take k) * nth xs k) := vol_take xs k hlt
        have HS : Hid (sizedTo xs (k + 1)) := hsz'
        rw [vol_take xs k hlt] at b2
        clear hsz' hsz
        go_wp2
        go_round
        case rel => exact ⟨k + 1, by omega, by go_num, by rw [HV.out], HS.out⟩
        case measure => simp [intOf]; omega
      · have hf : shapeB xs = false := by
          rw [← Bool.not_eq_true, shapeB_iff]
          exact fun h => hok (h.2.1 k hlt)
        have HF : Hid (shapeB xs = false) := hf
        clear hf
        by_cases h1 : nth xs k < 1
        · go_wp2
          go_ret
          exact ⟨ret_bool HF.out.symm, rfl⟩
        · have h2 : 60 < nth xs k := by omega
          go_wp2
          go_ret
          exact ⟨ret_bool HF.out.symm, rfl⟩
    · have hf : shapeB xs = decide (vol xs ≤ 3600) := by
        rw [Bool.eq_iff_iff, shapeB_iff]
        simp only [decide_eq_true_eq]
        exact ⟨fun h => h.2.2, fun h => ⟨hl, fun j hj => hsz j (by omega), h⟩⟩
      have HF : Hid (shapeB xs = decide (vol xs ≤ 3600)) := hf
      clear hf
      go_wp2
      go_ret
      refine ⟨ret_bool ?_, rfl⟩
      rw [HF.out, List.take_of_length_le (by omega)]

theorem shape_calls (v : Value) (xs : List Int) (w : World) (h : RdI w v xs) :
    Calls Tryz.prog 137 #[v] w fun e w' => e = .returned (.bool (shapeB xs)) ∧ w' = w := by
  obtain ⟨a, c, rfl, h⟩ := h
  by_cases hx : xs = []
  · subst hx
    exact shape_nil a c w
  · by_cases hl : xs.length ≤ 4
    · obtain ⟨g, o, rfl, h'⟩ := h hx
      exact shape_any g o c xs w hl h'
    · have hf : shapeB xs = false := by
        rw [← Bool.not_eq_true, shapeB_iff]
        exact fun h => hl h.1
      rw [hf]
      exact shape_long a _ c w (by omega)

set_option maxHeartbeats 400000 in
theorem rank_len (a b : Option Addr) (n m c d : Nat) (w : World) (h : n ≠ m) :
    Calls Tryz.prog 139 #[.slice a n c, .slice b m d] w fun e w' => e = .returned (.int .i64 (-1)) ∧ w' = w := by
  have h1 : ((n : Int) != (m : Int)) = true := by rw [bne_iff_ne]; omega
  go_enter Tryz.func139, Tryz.ntmps139
  go_wp2
  go_ret
  exact ⟨rfl, rfl⟩

set_option maxHeartbeats 400000 in
theorem rank_nil (a b : Option Addr) (c d : Nat) (w : World) :
    Calls Tryz.prog 139 #[.slice a 0 c, .slice b 0 d] w fun e w' => e = .returned (.int .i64 0) ∧ w' = w := by
  go_enter Tryz.func139, Tryz.ntmps139
  go_wp2
  refine wp_loop_rounds 1 ?_
  rw [rounds_succ]
  go_wp2
  go_ret
  exact ⟨rfl, rfl⟩

theorem mul_nn {a b : Int} (h : 0 ≤ a) (k : 1 ≤ b) : 0 ≤ a * b := Int.mul_nonneg h (by omega)

/-- The first k numbers are within. -/
def inTo (s i : List Int) (k : Nat) : Prop := ∀ j, j < k → 0 ≤ nth i j ∧ nth i j < nth s j

theorem rankTo_bd (s i : List Int) (hs : sized s) (hl : s.length ≤ 4) (k : Nat) (hk : k ≤ s.length) (hi : inTo s i k) :
    0 ≤ rankTo s i k ∧ rankTo s i k < 12960000 := by
  have key : ∀ m, m ≤ k → 0 ≤ rankTo s i m ∧ rankTo s i m < vol (s.take m) := by
    intro m
    induction m with
    | zero => intro _; simp [rankTo, vol]
    | succ m ih =>
      intro hm
      obtain ⟨a, b⟩ := ih (by omega)
      obtain ⟨s1, s2⟩ := hs m (by omega)
      obtain ⟨i1, i2⟩ := hi m (by omega)
      rw [vol_take s m (by omega)]
      simp only [rankTo]
      constructor
      · have := Int.mul_nonneg a (show (0 : Int) ≤ nth s m by omega)
        omega
      · have h1 : (rankTo s i m + 1) * nth s m ≤ vol (s.take m) * nth s m := Int.mul_le_mul_of_nonneg_right (by omega) (by omega)
        rw [Int.add_mul] at h1
        omega
  obtain ⟨a, b⟩ := key k (Nat.le_refl _)
  have := vol_bd s hs hl k hk
  exact ⟨a, by omega⟩

set_option maxHeartbeats 1000000 in
theorem rank_any (a1 o1 c1 a2 o2 c2 : Nat) (s i : List Int) (n : Nat) (w : World) (HL : Hid (s.length = n)) (HI : Hid (i.length = n)) (hs : ∀ j, j < n → 1 ≤ nth s j ∧ nth s j ≤ 60) (hl : n ≤ 4)
    (h1 : ∀ j, j < n → w.cell? ⟨a1, o1 + j, none⟩ = some (.int .i64 (nth s j)))
    (h2 : ∀ j, j < n → w.cell? ⟨a2, o2 + j, none⟩ = some (.int .i64 (nth i j))) :
    Calls Tryz.prog 139 #[.slice (some ⟨a1, o1, none⟩) n c1, .slice (some ⟨a2, o2, none⟩) n c2] w fun e w' => e = .returned (.int .i64 (rank s i)) ∧ Kp0 w w' := by
  go_enter Tryz.func139, Tryz.ntmps139
  go_wp2
  go_loopw [5, 6] (fun r t w' => ∃ k : Nat, k ≤ n ∧ t = .int .i64 k ∧ r = .int .i64 (rankTo s i k) ∧ inTo s i k ∧ ∃ m, w' = w.drewN m) (fun _ t _ => n - (intOf t).toNat)
  case atStart => exact ⟨0, Nat.zero_le _, rfl, rfl, fun j hj => by omega, 0, rfl⟩
  case round =>
    obtain ⟨k, hk, rfl, rfl, hin, m, rfl⟩ := hrel
    by_cases hlt : k < n
    · have q1 := h1 k hlt
      have q2 := h2 k (by omega)
      have e1 : (0:Int) ≤ (k : Int) := by omega
      have b1 := rankTo_bd s i (fun j hj => hs j (by have := HL.out; omega)) (by have := HL.out; omega) k (by have := HL.out; omega) hin
      obtain ⟨s1, s2⟩ := hs k hlt
      by_cases h0 : nth i k < 0
      · have d1 : decide (nth i k < 0) = true := by simp [h0]
        have HF : Hid (rank s i = -1) := by
          unfold rank
          exact if_neg (fun e => by have := ((inBb_iff s i).1 e).2 k (by have := HL.out; omega); omega)
        go_wp2
        go_quiet (fail)
        go_wp2
        go_ret
        exact ⟨ret_int HF.out.symm, ((Kp.refl _ _).drewN _).drewN _⟩
      · have d1 : decide (nth i k < 0) = false := by simp [h0]
        by_cases hg : nth s k ≤ nth i k
        · have d2 : decide (nth s k ≤ nth i k) = true := by simp [hg]
          have HF : Hid (rank s i = -1) := by
            unfold rank
            exact if_neg (fun e => by have := ((inBb_iff s i).1 e).2 k (by have := HL.out; omega); omega)
          go_wp2
          go_quiet (fail)
          go_wp2
          go_ret
          exact ⟨ret_int HF.out.symm, ((Kp.refl _ _).drewN _).drewN _⟩
        · have d2 : decide (nth s k ≤ nth i k) = false := by simp [hg]
          have hin' : inTo s i (k + 1) := fun j hj => by
            rcases Nat.lt_succ_iff_lt_or_eq.1 hj with h | h
            · exact hin j h
            · subst h; omega
          have b2 := rankTo_bd s i (fun j hj => hs j (by have := HL.out; omega)) (by have := HL.out; omega) (k + 1) (by have := HL.out; omega) hin'
          have HS : Hid (inTo s i (k + 1)) := hin'
          simp only [rankTo] at b2
          have b3 := mul_nn b1.1 s1
          clear hin' hin
          go_wp2
          go_quiet (fail)
          go_wp2
          go_quiet (fail)
          go_wp2
          go_roundw
          case rel => exact ⟨k + 1, by omega, by go_num, by simp only [rankTo], HS.out, _, rfl⟩
          case measure => simp [intOf]; omega
    · have HF : Hid (rank s i = rankTo s i s.length) := by
        unfold rank
        exact if_pos ((inBb_iff s i).2 ⟨HL.out.trans HI.out.symm, fun j hj => hin j (by have := HL.out; omega)⟩)
      go_wp2
      go_ret
      refine ⟨ret_int ?_, (Kp.refl _ _).drewN m⟩
      rw [HF.out]
      have : k = s.length := by have := HL.out; omega
      rw [this]

theorem rank_calls (va vb : Value) (s i : List Int) (w : World) (ha : RdI w va s) (hb : RdI w vb i) (hs : sized s) (hl : s.length ≤ 4) :
    Calls Tryz.prog 139 #[va, vb] w fun e w' => e = .returned (.int .i64 (rank s i)) ∧ Kp0 w w' := by
  obtain ⟨a, c, rfl, ha⟩ := ha
  obtain ⟨b, d, rfl, hb⟩ := hb
  by_cases hle : s.length = i.length
  · by_cases hx : s = []
    · subst hx
      have hy : i = [] := List.length_eq_zero_iff.1 hle.symm
      subst hy
      refine (rank_nil a b c d w).mono ?_
      rintro e w' ⟨rfl, rfl⟩
      exact ⟨rfl, Kp0.refl _⟩
    · obtain ⟨g, o, rfl, ha'⟩ := ha hx
      obtain ⟨g', o', rfl, hb'⟩ := hb (fun e => hx (List.length_eq_zero_iff.1 (by rw [hle, e]; rfl)))
      rw [← hle]
      exact rank_any g o c g' o' d s i s.length w rfl hle.symm hs hl ha' (fun j hj => hb' j (by omega))
  · refine (rank_len a b _ _ c d w hle).mono ?_
    rintro e w' ⟨rfl, rfl⟩
    refine ⟨ret_int ?_, Kp0.refl _⟩
    unfold rank
    rw [if_neg (fun e => hle ((inBb_iff s i).1 e).1)]

end Go.Proofs.YticbbncdcannlaaGreat

/- The document's answer, walked: find, live, used. -/
namespace Go.Proofs.YticbbncdcannlaaGreat
open Go.RowKit

theorem hid {p : Prop} (h : p) : Hid p := h

theorem ret_val {a b : Value} (h : a = b) : Ending.returned a = .returned b := by rw [h]

set_option maxHeartbeats 400000 in
theorem yfind_calls {T : Tags} {o : Nat} {w : World} {p : Nat} {L : YL} {σ : Sp} (hy : YAt T o w p L σ) (hok : σ.ok) (h : Int) :
    Calls Tryz.prog 122 #[.pointer (some ⟨p, 0, none⟩), .int .i64 h] w fun e w' => e = .returned (ptr (L.at h)) ∧ w' = w := by
  obtain ⟨-, -, -, -, -, q6, -⟩ := hy.cells
  have hm := hok.many
  by_cases h1 : h < 1
  · have d1 : decide (h < 1) = true := by simp [h1]
    have HF : Hid (L.at h = none) := by unfold YL.at; exact if_neg (by omega)
    go_enter Tryz.func122, Tryz.ntmps122
    go_wp2
    go_ret
    exact ⟨ret_val (by rw [HF.out]; rfl), rfl⟩
  · have d1 : decide (h < 1) = false := by simp [h1]
    rcases hy.ptrs with ⟨hv, hn⟩ | ⟨g, cap, hv, hc⟩
    · rw [hv] at q6
      have HF : Hid (L.at h = none) := hid <| by
        have hl : L.ps = [] := List.length_eq_zero_iff.1 (by rw [hy.len]; exact hn)
        unfold YL.at; rw [hl]; simp [List.getD]
      go_enter Tryz.func122, Tryz.ntmps122
      go_wp2
      go_ret
      exact ⟨ret_val (by rw [HF.out]; rfl), rfl⟩
    · rw [hv] at q6
      by_cases h2 : (σ.arrs.length : Int) < h
      · have HF : Hid (L.at h = none) := hid <| by
          unfold YL.at
          rw [if_pos (by omega)]
          simp [List.getD, List.getElem?_eq_none (show L.ps.length ≤ ix h by rw [hy.len]; unfold ix; omega)]
        go_enter Tryz.func122, Tryz.ntmps122
        go_wp2
        go_ret
        exact ⟨ret_val (by rw [HF.out]; rfl), rfl⟩
      · have q := hc (h.toNat - 1) (by omega)
        have HF : Hid (L.at h = L.ps.getD (h.toNat - 1) none) := hid <| by
          unfold YL.at
          rw [if_pos (by omega)]
          rfl
        generalize L.ps.getD (h.toNat - 1) none = x at q HF
        cases x <;> simp only [ptr] at q <;>
        (go_enter Tryz.func122, Tryz.ntmps122
         go_wp2
         go_ret
         exact ⟨ret_val (by rw [HF.out]; rfl), rfl⟩)

/-- How many of the first k arrays are there. -/
def liveTo (l : List (Option Nat)) (k : Nat) : Nat := ((l.take k).filter Option.isSome).length

theorem liveTo_le (l : List (Option Nat)) (k : Nat) : liveTo l k ≤ k := by
  unfold liveTo
  exact Nat.le_trans (List.length_filter_le _ _) (List.length_take_le _ _)

theorem liveTo_succ (l : List (Option Nat)) (k : Nat) (h : k < l.length) : liveTo l (k + 1) = liveTo l k + (if (l.getD k none).isSome then 1 else 0) := by
  unfold liveTo
  rw [List.take_succ_eq_append_getElem h, List.filter_append, List.length_append]
  congr 1
  simp only [List.getD, List.getElem?_eq_getElem h, Option.getD_some]
  cases l[k] <;> simp

set_option maxHeartbeats 400000 in
theorem ylive_nil {p : Nat} {w : World} (q6 : w.cell? ⟨p, 6, none⟩ = some (.slice none 0 0)) :
    Calls Tryz.prog 169 #[.pointer (some ⟨p, 0, none⟩)] w fun e w' => e = .returned (.int .i64 0) ∧ w' = w := by
  go_enter Tryz.func169, Tryz.ntmps169
  go_wp2
  refine wp_loop_rounds 1 ?_
  rw [rounds_succ]
  go_wp2
  go_ret
  exact ⟨rfl, rfl⟩

set_option maxHeartbeats 400000 in
theorem ylive_any {p g n cap : Nat} {w : World} (l : List (Option Nat)) (HL : Hid (l.length = n)) (hn : n ≤ 100000000) (q6 : w.cell? ⟨p, 6, none⟩ = some (.slice (some ⟨g, 0, none⟩) n cap))
    (hc : ∀ j, j < n → w.cell? ⟨g, j, none⟩ = some (ptr (l.getD j none))) :
    Calls Tryz.prog 169 #[.pointer (some ⟨p, 0, none⟩)] w fun e w' => e = .returned (.int .i64 (liveTo l n : Int)) ∧ w' = w := by
  have HC := hid hc
  clear hc
  go_enter Tryz.func169, Tryz.ntmps169
  go_wp2
  go_loop [3, 4] (fun r i => ∃ k : Nat, k ≤ n ∧ i = .int .i64 k ∧ r = .int .i64 (liveTo l k : Int)) (fun _ i => n - (intOf i).toNat)
  case atStart => exact ⟨0, Nat.zero_le _, rfl, rfl⟩
  case round =>
    obtain ⟨k, hk, rfl, rfl⟩ := hrel
    by_cases hlt : k < n
    · have q := HC.out k hlt
      have HS := hid (liveTo_succ l k (by have := HL.out; omega))
      have hb := liveTo_le l k
      generalize l.getD k none = x at q HS
      cases x
      · simp only [ptr] at q
        go_wp2
        go_round
        case rel => exact ⟨k + 1, by omega, by go_num, by rw [HS.out]; rfl⟩
        case measure => simp [intOf]; omega
      · simp only [ptr] at q
        go_wp2
        go_round
        case rel => exact ⟨k + 1, by omega, by go_num, by rw [HS.out]; simp; done⟩
        case measure => simp [intOf]; omega
    · go_wp2
      go_ret
      exact ⟨ret_int (by have : k = n := by omega
                         rw [this]), rfl⟩

theorem live_eq {T : Tags} {o : Nat} {w : World} {p : Nat} {L : YL} {σ : Sp} (hy : YAt T o w p L σ) : liveTo L.ps σ.arrs.length = σ.live := by
  have key : ∀ (l : List (Option Nat)) (m : List (Option Arr)), l.length = m.length → (∀ i : Nat, (l[i]?).map Option.isSome = (m[i]?).map Option.isSome) → (l.filter Option.isSome).length = (m.filter Option.isSome).length := by
    intro l
    induction l with
    | nil => intro m hm _; rw [List.length_eq_zero_iff.1 hm.symm]; rfl
    | cons x l ih =>
      intro m hm he
      match m, hm with
      | y :: m, hm =>
        have h0 := he 0
        simp at h0
        have hr := ih m (by simpa using hm) (fun i => by simpa using he (i + 1))
        simp only [List.filter_cons, h0]
        split <;> simp [hr]
  unfold liveTo Sp.live
  rw [List.take_of_length_le (by rw [hy.len]; exact Nat.le_refl _)]
  refine key _ _ hy.len (fun i => ?_)
  cases ha : σ.arrs[i]? with
  | none =>
    have : σ.arrs.length ≤ i := List.getElem?_eq_none_iff.1 ha
    rw [List.getElem?_eq_none (by rw [hy.len]; exact this)]
    rfl
  | some x =>
    cases x with
    | none => rw [hy.non i ha]; rfl
    | some a =>
      obtain ⟨q, vs, vc, hq, _⟩ := hy.som i a ha
      rw [hq]; rfl

theorem ylive_calls {T : Tags} {o : Nat} {w : World} {p : Nat} {L : YL} {σ : Sp} (hy : YAt T o w p L σ) (hok : σ.ok) :
    Calls Tryz.prog 169 #[.pointer (some ⟨p, 0, none⟩)] w fun e w' => e = .returned (.int .i64 (σ.live : Int)) ∧ w' = w := by
  obtain ⟨-, -, -, -, -, q6, -⟩ := hy.cells
  rcases hy.ptrs with ⟨hv, hn⟩ | ⟨g, cap, hv, hc⟩
  · rw [hv] at q6
    have : σ.live = 0 := by
      have h := live_eq hy
      rw [hn] at h
      rw [← h]
      rfl
    rw [this]
    exact ylive_nil q6
  · rw [hv] at q6
    rw [← live_eq hy]
    exact ylive_any L.ps hy.len hok.many q6 hc

set_option maxHeartbeats 400000 in
theorem yused_nil {p : Nat} {w : World} (b : Int) (q6 : w.cell? ⟨p, 6, none⟩ = some (.slice none 0 0)) :
    Calls Tryz.prog 147 #[.pointer (some ⟨p, 0, none⟩), .int .i64 b] w fun e w' => e = .returned (.bool false) ∧ w' = w := by
  go_enter Tryz.func147, Tryz.ntmps147
  go_wp2
  refine wp_loop_rounds 1 ?_
  rw [rounds_succ]
  go_wp2
  go_ret
  exact ⟨rfl, rfl⟩

set_option maxHeartbeats 1000000 in
theorem yused_any {T : Tags} {o : Nat} {w : World} {p : Nat} {L : YL} {σ : Sp} (hy : YAt T o w p L σ) (b g n cap : Nat) (HN : Hid (σ.arrs.length = n)) (hn : n ≤ 100000000) (q6 : w.cell? ⟨p, 6, none⟩ = some (.slice (some ⟨g, 0, none⟩) n cap))
    (hc : ∀ j, j < n → w.cell? ⟨g, j, none⟩ = some (ptr (L.ps.getD j none))) :
    Calls Tryz.prog 147 #[.pointer (some ⟨p, 0, none⟩), .int .i64 (b : Int)] w fun e w' => e = .returned (.bool (σ.used b)) ∧ w' = w := by
  have HC := hid hc
  have HY := hid hy
  clear hc hy
  go_enter Tryz.func147, Tryz.ntmps147
  go_wp2
  go_loop [5] (fun i => ∃ k : Nat, k ≤ n ∧ i = .int .i64 k ∧ usedTo σ.arrs b k = false) (fun i => n - (intOf i).toNat)
  case atStart => exact ⟨0, Nat.zero_le _, rfl, rfl⟩
  case round =>
    obtain ⟨k, hk, rfl, hu⟩ := hrel
    have HU := hid hu
    clear hu
    by_cases hlt : k < n
    · have q := HC.out k hlt
      have hka : k < σ.arrs.length := by have := HN.out; omega
      have HS := hid (usedTo_succ σ.arrs b k hka)
      cases ha : σ.arrs[k] with
      | none =>
        have hp := HY.out.non k (by rw [List.getElem?_eq_getElem hka, ha])
        simp only [List.getD, hp, Option.getD_some, ptr] at q
        have HR : Hid (usedTo σ.arrs b (k + 1) = false) := hid <| by
          rw [HS.out, HU.out, ha]; rfl
        clear HS ha hp hka
        go_wp2
        go_round
        case rel => exact ⟨k + 1, by omega, by go_num, HR.out⟩
        case measure => simp [intOf]; omega
      | some a =>
        obtain ⟨qb, vs, vc, hp, hy⟩ := HY.out.som k a (by rw [List.getElem?_eq_getElem hka, ha])
        simp only [List.getD, hp, Option.getD_some, ptr] at q
        have q2 : w.cell? ⟨qb, 4, none⟩ = some (.int .i64 (a.buf : Int)) := by simp [World.cell?, hy.blk]
        have HR : Hid (usedTo σ.arrs b (k + 1) = (a.buf == b)) := hid <| by
          rw [HS.out, HU.out, ha]; rfl
        have HT : Hid (usedTo σ.arrs b (k + 1) = true → σ.used b = true) := hid (usedTo_mono σ.arrs b (k + 1) _ hka)
        clear HS ha hp hka hy
        by_cases hb : a.buf = b
        · have d : ((a.buf : Int) == (b : Int)) = true := by simp [hb]
          have HB := hid hb
          clear hb
          go_wp2
          go_ret
          exact ⟨ret_bool (HT.out (by rw [HR.out, HB.out]; simp)).symm, rfl⟩
        · have d : ((a.buf : Int) == (b : Int)) = false := by rw [beq_eq_false_iff_ne]; omega
          have HB := hid hb
          clear hb
          go_wp2
          go_round
          case rel => exact ⟨k + 1, by omega, by go_num, by rw [HR.out]; simp [HB.out]⟩
          case measure => simp [intOf]; omega
    · go_wp2
      go_ret
      refine ⟨ret_bool ?_, rfl⟩
      unfold Sp.used
      have : σ.arrs.length = k := by have := HN.out; omega
      rw [this, HU.out]

theorem yused_calls {T : Tags} {o : Nat} {w : World} {p : Nat} {L : YL} {σ : Sp} (hy : YAt T o w p L σ) (hok : σ.ok) (b : Nat) :
    Calls Tryz.prog 147 #[.pointer (some ⟨p, 0, none⟩), .int .i64 (b : Int)] w fun e w' => e = .returned (.bool (σ.used b)) ∧ w' = w := by
  obtain ⟨-, -, -, -, -, q6, -⟩ := hy.cells
  rcases hy.ptrs with ⟨hv, hn⟩ | ⟨g, cap, hv, hc⟩
  · rw [hv] at q6
    have : σ.used b = false := by
      unfold Sp.used
      rw [hn]
      rfl
    rw [this]
    exact yused_nil b q6
  · rw [hv] at q6
    exact yused_any hy b g _ cap rfl hok.many q6 hc

end Go.Proofs.YticbbncdcannlaaGreat

/- The document's answer, walked: taken, place. -/
namespace Go.Proofs.YticbbncdcannlaaGreat
open Go.RowKit

theorem Tryz.infoInt : (Tryz.prog.info? 3).map (fun i => (i.zero, i.size, i.bytes)) = some (some (.int .i64 0), 1, 8) := by kernel_rfl
theorem Tryz.infoBool : (Tryz.prog.info? 4).map (fun i => (i.zero, i.size, i.bytes)) = some (some (.bool false), 1, 1) := by kernel_rfl

/-- n values alike. -/
def rep (n : Nat) (z : Value) : Array Value := (List.replicate n z).toArray

theorem run_mk {P : Program} (t e : TypeId) (z : Value) (bytes : Nat) (ht : P.underlying t = some (.slice e)) (hi : (P.info? e).map (fun i => (i.zero, i.size, i.bytes)) = some (some z, 1, bytes)) (hz : z.cells = #[z]) (hby : bytes ≤ 100) (n : Nat) (hn : n ≤ 1000000000000) (W : World) :
    (Instr.makeSlice t (.int .i64 (n : Int)) (.int .i64 (n : Int))).run P W = .ok (.slice (some ⟨W.heap.size, 0, none⟩) n n) (W.alloc (.cells (rep n z) e)) := by
  obtain ⟨i, hi, hz0, hz1, hz2⟩ := info_parts hi
  have hb : (i.bytes : Int) * (n : Int) ≤ 281474976710656 := by
    have h1 : i.bytes * n ≤ 100 * 1000000000000 := Nat.mul_le_mul (by omega) hn
    have h2 : ((i.bytes * n : Nat) : Int) ≤ 281474976710656 := by omega
    rwa [Int.natCast_mul] at h2
  have := run_make (P := P) W t e i z ht hi hz0 .i64 .i64 n n (by omega) (Int.le_refl _) hb (by omega)
  rw [this, hz1, hz]
  simp only [Int.toNat_natCast, Nat.mul_one]
  congr 4
  unfold rep
  rw [← toList_madeCells_one]

/-- A row of bools. -/
def bls (t : Int → Bool) (n : Nat) : Array Value := ((List.range n).map fun j : Nat => Value.bool (t j)).toArray

theorem bls_size (t : Int → Bool) (n : Nat) : (bls t n).size = n := by simp [bls]
theorem bls_get (t : Int → Bool) (n j : Nat) (h : j < n) : (bls t n)[j]? = some (.bool (t j)) := by simp [bls, h]
theorem bls_rep (n : Nat) : bls (fun _ => false) n = rep n (.bool false) := by
  unfold bls rep
  congr 1
  apply List.ext_getElem <;> simp
theorem bls_set (t t' : Int → Bool) (n j : Nat) (v : Bool) (hj : t' j = v) (h : ∀ i : Nat, i ≠ j → t' i = t i) : (bls t n).setIfInBounds j (.bool v) = bls t' n := by
  apply Array.ext_getElem?
  intro i
  by_cases hi : i < n
  · rw [bls_get t' n i hi]
    by_cases hij : i = j
    · subst hij
      rw [Array.getElem?_setIfInBounds_self_of_lt (by rw [bls_size]; exact hi), hj]
    · rw [Array.getElem?_setIfInBounds_ne (by omega), bls_get t n i hi, h i hij]
  · rw [Array.getElem?_eq_none (by simp [bls_size]; omega), Array.getElem?_eq_none (by simp [bls_size]; omega)]
theorem bufs_get (l : List Buf) (j : Nat) (b : Buf) (h : l[j]? = some b) : (l.flatMap Buf.row)[j * 3]? = some (.int .i64 b.kind) ∧ (l.flatMap Buf.row)[j * 3 + 1]? = some (.int .i64 b.at') ∧ (l.flatMap Buf.row)[j * 3 + 2]? = some (.int .i64 b.size) := by
  induction l generalizing j with
  | nil => simp at h
  | cons x l ih =>
    cases j with
    | zero =>
      simp at h
      subst h
      simp [Buf.row]
    | succ j =>
      simp at h
      have := ih j h
      have e : ∀ r, (Buf.row x ++ l.flatMap Buf.row)[(j + 1) * 3 + r]? = (l.flatMap Buf.row)[j * 3 + r]? := by
        intro r
        rw [List.getElem?_append_right (by simp [Buf.row]; omega)]
        congr 1
        simp [Buf.row]
        omega
      simp only [List.flatMap_cons]
      exact ⟨(e 0).trans this.1, (e 1).trans this.2.1, (e 2).trans this.2.2⟩

theorem YAt.bufAt {T : Tags} {o : Nat} {w : World} {p : Nat} {L : YL} {σ : Sp} (h : YAt T o w p L σ) :
    (L.vb = .slice none 0 0 ∧ σ.bufs.length = 0) ∨ ∃ g cap, L.vb = .slice (some ⟨g, 0, none⟩) σ.bufs.length cap ∧ ∀ (j : Nat) (b : Buf), σ.bufs[j]? = some b → w.cell? ⟨g, j * 3, none⟩ = some (.int .i64 b.kind) ∧ w.cell? ⟨g, j * 3 + 1, none⟩ = some (.int .i64 b.at') ∧ w.cell? ⟨g, j * 3 + 2, none⟩ = some (.int .i64 b.size) := by
  rcases row_form h.vb with hn | ⟨g, cap, hv, _, _, hc⟩
  · exact .inl hn
  · refine .inr ⟨g, cap, hv, fun j b hb => ?_⟩
    have hj : j < σ.bufs.length := by
      rcases Nat.lt_or_ge j σ.bufs.length with h' | h'
      · exact h'
      · rw [List.getElem?_eq_none h'] at hb; cases hb
    have := bufs_get σ.bufs j b hb
    rw [hc _ (by omega), hc _ (by omega), hc _ (by omega)]
    exact this

theorem takenTo_succ (σ : Sp) (kind : Int) (m : Nat) (c : Int) (b : Buf) (h : σ.bufs[m]? = some b) :
    takenTo σ kind (m + 1) c = (takenTo σ kind m c || (σ.used m && (b.kind == kind && (decide (b.at' ≤ c) && decide (c < b.at' + b.size))))) := by
  unfold takenTo
  rw [List.range_succ, List.any_append]
  simp [h]

set_option maxHeartbeats 1000000 in
theorem ytaken_nil {p n : Nat} {w : World} (kind : Int) (hk1 : 1 ≤ kind) (hk2 : kind ≤ 2) (hn : n ≤ 10000) (q0 : w.cell? ⟨p, kind.toNat, none⟩ = some (.int .i64 (n : Int))) (q7 : w.cell? ⟨p, 7, none⟩ = some (.slice none 0 0)) :
    Calls Tryz.prog 121 #[.pointer (some ⟨p, 0, none⟩), .int .i64 kind] w fun e w' => e = .returned (.slice (some ⟨w.heap.size, 0, none⟩) n n) ∧ w' = w.alloc (.cells (rep n (.bool false)) 4) := by
  have hmk := fun W => run_mk (P := Tryz.prog) 39 4 (.bool false) 1 Tryz.underlying39 Tryz.infoBool rfl (by omega) n (by omega) W
  have hp : p < w.heap.size := block_lt_of_cell q0
  go_enter Tryz.func121, Tryz.ntmps121
  go_wp2
  refine wp_loop_rounds 1 ?_
  rw [rounds_succ]
  go_wp2
  go_ret
  exact ⟨rfl, rfl⟩

theorem YAt.kp0 {T : Tags} {o : Nat} {w w' : World} {p : Nat} {L : YL} {σ : Sp} (h : YAt T o w p L σ) (k : Kp0 w w') : YAt T o w' p L σ := h.kp k (fun _ _ e => e)

theorem frozen_blk {w : World} {g j : Nat} {c : Array Value} {t : TypeId} (h : w.heap[g]? = some (.cells c t (0, 0))) : w.frozen? ⟨g, j, none⟩ = false := frozen_of_row w g j c t h

/-- The cells of one kind that belong to the first m buffers, or to the first j of the next one. -/
def takenJ (σ : Sp) (kind : Int) (m : Nat) (b : Buf) (j : Nat) (c : Int) : Bool := takenTo σ kind m c || (decide (b.at' ≤ c) && decide (c < b.at' + j))

theorem takenJ_zero (σ : Sp) (kind : Int) (m : Nat) (b : Buf) : takenJ σ kind m b 0 = takenTo σ kind m := by
  funext c
  unfold takenJ
  have : (decide (b.at' ≤ c) && decide (c < b.at' + ((0 : Nat) : Int))) = false := by
    rw [Bool.and_eq_false_iff]
    by_cases h : b.at' ≤ c
    · right; simp; omega
    · left; simp [h]
  rw [this, Bool.or_false]

set_option maxHeartbeats 2000000 in
theorem ytaken_any {T : Tags} {o : Nat} {w : World} {p : Nat} {L : YL} {σ : Sp} (hy : YAt T o w p L σ) (hok : σ.ok) (kind : Int) (n g m cap : Nat) (hk1 : 1 ≤ kind) (hk2 : kind ≤ 2) (HN : Hid (σ.cap kind = n)) (hn : n ≤ 10000) (HM : Hid (σ.bufs.length = m)) (hm : m ≤ 100000000)
    (q0 : w.cell? ⟨p, kind.toNat, none⟩ = some (.int .i64 (n : Int))) (q7 : w.cell? ⟨p, 7, none⟩ = some (.slice (some ⟨g, 0, none⟩) m cap))
    (hc : ∀ (j : Nat) (b : Buf), σ.bufs[j]? = some b → w.cell? ⟨g, j * 3, none⟩ = some (.int .i64 b.kind) ∧ w.cell? ⟨g, j * 3 + 1, none⟩ = some (.int .i64 b.at') ∧ w.cell? ⟨g, j * 3 + 2, none⟩ = some (.int .i64 b.size)) :
    Calls Tryz.prog 121 #[.pointer (some ⟨p, 0, none⟩), .int .i64 kind] w fun e w' => e = .returned (.slice (some ⟨w.heap.size, 0, none⟩) n n) ∧ Kp0 w w' ∧ w'.heap[w.heap.size]? = some (.cells (bls (σ.taken kind) n) 4 (0, 0)) := by
  have hmk := fun W => run_mk (P := Tryz.prog) 39 4 (.bool false) 1 Tryz.underlying39 Tryz.infoBool rfl (by omega) n (by omega) W
  have hp : p < w.heap.size := block_lt_of_cell q0
  have HC := hid hc
  have HY := hid hy
  have HO := hid hok
  clear hc hy hok
  go_enter Tryz.func121, Tryz.ntmps121
  go_wp2
  clear hmk
  go_loopw [6] (fun i w' => ∃ k : Nat, k ≤ m ∧ i = .int .i64 k ∧ Kp0 w w' ∧ w'.heap[w.heap.size]? = some (.cells (bls (takenTo σ kind k) n) 4 (0, 0))) (fun i _ => m - (intOf i).toNat)
  case atStart => exact ⟨0, Nat.zero_le _, rfl, (Kp.refl _ _).alloc _, by rw [heap_alloc_new]; rw [← bls_rep]; rfl⟩
  case round =>
    obtain ⟨k, hk, rfl, hK, hG⟩ := hrel
    have HK := hid hK
    have HG := hid hG
    have r7 := hK.cell q7
    have hy' := HY.out.kp0 hK
    by_cases hlt : k < m
    · obtain ⟨b, hb⟩ : ∃ b, σ.bufs[k]? = some b := ⟨_, List.getElem?_eq_getElem (by have := HM.out; omega)⟩
      obtain ⟨z0, z1, z2⟩ := HC.out k b hb
      have z0 := hK.cell z0
      have z1 := hK.cell z1
      have z2 := hK.cell z2
      obtain ⟨-, b2, b3, b4, b5⟩ := HO.out.buf k b hb
      have hS := fun c => takenTo_succ σ kind k c b hb
      cases hu : σ.used k
      · have HS : Hid (takenTo σ kind (k + 1) = takenTo σ kind k) := hid <| by
          funext c; rw [hS c, hu]; simp
        have HY' := hid hy'
        have d0 : decide ((0 : Int) < b.size) = true := by simp; omega
        clear hS hb hK hG hy'
        go_wp2_with (go_at_call 147; refine (yused_calls HY'.out HO.out k).mono ?_; rintro e w' ⟨rfl, rfl⟩)
        refine wp_loop_rounds 1 ?_
        rw [rounds_succ]
        go_wp2
        go_roundw
        case rel => exact ⟨k + 1, by omega, by go_num, HK.out, by rw [HS.out]; exact HG.out⟩
        case measure => simp [intOf]; omega
      · by_cases hkk : b.kind = kind
        · have HS : Hid (takenTo σ kind (k + 1) = takenJ σ kind k b b.size.toNat) := hid <| by
            funext c; rw [hS c, hu, hkk]
            unfold takenJ
            rw [show ((b.size.toNat : Nat) : Int) = b.size by omega]
            simp
          have HY' := hid hy'
          have dk : (b.kind == kind) = true := by simp [hkk]
          have HKK := hid hkk
          have HCAP : Hid (b.at' + b.size ≤ n) := hid <| by
            rw [hkk, HN.out] at b5; exact b5
          have HB := hid hb
          clear hS hb hK hG hy' hkk b5
          go_wp2_with (go_at_call 147; refine (yused_calls HY'.out HO.out k).mono ?_; rintro e w' ⟨rfl, rfl⟩)
          go_loopw [8] (fun i w' => ∃ j : Nat, (j : Int) ≤ b.size ∧ i = .int .i64 j ∧ Kp0 w w' ∧ w'.heap[w.heap.size]? = some (.cells (bls (takenJ σ kind k b j) n) 4 (0, 0))) (fun i _ => b.size.toNat - (intOf i).toNat)
          case atStart => exact ⟨0, by omega, rfl, HK.out, by rw [takenJ_zero]; exact HG.out⟩
          case round =>
            obtain ⟨j, hj, rfl, hK2, hG2⟩ := hrel
            have y7 := hK2.cell q7
            obtain ⟨x0, x1, x2⟩ := HC.out k b HB.out
            have x0 := hK2.cell x0
            have x1 := hK2.cell x1
            have x2 := hK2.cell x2
            have HK2 := hid hK2
            have HG2 := hid hG2
            have hsz : w.heap.size < wr.heap.size := lt_of_heap hG2
            by_cases hjt : (j : Int) < b.size
            · have hcell : wr.cell? ⟨w.heap.size, (b.at' + j).toNat, none⟩ = some (.bool (takenJ σ kind k b j ((b.at' + j).toNat : Nat))) := by
                rw [cell_of_row wr _ _ _ _ _ hG2, bls_get _ _ _ (by have := HCAP.out; omega)]
              have hfz : wr.frozen? ⟨w.heap.size, (b.at' + j).toNat, none⟩ = false := frozen_blk hG2
              have hcap := HCAP.out
              clear hK2 hG2
              go_wp2
              go_roundw
              case rel =>
                refine ⟨j + 1, by omega, by go_num, Kp.setCell HK2.out _ _ (fun h => by simp at h), ?_⟩
                rw [heap_setCell_same _ _ _ _ _ _ HG2.out]
                rw [bls_set _ (takenJ σ kind k b (j + 1)) n _ true]
                · unfold takenJ
                  rw [Bool.or_eq_true]
                  right
                  simp
                  omega
                · intro i hi
                  unfold takenJ
                  congr 1
                  rw [Bool.eq_iff_iff]
                  simp
                  omega
              case measure => simp [intOf]; omega
            · have hje : j = b.size.toNat := by omega
              have dj : decide ((j : Int) < b.size) = false := by simp [hjt]
              have HJ := hid hje
              clear hK2 hG2 hje
              go_wp2
              go_roundw
              case rel => exact ⟨k + 1, by omega, by go_num, HK2.out, by rw [HS.out, ← HJ.out]; exact HG2.out⟩
              case measure => simp [intOf]; omega
        · have HS : Hid (takenTo σ kind (k + 1) = takenTo σ kind k) := hid <| by
            funext c; rw [hS c, hu]; simp [hkk]
          have HY' := hid hy'
          have d0 : decide ((0 : Int) < b.size) = true := by simp; omega
          have dk : (b.kind == kind) = false := by simp [hkk]
          clear hS hb hK hG hy' hkk
          go_wp2_with (go_at_call 147; refine (yused_calls HY'.out HO.out k).mono ?_; rintro e w' ⟨rfl, rfl⟩)
          refine wp_loop_rounds 1 ?_
          rw [rounds_succ]
          go_wp2
          go_roundw
          case rel => exact ⟨k + 1, by omega, by go_num, HK.out, by rw [HS.out]; exact HG.out⟩
          case measure => simp [intOf]; omega
    · go_wp2
      go_ret
      refine ⟨rfl, HK.out, ?_⟩
      unfold Sp.taken
      have : σ.bufs.length = k := by have := HM.out; omega
      rw [this]
      exact HG.out

theorem YAt.capCell {T : Tags} {o : Nat} {w : World} {p : Nat} {L : YL} {σ : Sp} (hy : YAt T o w p L σ) (kind : Int) (hk : kind = 1 ∨ kind = 2) : w.cell? ⟨p, kind.toNat, none⟩ = some (.int .i64 (σ.cap kind : Int)) := by
  obtain ⟨-, q1, q2, -⟩ := hy.cells
  rcases hk with rfl | rfl
  · exact q1
  · exact q2

theorem Sp.ok.cap {σ : Sp} (h : σ.ok) (kind : Int) : σ.cap kind ≤ 10000 := by
  unfold Sp.cap
  split
  · exact h.n1
  · exact h.n2

theorem ytaken_calls {T : Tags} {o : Nat} {w : World} {p : Nat} {L : YL} {σ : Sp} (hy : YAt T o w p L σ) (hok : σ.ok) (kind : Int) (hk : kind = 1 ∨ kind = 2) :
    Calls Tryz.prog 121 #[.pointer (some ⟨p, 0, none⟩), .int .i64 kind] w fun e w' => e = .returned (.slice (some ⟨w.heap.size, 0, none⟩) (σ.cap kind) (σ.cap kind)) ∧ Kp0 w w' ∧ w'.heap[w.heap.size]? = some (.cells (bls (σ.taken kind) (σ.cap kind)) 4 (0, 0)) := by
  obtain ⟨-, -, -, -, -, -, q7⟩ := hy.cells
  have q0 := hy.capCell kind hk
  rcases hy.bufAt with ⟨hv, hn⟩ | ⟨g, cap, hv, hc⟩
  · rw [hv] at q7
    refine (ytaken_nil kind (by omega) (by omega) (hok.cap kind) q0 q7).mono ?_
    rintro e w' ⟨rfl, rfl⟩
    refine ⟨rfl, (Kp.refl _ _).alloc _, ?_⟩
    rw [heap_alloc_new, ← bls_rep]
    have : σ.taken kind = fun _ => false := by
      funext c
      unfold Sp.taken takenTo
      rw [hn]
      rfl
    rw [this]
  · rw [hv] at q7
    exact ytaken_any hy hok kind _ g _ cap (by omega) (by omega) rfl (hok.cap kind) rfl hok.bufs q0 q7 hc

theorem placeIn_step (t : Int → Bool) (size f i : Nat) (h : ¬ runTo t (i + 1) = size) : placeIn t size (f + 1) i = placeIn t size f (i + 1) := by
  simp only [placeIn]
  rw [if_neg h]
theorem placeIn_found (t : Int → Bool) (size f i : Nat) (h : runTo t (i + 1) = size) : placeIn t size (f + 1) i = (i : Int) + 1 - size := by
  simp only [placeIn]
  rw [if_pos h]

set_option maxHeartbeats 1000000 in
theorem yplace_calls {T : Tags} {o : Nat} {w : World} {p : Nat} {L : YL} {σ : Sp} (hy : YAt T o w p L σ) (hok : σ.ok) (kind : Int) (hk : kind = 1 ∨ kind = 2) (size : Nat) (hs : size ≤ 3600) :
    Calls Tryz.prog 170 #[.pointer (some ⟨p, 0, none⟩), .int .i64 kind, .int .i64 (size : Int)] w fun e w' => e = .returned (.int .i64 (σ.place kind size)) ∧ Kp0 w w' := by
  have HY := hid hy
  have HO := hid hok
  have HK := hid hk
  have hn := hok.cap kind
  unfold Sp.place
  have HT : Hid (∀ w, YAt T o w p L σ → Calls Tryz.prog 121 #[.pointer (some ⟨p, 0, none⟩), .int .i64 kind] w fun e w' => e = .returned (.slice (some ⟨w.heap.size, 0, none⟩) (σ.cap kind) (σ.cap kind)) ∧ Kp0 w w' ∧ w'.heap[w.heap.size]? = some (.cells (bls (σ.taken kind) (σ.cap kind)) 4 (0, 0))) :=
    fun w hy => ytaken_calls hy hok kind hk
  clear hy hok hk
  generalize σ.cap kind = n at *
  generalize σ.taken kind = t at *
  go_enter Tryz.func170, Tryz.ntmps170
  go_wp2_with fail
  refine (HT.out _ HY.out).mono ?_
  rintro e w1 ⟨rfl, hK1, hG⟩
  have HK1 := hid hK1
  have HG := hid hG
  clear hK1 hG HT
  go_wp2
  go_loop [8, 9] (fun r i => ∃ k : Nat, k ≤ n ∧ i = .int .i64 k ∧ r = .int .i64 (runTo t k : Int) ∧ placeIn t size n 0 = placeIn t size (n - k) k) (fun _ i => n - (intOf i).toNat)
  case atStart => exact ⟨0, Nat.zero_le _, rfl, rfl, rfl⟩
  case round =>
    obtain ⟨k, hk, rfl, rfl, hp⟩ := hrel
    have HP := hid hp
    clear hp
    have hrk := runTo_le t k
    by_cases hlt : k < n
    · have q : w1.cell? ⟨w.heap.size, k, none⟩ = some (.bool (t k)) := by
        rw [cell_of_row w1 _ _ _ _ _ HG.out, bls_get _ _ _ hlt]
      have HR : Hid (runTo t (k + 1) = if t k then 0 else runTo t k + 1) := rfl
      obtain ⟨f, hf⟩ : ∃ f, n - k = f + 1 := ⟨n - k - 1, by omega⟩
      have HF := hid hf
      clear hf
      cases ht : t k
      · rw [ht] at q
        by_cases hr : runTo t k + 1 = size
        · have d : (((runTo t k : Nat) : Int) + 1 == (size : Int)) = true := by rw [beq_iff_eq]; omega
          have HE := hid hr
          clear hr
          go_wp2
          go_ret
          refine ⟨ret_int ?_, HK1.out⟩
          rw [HP.out, HF.out, placeIn_found _ _ _ _ (by rw [HR.out, ht]; exact HE.out)]
        · have d : (((runTo t k : Nat) : Int) + 1 == (size : Int)) = false := by rw [beq_eq_false_iff_ne]; omega
          have HE := hid hr
          clear hr
          go_wp2
          go_round
          case rel => exact ⟨k + 1, by omega, by go_num, by rw [HR.out, ht]; simp, by rw [HP.out, HF.out, placeIn_step _ _ _ _ (by rw [HR.out, ht]; exact HE.out)]; congr 1; have := HF.out; omega⟩
          case measure => simp [intOf]; omega
      · rw [ht] at q
        by_cases hr : 0 = size
        · have d : ((0 : Int) == (size : Int)) = true := by rw [beq_iff_eq]; omega
          have HE := hid hr
          clear hr
          go_wp2
          go_ret
          refine ⟨ret_int ?_, HK1.out⟩
          rw [HP.out, HF.out, placeIn_found _ _ _ _ (by rw [HR.out, ht]; exact HE.out)]
        · have d : ((0 : Int) == (size : Int)) = false := by rw [beq_eq_false_iff_ne]; omega
          have HE := hid hr
          clear hr
          go_wp2
          go_round
          case rel => exact ⟨k + 1, by omega, by go_num, by rw [HR.out, ht]; simp, by rw [HP.out, HF.out, placeIn_step _ _ _ _ (by rw [HR.out, ht]; exact HE.out)]; congr 1; have := HF.out; omega⟩
          case measure => simp [intOf]; omega
    · go_wp2
      go_ret
      refine ⟨ret_int ?_, HK1.out⟩
      rw [HP.out, show n - k = 0 by omega]
      rfl

end Go.Proofs.YticbbncdcannlaaGreat

/- The document's answer, walked: lay. -/
namespace Go.Proofs.YticbbncdcannlaaGreat
open Go.RowKit

theorem Tryz.infoPtrArr : (Tryz.prog.info? 178).map (fun i => (i.zero, i.size, i.bytes)) = some (some (.pointer none), 1, 8) := by kernel_rfl

/-- One array more. -/
def Sp.lay (σ : Sp) (a : Arr) : Sp := { σ with arrs := σ.arrs ++ [some a] }

set_option maxHeartbeats 400000 in
theorem ylay_many {T : Tags} {o : Nat} {w : World} {p : Nat} {L : YL} {σ : Sp} (hy : YAt T o w p L σ) (hok : σ.ok) (q : Nat) (hl : 40 ≤ σ.live) :
    Calls Tryz.prog 145 #[.pointer (some ⟨p, 0, none⟩), .pointer (some ⟨q, 0, none⟩)] w fun e w' => e = .returned (.tuple #[.int .i64 0, .int .i64 7]) ∧ w' = w := by
  have HY := hid hy
  have HO := hid hok
  clear hy hok
  go_enter Tryz.func145, Tryz.ntmps145
  go_wp2_with fail
  refine (ylive_calls HY.out HO.out).mono ?_
  rintro e w' ⟨rfl, rfl⟩
  go_wp2
  go_ret2
  exact ⟨rfl, rfl⟩

set_option maxRecDepth 100000 in
set_option maxHeartbeats 1000000 in
theorem ylay_row {w : World} {p q n : Nat} {v : Value} {xs : List Value} (live : Nat) (Q : World → Prop) (hQ : ∀ w, Q w → Calls Tryz.prog 169 #[.pointer (some ⟨p, 0, none⟩)] w fun e w' => e = .returned (.int .i64 (live : Int)) ∧ w' = w) (hq : Q w) (hl : live < 40)
    (hv : w.ownsRow 0 178 1 v n xs) (hn : n ≤ 100000000) (q6 : w.cell? ⟨p, 6, none⟩ = some v) (f6 : w.frozen? ⟨p, 6, none⟩ = false) (hne : v.ownBlock ≠ some p) :
    Calls Tryz.prog 145 #[.pointer (some ⟨p, 0, none⟩), .pointer (some ⟨q, 0, none⟩)] w fun e w' => e = .returned (.tuple #[.int .i64 ((n : Int) + 1), .int .i64 0]) ∧
      ∃ g cap w1, w1.ownsRow 0 178 1 (.slice (some ⟨g, 0, none⟩) (n + 1) cap) (n + 1) (xs ++ [ptr (some q)]) ∧ (w.alloc (.cells #[ptr (some q)] 178)).grownBy w1 v.ownBlock ∧ (v.ownBlock = some g ∨ g = w.heap.size + 1) ∧ w' = w1.setCell ⟨p, 6, none⟩ (.slice (some ⟨g, 0, none⟩) (n + 1) cap) := by
  have hp : p < w.heap.size := block_lt_of_cell q6
  obtain ⟨i, hi, hz0, hz1, hz2⟩ := info_parts Tryz.infoPtrArr
  have HQ := hid hQ
  have Hq := hid hq
  clear hQ hq
  have hform : v = .slice none 0 0 ∨ ∃ g cap, v = .slice (some ⟨g, 0, none⟩) n cap := by
    rcases row_form hv with ⟨h, _⟩ | ⟨g, cap, h, _⟩
    · exact .inl h
    · exact .inr ⟨g, cap, h⟩
  have h63 : Hid (n + 1 ≤ maxLen) := hid (by unfold maxLen; omega)
  have hbytes : Hid ((n + 1) * 8 ≤ 140737488355328) := hid (by omega)
  have h1 : Hid (∀ u ∈ [Value.pointer (some ⟨q, 0, none⟩)], u.oneCell' = true) := hid (by intro u hu; simp at hu; subst hu; rfl)
  have HV := hid hv
  have HNE : Hid (some p ≠ v.ownBlock) := hid (fun e => hne e.symm)
  clear hv hne
  rcases hform with rfl | ⟨g, cap, rfl⟩
  all_goals
    go_enter Tryz.func145, Tryz.ntmps145
    go_wp2_with fail
    refine (HQ.out _ Hq.out).mono ?_
    rintro e w' ⟨rfl, hw⟩
    obtain rfl := hw.symm
    go_wp2_with (at_builtin; refine wpList_append_lies _ rfl _ _ _ rfl 0 178 i (.pointer none) 1 8 Tryz.underlying150 hi hz0 hz1 hz2 rfl (by omega) _ n xs rfl (HV.out.alloc _) ⟨w.heap.size, 0, none⟩ 1 1 [.pointer (some ⟨q, 0, none⟩)] rfl rfl (cell_one_new _ _ _) h1.out (by omega) h63.out hbytes.out (Nat.zero_le _) (w.heap.size + 1) (by simp) ?_)
    intro g' cap' w1 hown1 hgrow hat hlt
    have c6 : w1.cell? ⟨p, 6, none⟩ = _ := hgrow.cell (by rw [World.cell?_alloc_lt _ _ _ hp]; exact q6) HNE.out
    have e6 : w1.frozen? ⟨p, 6, none⟩ = false := by
      rw [hgrow.frozen_far _ (by simp; omega) HNE.out, World.frozen?_alloc_past _ _ _ hp]; exact f6
    have HW := hid hown1
    have HG := hid hgrow
    have HA := hid hat
    clear hown1 hgrow hat
    go_wp2
    go_ret2
    exact ⟨rfl, g', cap', w1, HW.out, HG.out, HA.out, rfl⟩

/-- New blocks get this tag. -/
def retag (w : World) (T : Tags) (t : Nat × Nat) : Tags := fun b => if b < w.heap.size then T b else t
theorem retag_to (w : World) (T : Tags) (t : Nat × Nat) : TagsTo w T (retag w T t) := fun _ hb => if_pos hb
theorem retag_new {w : World} {T : Tags} {t : Nat × Nat} {b : Nat} (h : w.heap.size ≤ b) : retag w T t b = t := if_neg (by omega)

theorem ylay_calls {T : Tags} {o : Nat} {w : World} {p : Nat} {L : YL} {σ : Sp} (hy : YAt T o w p L σ) (hok : σ.ok) (q : Nat) (vs vc : Value) (a : Arr) (hq : YArr T o w q vs vc a) (hl : σ.live < 40) :
    Calls Tryz.prog 145 #[.pointer (some ⟨p, 0, none⟩), .pointer (some ⟨q, 0, none⟩)] w fun e w' => e = .returned (.tuple #[.int .i64 ((σ.arrs.length : Int) + 1), .int .i64 0]) ∧
      ∃ T' L', TagsTo w T T' ∧ YAt T' o w' p L' (σ.lay a) ∧ Kp (fun b => T b = (o, 1) ∨ T b = (o, 4)) w w' := by
  obtain ⟨-, -, -, -, -, q6, -⟩ := hy.cells
  have hp : p < w.heap.size := lt_of_heap hy.blk
  have hne : L.va.ownBlock ≠ some p := fun e => by
    have := hy.ta p e
    rw [hy.tp] at this
    simp at this
  refine (ylay_row (p := p) σ.live (fun w => YAt T o w p L σ) (fun w h => ylive_calls h hok) hy hl hy.va hok.many q6 (frozen_blk hy.blk) hne).mono ?_
  rintro e w' ⟨rfl, g, cap, w1, hown, hgrow, hat, rfl⟩
  have hk1 : Kp (fun b => T b = (o, 1) ∨ T b = (o, 4)) w w1 := ((Kp.refl _ _).alloc _).grown hgrow (fun k hk _ => .inr (hy.ta k hk))
  have hk : Kp (fun b => T b = (o, 1) ∨ T b = (o, 4)) w (w1.setCell ⟨p, 6, none⟩ (.slice (some ⟨g, 0, none⟩) (σ.arrs.length + 1) cap)) := hk1.setCell _ _ (fun _ => .inl hy.tp)
  have hp1 : w1.heap[p]? = w.heap[p]? := (hgrow.block p (by simp; omega) (fun e => hne e.symm)).trans (Below.heap_alloc w _ p hp)
  have hg : retag w T (o, 4) g = (o, 4) := by
    rcases hat with h | h
    · rw [retag_to w T _ g (own_lt hy.va h)]; exact hy.ta g h
    · exact retag_new (by omega)
  have hgp : g ≠ p := by
    intro e
    subst e
    rw [retag_to w T _ g hp, hy.tp] at hg
    simp at hg
  refine ⟨rfl, retag w T (o, 4), { L with va := .slice (some ⟨g, 0, none⟩) (σ.arrs.length + 1) cap, ps := L.ps ++ [some q] }, retag_to w T _, ?_, hk⟩
  have no : ∀ (b t : Nat), t ≠ 1 → t ≠ 4 → T b = (o, t) → ¬ (T b = (o, 1) ∨ T b = (o, 4)) := by
    intro b t h1 h4 ht h
    rw [ht] at h
    simp at h
    omega
  have tg := retag_to w T (o, 4)
  exact {
    blk := by
      have := heap_setCell_same w1 p 6 _ _ (.slice (some ⟨g, 0, none⟩) (σ.arrs.length + 1) cap) (hp1.trans hy.blk)
      rw [this]
      rfl
    c1 := hk.heap hy.c1 (no _ 2 (by omega) (by omega) hy.t1)
    c2 := hk.heap hy.c2 (no _ 3 (by omega) (by omega) hy.t2)
    va := by
      have := ownsRow_setCell_other hown (a := ⟨p, 6, none⟩) (by simp [Value.ownBlock]; exact hgp) (.slice (some ⟨g, 0, none⟩) (σ.arrs.length + 1) cap)
      simpa [Sp.lay] using this
    vb := row_kp hy.vb hk (fun b hb => no b 5 (by omega) (by omega) (hy.tb b hb))
    len := by simp [Sp.lay, hy.len]
    non := by
      intro i hi
      simp only [Sp.lay] at hi
      rw [List.getElem?_append] at hi
      split at hi
      · rename_i hlt
        rw [List.getElem?_append_left (by rw [hy.len]; exact hlt)]
        exact hy.non i hi
      · rename_i hlt
        cases hj : i - σ.arrs.length with
        | zero => rw [hj] at hi; simp at hi
        | succ j => rw [hj] at hi; simp at hi
    som := by
      intro i b hi
      simp only [Sp.lay] at hi
      rw [List.getElem?_append] at hi
      split at hi
      · rename_i hlt
        rw [List.getElem?_append_left (by rw [hy.len]; exact hlt)]
        obtain ⟨q', vs', vc', h1, h2⟩ := hy.som i b hi
        exact ⟨q', vs', vc', h1, (h2.tags' tg).kp hk (fun c hc => by
          intro hS
          have hc' : T c = (o, 6) ∨ w.heap.size ≤ c := by
            by_cases hlt' : c < w.heap.size
            · left; rw [← tg c hlt']; exact hc
            · right; omega
          rcases hc' with h | h
          · exact no c 6 (by omega) (by omega) h hS
          · rw [retag_new h] at hc; simp at hc)⟩
      · rename_i hlt
        cases hj : i - σ.arrs.length with
        | zero =>
          rw [hj] at hi
          simp at hi
          subst hi
          refine ⟨q, vs, vc, ?_, ?_⟩
          · rw [List.getElem?_append_right (by rw [hy.len]; omega), hy.len, hj]
            rfl
          · exact (hq.tags' tg).kp hk (fun c hc => by
              intro hS
              have hc' : T c = (o, 6) ∨ w.heap.size ≤ c := by
                by_cases hlt' : c < w.heap.size
                · left; rw [← tg c hlt']; exact hc
                · right; omega
              rcases hc' with h | h
              · exact no c 6 (by omega) (by omega) h hS
              · rw [retag_new h] at hc; simp at hc)
        | succ j => rw [hj] at hi; simp at hi
    tp := by rw [tg p hp]; exact hy.tp
    t1 := by rw [tg _ (lt_of_heap hy.c1)]; exact hy.t1
    t2 := by rw [tg _ (lt_of_heap hy.c2)]; exact hy.t2
    ta := by
      intro b hb
      simp [Value.ownBlock] at hb
      subst hb
      exact hg
    tb := fun b hb => by rw [tg b (own_lt hy.vb hb)]; exact hy.tb b hb }

end Go.Proofs.YticbbncdcannlaaGreat

/- The document's answer: what stores into a space's parts leave. -/
namespace Go.Proofs.YticbbncdcannlaaGreat
open Go.RowKit

/-- One cell written. -/
def Sp.put (σ : Sp) (kind : Int) (c : Nat) (v : Int) : Sp := if kind = 1 then { σ with v1 := σ.v1.set c v } else { σ with v2 := σ.v2.set c v }

def YL.gk (L : YL) (kind : Int) : Nat := if kind = 1 then L.g1 else L.g2

theorem ints_set (xs : List Int) (c : Nat) (v : Int) : (ints xs).toArray.setIfInBounds c (.int .i64 v) = (ints (xs.set c v)).toArray := by
  simp [ints, List.map_set]

theorem YAt.vcell {T : Tags} {o : Nat} {w : World} {p : Nat} {L : YL} {σ : Sp} (hy : YAt T o w p L σ) (kind : Int) (hk : kind = 1 ∨ kind = 2) : w.cell? ⟨p, 3 + kind.toNat, none⟩ = some (.slice (some ⟨L.gk kind, 0, none⟩) (σ.cap kind) (σ.cap kind)) := by
  obtain ⟨-, -, -, q1, q2, -⟩ := hy.cells
  rcases hk with rfl | rfl
  · exact q1
  · exact q2

theorem Sp.ok.vals {σ : Sp} (h : σ.ok) (kind : Int) : (σ.vals kind).length = σ.cap kind := by
  unfold Sp.vals Sp.cap
  split
  · exact h.v1
  · exact h.v2

theorem YAt.vblk {T : Tags} {o : Nat} {w : World} {p : Nat} {L : YL} {σ : Sp} (hy : YAt T o w p L σ) (kind : Int) (hk : kind = 1 ∨ kind = 2) : w.heap[L.gk kind]? = some (.cells (ints (σ.vals kind)).toArray 3 (0, 0)) := by
  rcases hk with rfl | rfl
  · exact hy.c1
  · exact hy.c2

theorem YAt.vat {T : Tags} {o : Nat} {w : World} {p : Nat} {L : YL} {σ : Sp} (hy : YAt T o w p L σ) (hok : σ.ok) (kind : Int) (hk : kind = 1 ∨ kind = 2) (c : Nat) (hc : c < σ.cap kind) : w.cell? ⟨L.gk kind, c, none⟩ = some (.int .i64 (nth (σ.vals kind) c)) := by
  rw [cell_of_row w _ _ _ _ _ (hy.vblk kind hk)]
  have := ints_get (xs := σ.vals kind) (j := c) (by rw [hok.vals kind]; exact hc)
  simpa using this

/-- A cell of a store is written: what turns is that store's block alone. -/
theorem YAt.put {T : Tags} {o : Nat} {w : World} {p : Nat} {L : YL} {σ : Sp} (hy : YAt T o w p L σ) (kind : Int) (hk : kind = 1 ∨ kind = 2) (c : Nat) (v : Int) :
    YAt T o (w.setCell ⟨L.gk kind, c, none⟩ (.int .i64 v)) p L (σ.put kind c v) ∧ Kp (fun b => T b = (o, 2) ∨ T b = (o, 3)) w (w.setCell ⟨L.gk kind, c, none⟩ (.int .i64 v)) := by
  have hkp : Kp (fun b => T b = (o, 2) ∨ T b = (o, 3)) w (w.setCell ⟨L.gk kind, c, none⟩ (.int .i64 v)) := by
    refine (Kp.refl _ _).setCell _ _ (fun _ => ?_)
    rcases hk with rfl | rfl
    · exact .inl hy.t1
    · exact .inr hy.t2
  refine ⟨?_, hkp⟩
  have no : ∀ (b t : Nat), t ≠ 2 → t ≠ 3 → T b = (o, t) → ¬ (T b = (o, 2) ∨ T b = (o, 3)) := by
    intro b t h1 h4 ht h
    rw [ht] at h
    simp at h
    omega
  have n12 : L.g1 ≠ L.g2 := fun e => by
    have := hy.t1
    rw [e, hy.t2] at this
    simp at this
  have hva := row_kp hy.va hkp (fun b hb => no b 4 (by omega) (by omega) (hy.ta b hb))
  have hvb := row_kp hy.vb hkp (fun b hb => no b 5 (by omega) (by omega) (hy.tb b hb))
  have hsom : ∀ (i : Nat) (a : Arr), σ.arrs[i]? = some (some a) → ∃ q vs vc, L.ps[i]? = some (some q) ∧ YArr T o (w.setCell ⟨L.gk kind, c, none⟩ (.int .i64 v)) q vs vc a := by
    intro i a ha
    obtain ⟨q, vs, vc, h1, h2⟩ := hy.som i a ha
    exact ⟨q, vs, vc, h1, h2.kp hkp (fun b hb => no b 6 (by omega) (by omega) hb)⟩
  have hblk := hkp.heap hy.blk (no p 1 (by omega) (by omega) hy.tp)
  rcases hk with rfl | rfl
  · exact ⟨hblk, by
      have := heap_setCell_same w L.g1 c _ _ (.int .i64 v) hy.c1
      rw [ints_set] at this
      exact this, by
      have := heap_setCell_other w ⟨L.g1, c, none⟩ L.g2 (.int .i64 v) (fun e => n12 e.symm)
      exact this.trans hy.c2, hva, hvb, hy.len, hy.non, hsom, hy.tp, hy.t1, hy.t2, hy.ta, hy.tb⟩
  · exact ⟨hblk, by
      have := heap_setCell_other w ⟨L.g2, c, none⟩ L.g1 (.int .i64 v) n12
      exact this.trans hy.c1, by
      have := heap_setCell_same w L.g2 c _ _ (.int .i64 v) hy.c2
      rw [ints_set] at this
      exact this, hva, hvb, hy.len, hy.non, hsom, hy.tp, hy.t1, hy.t2, hy.ta, hy.tb⟩

/-- One buffer more. -/
def Sp.more (σ : Sp) (b : Buf) : Sp := { σ with bufs := σ.bufs ++ [b] }

theorem YAt.more {T : Tags} {o : Nat} {w w1 : World} {p : Nat} {L : YL} {σ : Sp} (hy : YAt T o w p L σ) (x : Obj) (b : Buf) (g cap : Nat)
    (hown : w1.ownsRow 0 213 3 (.slice (some ⟨g, 0, none⟩) (σ.bufs.length + 1) cap) (σ.bufs.length + 1) (σ.bufs.flatMap Buf.row ++ b.row)) (hgrow : (w.alloc x).grownBy w1 L.vb.ownBlock) (hat : L.vb.ownBlock = some g ∨ g = w.heap.size + 1) :
    YAt (retag w T (o, 5)) o (w1.setCell ⟨p, 7, none⟩ (.slice (some ⟨g, 0, none⟩) (σ.bufs.length + 1) cap)) p { L with vb := .slice (some ⟨g, 0, none⟩) (σ.bufs.length + 1) cap } (σ.more b) ∧
      Kp (fun b => T b = (o, 1) ∨ T b = (o, 5)) w (w1.setCell ⟨p, 7, none⟩ (.slice (some ⟨g, 0, none⟩) (σ.bufs.length + 1) cap)) := by
  have hp : p < w.heap.size := lt_of_heap hy.blk
  have hne : L.vb.ownBlock ≠ some p := fun e => by
    have := hy.tb p e
    rw [hy.tp] at this
    simp at this
  have hk1 : Kp (fun b => T b = (o, 1) ∨ T b = (o, 5)) w w1 := ((Kp.refl _ _).alloc _).grown hgrow (fun k hk _ => .inr (hy.tb k hk))
  have hk : Kp (fun b => T b = (o, 1) ∨ T b = (o, 5)) w (w1.setCell ⟨p, 7, none⟩ (.slice (some ⟨g, 0, none⟩) (σ.bufs.length + 1) cap)) := hk1.setCell _ _ (fun _ => .inl hy.tp)
  have hp1 : w1.heap[p]? = w.heap[p]? := (hgrow.block p (by simp; omega) (fun e => hne e.symm)).trans (Below.heap_alloc w _ p hp)
  have hg : retag w T (o, 5) g = (o, 5) := by
    rcases hat with h | h
    · rw [retag_to w T _ g (own_lt hy.vb h)]; exact hy.tb g h
    · exact retag_new (by omega)
  have hgp : g ≠ p := by
    intro e
    subst e
    rw [retag_to w T _ g hp, hy.tp] at hg
    simp at hg
  have no : ∀ (b t : Nat), t ≠ 1 → t ≠ 5 → T b = (o, t) → ¬ (T b = (o, 1) ∨ T b = (o, 5)) := by
    intro b t h1 h4 ht h
    rw [ht] at h
    simp at h
    omega
  have tg := retag_to w T (o, 5)
  refine ⟨?_, hk⟩
  exact {
    blk := by
      have := heap_setCell_same w1 p 7 _ _ (.slice (some ⟨g, 0, none⟩) (σ.bufs.length + 1) cap) (hp1.trans hy.blk)
      rw [this]
      rfl
    c1 := hk.heap hy.c1 (no _ 2 (by omega) (by omega) hy.t1)
    c2 := hk.heap hy.c2 (no _ 3 (by omega) (by omega) hy.t2)
    vb := by
      have := ownsRow_setCell_other hown (a := ⟨p, 7, none⟩) (by simp [Value.ownBlock]; exact hgp) (.slice (some ⟨g, 0, none⟩) (σ.bufs.length + 1) cap)
      simpa [Sp.more] using this
    va := row_kp hy.va hk (fun b hb => no b 4 (by omega) (by omega) (hy.ta b hb))
    len := hy.len
    non := hy.non
    som := by
      intro i b hi
      obtain ⟨q', vs', vc', h1, h2⟩ := hy.som i b hi
      exact ⟨q', vs', vc', h1, (h2.tags' tg).kp hk (fun c hc => by
          intro hS
          have hc' : T c = (o, 6) ∨ w.heap.size ≤ c := by
            by_cases hlt' : c < w.heap.size
            · left; rw [← tg c hlt']; exact hc
            · right; omega
          rcases hc' with h | h
          · exact no c 6 (by omega) (by omega) h hS
          · rw [retag_new h] at hc; simp at hc)⟩
    tp := by rw [tg p hp]; exact hy.tp
    t1 := by rw [tg _ (lt_of_heap hy.c1)]; exact hy.t1
    t2 := by rw [tg _ (lt_of_heap hy.c2)]; exact hy.t2
    tb := by
      intro b hb
      simp [Value.ownBlock] at hb
      subst hb
      exact hg
    ta := fun b hb => by rw [tg b (own_lt hy.va hb)]; exact hy.ta b hb }

end Go.Proofs.YticbbncdcannlaaGreat

/- Laws on append at lists of ints, in the walk's form. -/
namespace Go.Proofs.YticbbncdcannlaaGreat
open Go.RowKit

theorem run_append_empty (t ty e : TypeId) {P : Program} (i : TypeInfo) (ht : P.underlying t = some (.slice e)) (hi : P.info? e = some i) (a b : Option Addr) (n c d : Nat) (hn : n ≤ c) (W : World) :
    (Builtin.append_ #[t, t] ty #[.slice a n c, .slice b 0 d]).run P W = .ok (.slice a n c) W := by
  have hf : ∀ W, (Builtin.firstCells i.size 0 (.slice b 0 d)).run P W = .ok #[] W := by
    intro W
    cases b with
    | none => rfl
    | some b => simp [Builtin.firstCells, loadCells, loadCellsFrom]
  cases a with
  | none => simp [Builtin.append_, run_underlying ht, sizeOf, typeInfo, hi, Builtin.lenOf, hn, hf]
  | some a => simp [Builtin.append_, run_underlying ht, sizeOf, typeInfo, hi, Builtin.lenOf, hn, hf, storeCells]

theorem OwI.form {w : World} {ao : Option Addr} {n c : Nat} {xs : List Int} (h : OwI w (.slice ao n c) xs) : n = xs.length ∧ n ≤ c := by
  rcases h.2 with ⟨h1, h0⟩ | ⟨g, cap, cur, h1, _, hg, hn, _, hs, ht⟩
  · simp at h1; omega
  · simp at h1; omega

/-- append(s, x...), both lists of ints, s one's own (or nil): onto its own block, or into a new one. -/
theorem run_app (w : World) (ty : TypeId) (ao : Option Addr) (n c : Nat) (xs ys : List Int) (vx : Value) (hown : OwI w (.slice ao n c) xs) (hr : RdI w vx ys) (hb : n + ys.length ≤ 1000000000000) :
    ∃ ao' c' w', (Builtin.append_ #[26, 26] ty #[.slice ao n c, vx]).run Tryz.prog w = .ok (.slice ao' (n + ys.length) c') w' ∧ OwI w' (.slice ao' (n + ys.length) c') (xs ++ ys) ∧
      w.grownBy w' (Value.slice ao n c).ownBlock ∧ (∀ b, (Value.slice ao' (n + ys.length) c').ownBlock = some b → (Value.slice ao n c).ownBlock = some b ∨ b = w.heap.size) := by
  obtain ⟨i, hi, hz0, hz1, hz2⟩ := info_parts Tryz.infoInt
  obtain ⟨hn, hnc⟩ := hown.form
  obtain ⟨a, cap, rfl, hr⟩ := hr
  by_cases hy : ys = []
  · subst hy
    refine ⟨ao, c, w, run_append_empty _ _ _ i Tryz.underlying26 hi ao a n c cap hnc w, ?_, World.grownBy.refl _ _, fun b hb => .inl hb⟩
    simpa using hown
  · obtain ⟨g, o, rfl, hc⟩ := hr hy
    have hown' : w.ownsRow 0 3 1 (.slice ao n c) n (ints xs) := by rw [hn]; rw [hn] at hown; exact hown
    have hpos : 0 < ys.length := List.length_pos_iff.2 hy
    obtain ⟨g', cap', w', h1, h2, h3, h4, h5⟩ := run_append_lies (P := Tryz.prog) w 26 ty 0 3 i (.int .i64 0) 1 8 Tryz.underlying26 hi hz0 hz1 hz2 rfl (by omega) _ n (ints xs) hown' ⟨g, o, none⟩ ys.length cap (ints ys) (by rw [ints_length, Nat.mul_one])
      (by
        intro j u hu
        have hj : j < ys.length := by
          rcases Nat.lt_or_ge j ys.length with h | h
          · exact h
          · rw [List.getElem?_eq_none (by rw [ints_length]; exact h)] at hu; cases hu
        rw [ints_get hj] at hu
        have : (⟨g, o, none⟩ : Addr).add j = ⟨g, o + j, none⟩ := by unfold Addr.add; split <;> simp_all
        rw [this, hc j hj]
        exact hu) (ints_cell ys) hpos (by unfold maxLen; omega) (by omega) (Nat.zero_le _) w.heap.size rfl
    refine ⟨some ⟨g', 0, none⟩, cap', w', h1, ?_, h3, ?_⟩
    · unfold OwI
      rw [List.length_append, ← hn, ints_append]
      exact h2
    · intro b hb
      simp [Value.ownBlock] at hb
      subst hb
      exact h4

theorem wp_app {o : Oper} {a : Act} {w : World} {K : Act → World → Prop} {Q : Exit → Act → World → Prop} (s x : Operand)
    (ho : o.op = .call { callee := .builtin .append, args := #[s, x], argTypes := #[26, 26] })
    (ao : Option Addr) (n c : Nat) (xs ys : List Int) (vx : Value) (hs : a.eval s = .slice ao n c) (hx : a.eval x = vx) (hown : OwI w (.slice ao n c) xs) (hr : RdI w vx ys) (hb : n + ys.length ≤ 1000000000000) (H : Nat) (hH : w.heap.size = H)
    (h : ∀ ao' c' w', OwI w' (.slice ao' (n + ys.length) c') (xs ++ ys) → w.grownBy w' (Value.slice ao n c).ownBlock → (∀ b, (Value.slice ao' (n + ys.length) c').ownBlock = some b → (Value.slice ao n c).ownBlock = some b ∨ b = H) → K (a.put o.dst (.slice ao' (n + ys.length) c')) w') : o.wp Tryz.prog a w K Q := by
  obtain ⟨ao', c', w', hrun, h2, h3, h4⟩ := run_app w o.type ao n c xs ys vx hown hr hb
  unfold Oper.wp execOp
  simp only [ho, resolve, invoke, builtin, Sem.run_bind, Sem.run_pure, Result.andThen_ok, List.map_toArray, List.map_cons, List.map_nil, hs, hx, hrun]
  exact h ao' c' w' h2 h3 (by rw [← hH]; exact h4)

theorem wpList_app {ops : Array Oper} {rest : List Oper} {o : Oper} {a : Act} {w : World} {Q : Exit → Act → World → Prop} (hgd : o.guard = none) (s x : Operand)
    (ho : o.op = .call { callee := .builtin .append, args := #[s, x], argTypes := #[26, 26] })
    (ao : Option Addr) (n c : Nat) (xs ys : List Int) (vx : Value) (hs : a.eval s = .slice ao n c) (hx : a.eval x = vx) (hown : OwI w (.slice ao n c) xs) (hr : RdI w vx ys) (hb : n + ys.length ≤ 1000000000000) (H : Nat) (hH : w.heap.size = H)
    (h : ∀ ao' c' w', OwI w' (.slice ao' (n + ys.length) c') (xs ++ ys) → w.grownBy w' (Value.slice ao n c).ownBlock → (∀ b, (Value.slice ao' (n + ys.length) c').ownBlock = some b → (Value.slice ao n c).ownBlock = some b ∨ b = H) → wpList Tryz.prog ops Q rest (a.put o.dst (.slice ao' (n + ys.length) c')) w') : wpList Tryz.prog ops Q (o :: rest) a w :=
  wpList_plain hgd fun _ hK => wp_app s x ho ao n c xs ys vx hs hx hown hr hb H hH fun ao' c' w' h2 h3 h4 => hK _ _ (h ao' c' w' h2 h3 h4)

/-- At a step of a region that draws its order. -/
theorem step_app {ops : Array Oper} {o : Oper} {a : Act} {w : World} {K : Act → World → Prop} {Q : Exit → Act → World → Prop} {E : Prop} (hgd : o.guard = none) (s x : Operand)
    (ho : o.op = .call { callee := .builtin .append, args := #[s, x], argTypes := #[26, 26] })
    (ao : Option Addr) (n c : Nat) (xs ys : List Int) (vx : Value) (hs : a.eval s = .slice ao n c) (hx : a.eval x = vx) (hown : OwI w (.slice ao n c) xs) (hr : RdI w vx ys) (hb : n + ys.length ≤ 1000000000000) (H : Nat) (hH : w.heap.size = H)
    (h : ∀ ao' c' w', OwI w' (.slice ao' (n + ys.length) c') (xs ++ ys) → w.grownBy w' (Value.slice ao n c).ownBlock → (∀ b, (Value.slice ao' (n + ys.length) c').ownBlock = some b → (Value.slice ao n c).ownBlock = some b ∨ b = H) → K (a.put o.dst (.slice ao' (n + ys.length) c')) w') :
    if Region.wanted o (yielded ops a.tmps) = true then Oper.wp Tryz.prog o a w K Q else E := by
  have hw : Region.wanted o (yielded ops a.tmps) = true := by simp [Region.wanted, hgd]
  rw [if_pos hw]
  exact wp_app s x ho ao n c xs ys vx hs hx hown hr hb H hH h

theorem OwI.drew {w : World} {v : Value} {xs : List Int} (h : OwI w v xs) : OwI w.drew v xs := h
theorem RdI.drew {w : World} {v : Value} {xs : List Int} (h : RdI w v xs) : RdI w.drew v xs := h

theorem grown_heap {w w' : World} {x o : Obj} {b : Nat} {row : Option Nat} (hb : w.heap[b]? = some o) (hg : (w.alloc x).grownBy w' row) (hne : some b ≠ row) : w'.heap[b]? = some o :=
  (hg.block b (by simp; exact Nat.lt_succ_of_lt (lt_of_heap hb)) hne).trans ((Below.heap_alloc w x b (lt_of_heap hb)).trans hb)

theorem OwI.alloc {w : World} {v : Value} {xs : List Int} (h : OwI w v xs) (x : Obj) : OwI (w.alloc x) v xs := World.ownsRow.alloc h x
theorem OwI.grown {w w' : World} {v : Value} {xs : List Int} {row : Option Nat} (h : OwI w v xs) (hg : w.grownBy w' row) (hne : ∀ b, v.ownBlock = some b → some b ≠ row) : OwI w' v xs := by
  refine World.ownsRow.kept h hg ?_
  cases hv : v.ownBlock with
  | none => exact .inl rfl
  | some b => exact .inr (hne b hv)
theorem OwI.setCell {w : World} {v : Value} {xs : List Int} (h : OwI w v xs) {a : Addr} (u : Value) (hne : v.ownBlock ≠ some a.block) : OwI (w.setCell a u) v xs := ownsRow_setCell_other h hne u
theorem OwI.lt {w : World} {v : Value} {xs : List Int} (h : OwI w v xs) {b : Nat} (hb : v.ownBlock = some b) : b < w.heap.size := own_lt h hb

/-- The list that one number is appended by. -/
theorem RdI.one (w : World) (x : Int) : RdI (w.alloc (.cells #[.int .i64 x] 3)) (.slice (some ⟨w.heap.size, 0, none⟩) 1 1) [x] :=
  ⟨some ⟨w.heap.size, 0, none⟩, 1, rfl, fun _ => ⟨w.heap.size, 0, rfl, fun j hj => by
    have : j = 0 := by simpa using hj
    subst this
    simp [nth]⟩⟩

end Go.Proofs.YticbbncdcannlaaGreat

/- The law's own small functions, walked: same. -/
namespace Go.Proofs.YticbbncdcannlaaGreat
open Go.RowKit

set_option maxHeartbeats 400000 in
theorem same_len (a b : Option Addr) (n m c d : Nat) (w : World) (h : n ≠ m) :
    Calls Tryz.prog 118 #[.slice a n c, .slice b m d] w fun e w' => e = .returned (.bool false) ∧ w' = w := by
  have h1 : ((n : Int) != (m : Int)) = true := by rw [bne_iff_ne]; omega
  go_enter Tryz.func118, Tryz.ntmps118
  go_wp2
  go_ret
  exact ⟨rfl, rfl⟩

set_option maxHeartbeats 400000 in
theorem same_nil (a b : Option Addr) (c d : Nat) (w : World) :
    Calls Tryz.prog 118 #[.slice a 0 c, .slice b 0 d] w fun e w' => e = .returned (.bool true) ∧ w' = w := by
  go_enter Tryz.func118, Tryz.ntmps118
  go_wp2
  refine wp_loop_rounds 1 ?_
  rw [rounds_succ]
  go_wp2
  go_ret
  exact ⟨rfl, rfl⟩

set_option maxHeartbeats 400000 in
theorem same_any (a1 o1 c1 a2 o2 c2 : Nat) (xs ys : List Int) (w : World) (hlen : xs.length = ys.length) (hbig : xs.length ≤ 1000000000000)
    (h1 : ∀ j, j < xs.length → w.cell? ⟨a1, o1 + j, none⟩ = some (.int .i64 (nth xs j)))
    (h2 : ∀ j, j < ys.length → w.cell? ⟨a2, o2 + j, none⟩ = some (.int .i64 (nth ys j))) :
    Calls Tryz.prog 118 #[.slice (some ⟨a1, o1, none⟩) xs.length c1, .slice (some ⟨a2, o2, none⟩) ys.length c2] w fun e w' => e = .returned (.bool (decide (xs = ys))) ∧ Kp0 w w' := by
  have hl : ((xs.length : Int) != (ys.length : Int)) = false := by rw [hlen]; simp
  go_enter Tryz.func118, Tryz.ntmps118
  go_wp2
  go_loopw [5] (fun i w' => ∃ k : Nat, k ≤ xs.length ∧ i = .int .i64 k ∧ (∀ j, j < k → nth xs j = nth ys j) ∧ ∃ n, w' = w.drewN n) (fun i _ => xs.length - (intOf i).toNat)
  case atStart => exact ⟨0, Nat.zero_le _, rfl, by intro j hj; omega, 0, rfl⟩
  case round =>
    obtain ⟨k, hk, rfl, hpre, n, rfl⟩ := hrel
    by_cases hlt : k < xs.length
    · have q1 := h1 k hlt
      have q2 := h2 k (by omega)
      have e1 : (0:Int) ≤ (k : Int) := by omega
      by_cases he : nth xs k = nth ys k
      · have hb : (nth xs k != nth ys k) = false := by simp [he]
        go_wp2
        go_quiet (fail)
        go_wp2
        go_roundw
        case rel => exact ⟨k + 1, by omega, by go_num, fun j hj => by rcases Nat.lt_succ_iff_lt_or_eq.1 hj with h | h; exact hpre j h; subst h; exact he, _, rfl⟩
        case measure => simp [intOf]; omega
      · have hb : (nth xs k != nth ys k) = true := by simp [he]
        go_wp2
        go_quiet (fail)
        go_wp2
        go_ret
        refine ⟨?_, ((Kp.refl _ _).drewN _).drewN _⟩
        have hd : decide (xs = ys) = false := decide_eq_false (fun e => he (by rw [e]))
        rw [hd]
        rfl
    · go_wp2
      go_ret
      refine ⟨?_, (Kp.refl _ _).drewN n⟩
      have hd : decide (xs = ys) = true := decide_eq_true (ext_nth hlen (fun j hj => hpre j (by omega)))
      rw [hd]
      rfl

/-- same: are two lists of ints alike? -/
theorem same_calls (va vb : Value) (xs ys : List Int) (w : World) (ha : RdI w va xs) (hb : RdI w vb ys) (hbig : xs.length ≤ 1000000000000) :
    Calls Tryz.prog 118 #[va, vb] w fun e w' => e = .returned (.bool (decide (xs = ys))) ∧ Kp0 w w' := by
  obtain ⟨a, c, rfl, ha⟩ := ha
  obtain ⟨b, d, rfl, hb⟩ := hb
  by_cases hl : xs.length = ys.length
  · by_cases hx : xs = []
    · subst hx
      have hy : ys = [] := List.length_eq_zero_iff.1 hl.symm
      subst hy
      refine (same_nil a b c d w).mono ?_
      rintro e w' ⟨rfl, rfl⟩
      exact ⟨rfl, Kp0.refl _⟩
    · obtain ⟨g, o, rfl, ha'⟩ := ha hx
      obtain ⟨g', o', rfl, hb'⟩ := hb (fun e => hx (List.length_eq_zero_iff.1 (by rw [hl, e]; rfl)))
      exact same_any g o c g' o' d xs ys w hl hbig ha' hb'
  · refine (same_len a b _ _ c d w hl).mono ?_
    rintro e w' ⟨rfl, rfl⟩
    exact ⟨by rw [decide_eq_false (fun e => hl (by rw [e]))], Kp0.refl _⟩

end Go.Proofs.YticbbncdcannlaaGreat

/- append onto a list of ints: in its own block, or into a new one and the old one as it was. -/
namespace Go.Proofs.YticbbncdcannlaaGreat
open Go.RowKit

theorem run_app_or (w : World) (ty : TypeId) (ao : Option Addr) (n c : Nat) (xs ys : List Int) (vx : Value) (hown : OwI w (.slice ao n c) xs) (hr : RdI w vx ys) (hne : ys ≠ []) (hb : n + ys.length ≤ 1000000000000) :
    ∃ ao' c' w', (Builtin.append_ #[26, 26] ty #[.slice ao n c, vx]).run Tryz.prog w = .ok (.slice ao' (n + ys.length) c') w' ∧ OwI w' (.slice ao' (n + ys.length) c') (xs ++ ys) ∧
      ((ao' = ao ∧ w.grownBy w' (Value.slice ao n c).ownBlock) ∨ (ao' = some ⟨w.heap.size, 0, none⟩ ∧ w.grownBy w' none)) := by
  obtain ⟨ao', c', w', h1, h2, h3, h4⟩ := run_app w ty ao n c xs ys vx hown hr hb
  refine ⟨ao', c', w', h1, h2, ?_⟩
  obtain ⟨i, hi, hz0, hz1, hz2⟩ := info_parts Tryz.infoInt
  obtain ⟨hn, hnc⟩ := hown.form
  obtain ⟨a, cap, rfl, hr⟩ := hr
  obtain ⟨g, o, rfl, hc⟩ := hr hne
  have hpos : 0 < ys.length := List.length_pos_iff.2 hne
  have hnews : ∀ j u, (ints ys)[j]? = some u → w.cell? ((⟨g, o, none⟩ : Addr).add j) = some u := by
    intro j u hu
    have hj : j < ys.length := by
      rcases Nat.lt_or_ge j ys.length with h | h
      · exact h
      · rw [List.getElem?_eq_none (by rw [ints_length]; exact h)] at hu; cases hu
    rw [ints_get hj] at hu
    have : (⟨g, o, none⟩ : Addr).add j = ⟨g, o + j, none⟩ := by unfold Addr.add; split <;> simp_all
    rw [this, hc j hj]
    exact hu
  have hl : (ints ys).length = ys.length * i.size := by rw [ints_length, hz1, Nat.mul_one]
  have hown' : w.ownsRow 0 3 1 (.slice ao n c) n (ints xs) := by rw [hn]; rw [hn] at hown; exact hown
  rcases hown'.2 with ⟨hv, h0⟩ | ⟨g', cap', cur, hv, hbg, hg, hnc', hcm, hcs, htake⟩
  · right
    simp at hv
    obtain ⟨rfl, rfl, rfl⟩ := hv
    have he := run_append_nil (P := Tryz.prog) w 26 ty 3 i (.int .i64 0) Tryz.underlying26 hi hz0 ⟨g, o, none⟩ ys.length cap (ints ys) hl hnews hpos (by omega) (by rw [hz2]; omega)
    rw [he] at h1
    simp only [Result.ok.injEq, Value.slice.injEq] at h1
    obtain ⟨⟨e1, _, _⟩, e2⟩ := h1
    exact ⟨e1.symm, by rw [← e2]; exact ⟨rfl, rfl, rfl, by simp, fun k hk _ => Below.heap_alloc w.drew _ k hk⟩⟩
  · simp at hv
    obtain ⟨rfl, rfl⟩ := hv
    by_cases hroom : n + ys.length ≤ c
    · left
      refine ⟨?_, h3⟩
      have he := run_append_room (P := Tryz.prog) w 26 ty 3 i Tryz.underlying26 hi g' n c cur hg ⟨g, o, none⟩ ys.length cap (ints ys) hl hnews (ints_cell ys) hroom (by rw [hz1, ints_length, hcs]; omega)
      rw [he] at h1
      simp only [Result.ok.injEq, Value.slice.injEq] at h1
      exact h1.1.1.symm
    · right
      have holds : ∀ j u, (ints xs)[j]? = some u → w.cell? ((⟨g', 0, none⟩ : Addr).add j) = some u := hown'.cells (g := g') rfl
      have he := run_append_grow (P := Tryz.prog) w 26 ty 3 i (.int .i64 0) Tryz.underlying26 hi hz0 ⟨g', 0, none⟩ n c (ints xs) (by rw [ints_length, hz1, hn, Nat.mul_one]) holds ⟨g, o, none⟩ ys.length cap (ints ys) hl hnews (by omega) (by omega) (growslice_fits (by omega) (by rw [hz2]; omega))
      rw [he] at h1
      simp only [Result.ok.injEq, Value.slice.injEq] at h1
      obtain ⟨⟨e1, _, _⟩, e2⟩ := h1
      exact ⟨e1.symm, by rw [← e2]; exact ⟨rfl, rfl, rfl, by simp, fun k hk _ => Below.heap_alloc w.drew _ k hk⟩⟩

theorem wpList_app_or {ops : Array Oper} {rest : List Oper} {o : Oper} {a : Act} {w : World} {Q : Exit → Act → World → Prop} (hgd : o.guard = none) (s x : Operand)
    (ho : o.op = .call { callee := .builtin .append, args := #[s, x], argTypes := #[26, 26] })
    (ao : Option Addr) (n c : Nat) (xs ys : List Int) (vx : Value) (hs : a.eval s = .slice ao n c) (hx : a.eval x = vx) (hown : OwI w (.slice ao n c) xs) (hr : RdI w vx ys) (hne : ys ≠ []) (hb : n + ys.length ≤ 1000000000000) (H : Nat) (hH : w.heap.size = H)
    (h : ∀ ao' c' w', OwI w' (.slice ao' (n + ys.length) c') (xs ++ ys) → ((ao' = ao ∧ w.grownBy w' (Value.slice ao n c).ownBlock) ∨ (ao' = some ⟨H, 0, none⟩ ∧ w.grownBy w' none)) → wpList Tryz.prog ops Q rest (a.put o.dst (.slice ao' (n + ys.length) c')) w') : wpList Tryz.prog ops Q (o :: rest) a w :=
  wpList_plain hgd fun _ hK => by
    obtain ⟨ao', c', w', hrun, h2, h3⟩ := run_app_or w o.type ao n c xs ys vx hown hr hne hb
    unfold Oper.wp execOp
    simp only [ho, resolve, invoke, builtin, Sem.run_bind, Sem.run_pure, Result.andThen_ok, List.map_toArray, List.map_cons, List.map_nil, hs, hx, hrun]
    exact hK _ _ (h ao' c' w' h2 (by rw [← hH]; exact h3))

end Go.Proofs.YticbbncdcannlaaGreat

/- The program's package grid, walked: Volume, Has, List. -/
namespace Go.Proofs.YticbbncdcannlaaGreat
open Go.RowKit

/-- A shape's cells. -/
def shC (l : List Int) : List Value := [.int .i64 (nth l 0), .int .i64 (nth l 1), .int .i64 (nth l 2), .int .i64 (nth l 3), .int .i64 (l.length : Int)]

/-- The cells of a new block. -/
theorem new_cell (w : World) (cs : Array Value) (t : TypeId) (r : Nat × Nat) (k : Nat) : (w.alloc (.cells cs t r)).cell? ⟨w.heap.size, k, none⟩ = cs[k]? := by
  rw [cell_of_row _ _ _ _ _ _ (heap_alloc_new w _)]

/-- A shape in a new block. -/
theorem sh_cells (w : World) (l : List Int) (n : Nat) (t : TypeId) (k : Nat) (h : k < 4) :
    (w.alloc (.cells #[.int .i64 (nth l 0), .int .i64 (nth l 1), .int .i64 (nth l 2), .int .i64 (nth l 3), .int .i64 (n : Int)] t)).cell? ⟨w.heap.size, k, none⟩ = some (.int .i64 (nth l k)) := by
  rw [new_cell]
  match k, h with
  | 0, _ => rfl
  | 1, _ => rfl
  | 2, _ => rfl
  | 3, _ => rfl

set_option maxRecDepth 100000 in
set_option maxHeartbeats 400000 in
theorem xvolume_calls (l : List Int) (w : World) (hs : sized l) (hl : l.length ≤ 4) :
    Calls Tryz.prog 57 #[.agg (shC l).toArray] w fun e w' => e = .returned (.int .i64 (vol l)) ∧ Kp0 w w' := by
  have HL := hid hl
  have HS := hid hs
  obtain ⟨n, hn⟩ : ∃ n, n = l.length := ⟨_, rfl⟩
  have hn4 : n ≤ 4 := by omega
  unfold shC
  rw [← hn]
  have HN := hid hn
  clear hn hl hs
  go_enter Tryz.func57, Tryz.ntmps57
  go_wp2
  have HC : Hid (∀ k, k < 4 → (w.alloc (.cells #[.int .i64 (nth l 0), .int .i64 (nth l 1), .int .i64 (nth l 2), .int .i64 (nth l 3), .int .i64 (n : Int)] 104)).cell? ⟨w.heap.size, k, none⟩ = some (.int .i64 (nth l k))) := fun k h => sh_cells w l n _ k h
  have HK : Hid (Kp0 w (w.alloc (.cells #[.int .i64 (nth l 0), .int .i64 (nth l 1), .int .i64 (nth l 2), .int .i64 (nth l 3), .int .i64 (n : Int)] 104))) := (Kp.refl _ w).alloc _
  generalize w.alloc (.cells #[.int .i64 (nth l 0), .int .i64 (nth l 1), .int .i64 (nth l 2), .int .i64 (nth l 3), .int .i64 (n : Int)] 104) = W at HC HK ⊢
  go_loop [3, 7, 4] (fun v i _ => ∃ k : Nat, k ≤ n ∧ i = .int .i64 k ∧ v = .int .i64 (vol (l.take k))) (fun _ i _ => n - (intOf i).toNat)
  case atStart => exact ⟨0, Nat.zero_le _, rfl, rfl⟩
  case round =>
    obtain ⟨k, hk, rfl, rfl⟩ := hrel
    by_cases hlt : k < n
    · have q1 := HC.out k (by omega)
      have b1 := vol_bd l HS.out HL.out k (by have := HN.out; omega)
      have b2 := vol_bd l HS.out HL.out (k + 1) (by have := HN.out; omega)
      have HV : Hid (vol (l.take (k + 1)) = vol (l.take k) * nth l k) := vol_take l k (by have := HN.out; omega)
      rw [vol_take l k (by have := HN.out; omega)] at b2
      have k1 : (k : Int) < 4 := by omega
      go_wp2
      go_round
      case rel => exact ⟨k + 1, by omega, by go_num, by rw [HV.out]⟩
      case measure => simp [intOf]; omega
    · go_wp2
      go_ret
      exact ⟨ret_int (by rw [List.take_of_length_le (by have := HN.out; omega)]), HK.out⟩

/-- A shape that a call has boxed. -/
abbrev shB (l : List Int) (n : Nat) : Obj := .cells #[.int .i64 (nth l 0), .int .i64 (nth l 1), .int .i64 (nth l 2), .int .i64 (nth l 3), .int .i64 (n : Int)] 104

set_option maxRecDepth 100000 in
set_option maxHeartbeats 400000 in
theorem xhas_len (a : Option Addr) (l : List Int) (m c : Nat) (w : World) (h : l.length ≠ m) :
    Calls Tryz.prog 103 #[.agg (shC l).toArray, .slice a m c] w fun e w' => e = .returned (.bool false) ∧ Kp0 w w' := by
  have h1 : ((m : Int) != (l.length : Int)) = true := by rw [bne_iff_ne]; omega
  unfold shC
  go_enter Tryz.func103, Tryz.ntmps103
  go_wp2
  go_ret
  exact ⟨rfl, (Kp.refl _ w).alloc _⟩

set_option maxRecDepth 100000 in
set_option maxHeartbeats 400000 in
theorem xhas_nil (a : Option Addr) (c : Nat) (w : World) :
    Calls Tryz.prog 103 #[.agg (shC []).toArray, .slice a 0 c] w fun e w' => e = .returned (.bool true) ∧ Kp0 w w' := by
  simp only [shC, List.length_nil]
  go_enter Tryz.func103, Tryz.ntmps103
  go_wp2
  refine wp_loop_rounds 1 ?_
  rw [rounds_succ]
  go_wp2
  go_ret
  exact ⟨rfl, (Kp.refl _ w).alloc _⟩

set_option maxRecDepth 100000 in
set_option maxHeartbeats 1000000 in
theorem xhas_any (g o c : Nat) (l i : List Int) (n : Nat) (w : World) (HL : Hid (l.length = n)) (HI : Hid (i.length = n)) (hl : n ≤ 4)
    (h1 : ∀ j, j < n → w.cell? ⟨g, o + j, none⟩ = some (.int .i64 (nth i j))) :
    Calls Tryz.prog 103 #[.agg #[.int .i64 (nth l 0), .int .i64 (nth l 1), .int .i64 (nth l 2), .int .i64 (nth l 3), .int .i64 (n : Int)], .slice (some ⟨g, o, none⟩) n c] w fun e w' => e = .returned (.bool (inBb l i)) ∧ Kp0 w w' := by
  have HR : Hid (∀ j, j < n → (w.alloc (shB l n)).cell? ⟨g, o + j, none⟩ = some (.int .i64 (nth i j))) := fun j hj => Kp0.cell ((Kp.refl _ w).alloc _) (h1 j hj)
  have HC : Hid (∀ k, k < 4 → (w.alloc (shB l n)).cell? ⟨w.heap.size, k, none⟩ = some (.int .i64 (nth l k))) := fun k h => sh_cells w l n _ k h
  have HK : Hid (Kp0 w (w.alloc (shB l n))) := (Kp.refl _ w).alloc _
  clear h1
  go_enter Tryz.func103, Tryz.ntmps103
  go_wp2
  generalize w.alloc (shB l n) = W at HC HK HR ⊢
  go_loopw [5, 6, 14] (fun _ _ t w' => ∃ k : Nat, k ≤ n ∧ t = .int .i64 k ∧ inTo l i k ∧ w' = W) (fun _ _ t _ => n - (intOf t).toNat)
  case atStart => exact ⟨0, Nat.zero_le _, rfl, fun j hj => by omega, rfl⟩
  case round =>
    obtain ⟨k, hk, rfl, hin, rfl⟩ := hrel
    by_cases hlt : k < n
    · have q1 := HC.out k (by omega)
      have q2 := HR.out k hlt
      have k1 : (k : Int) < 4 := by omega
      by_cases h0 : nth i k < 0
      · have d1 : decide (nth i k < 0) = true := by simp [h0]
        have HF : Hid (inBb l i = false) := by
          rw [← Bool.not_eq_true]
          exact fun e => by have := ((inBb_iff l i).1 e).2 k (by have := HL.out; omega); omega
        go_wp2
        go_ret
        exact ⟨ret_bool HF.out.symm, HK.out⟩
      · have d1 : decide (nth i k < 0) = false := by simp [h0]
        by_cases hg : nth l k ≤ nth i k
        · have d2 : decide (nth l k ≤ nth i k) = true := by simp [hg]
          have HF : Hid (inBb l i = false) := by
            rw [← Bool.not_eq_true]
            exact fun e => by have := ((inBb_iff l i).1 e).2 k (by have := HL.out; omega); omega
          go_wp2
          go_ret
          exact ⟨ret_bool HF.out.symm, HK.out⟩
        · have d2 : decide (nth l k ≤ nth i k) = false := by simp [hg]
          have hin' : inTo l i (k + 1) := fun j hj => by
            rcases Nat.lt_succ_iff_lt_or_eq.1 hj with h | h
            · exact hin j h
            · subst h; omega
          have HS : Hid (inTo l i (k + 1)) := hin'
          clear hin' hin
          go_wp2
          go_roundw
          case rel => exact ⟨k + 1, by omega, by go_num, HS.out, trivial⟩
          case measure => simp [intOf]; omega
    · have HF : Hid (inBb l i = true) := (inBb_iff l i).2 ⟨HL.out.trans HI.out.symm, fun j hj => hin j (by have := HL.out; omega)⟩
      go_wp2
      go_ret
      exact ⟨ret_bool HF.out.symm, HK.out⟩

theorem xhas_calls (l i : List Int) (vi : Value) (w : World) (hr : RdI w vi i) (hl : l.length ≤ 4) :
    Calls Tryz.prog 103 #[.agg (shC l).toArray, vi] w fun e w' => e = .returned (.bool (inBb l i)) ∧ Kp0 w w' := by
  obtain ⟨a, c, rfl, ha⟩ := hr
  by_cases hle : l.length = i.length
  · by_cases hx : i = []
    · subst hx
      have : l = [] := List.length_eq_zero_iff.1 hle
      subst this
      refine (xhas_nil a c w).mono ?_
      rintro e w' ⟨rfl, hw⟩
      exact ⟨ret_bool (by simp [inBb]), hw⟩
    · obtain ⟨g, o, rfl, ha'⟩ := ha hx
      have e : (Value.agg (shC l).toArray) = .agg #[.int .i64 (nth l 0), .int .i64 (nth l 1), .int .i64 (nth l 2), .int .i64 (nth l 3), .int .i64 (i.length : Int)] := by simp [shC, hle]
      rw [e]
      exact xhas_any g o c l i i.length w hle rfl (by omega) ha'
  · have hf : inBb l i = false := by
      rw [← Bool.not_eq_true]
      exact fun e => hle ((inBb_iff l i).1 e).1
    rw [hf]
    exact xhas_len a l _ c w hle

end Go.Proofs.YticbbncdcannlaaGreat
