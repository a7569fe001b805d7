/- The law's step, walked. -/
import Derived.Test.YtoagabdnkcbglaaGreatG06

namespace Go.Proofs.YtoagabdnkcbglaaGreat
open Go.RowKit

/-- An op as the model's value. -/
def opV (k oH oA oB oC oD : Int) (vL : Value) (wh : Bool) : Value := .agg #[.int .i64 k, .int .i64 oH, .int .i64 oA, .int .i64 oB, .int .i64 oC, .int .i64 oD, vL, .bool wh]

set_option maxRecDepth 100000 in
set_option maxHeartbeats 2000000 in
theorem step_plain {w : World} (p sb : Nat) (k oH oA oB oC oD : Int) (a : Option Addr) (n c : Nat) (wh : Bool) (Q : World → Prop) (hk : k = 1 ∨ k = 2 ∨ k = 3 ∨ k = 4 ∨ k = 5)
    (hP : ∀ W, Kp0 w W → Calls Tryz.prog 24 #[.pointer (some ⟨p, 0, none⟩), .pointer (some ⟨sb, 0, none⟩), .agg #[.int .i64 k, .int .i64 oH, .int .i64 oA, .int .i64 oB, .int .i64 oC, .int .i64 oD, .slice a n c, .bool wh]] W fun e w' => e = .returned (.bool true) ∧ Q w') :
    Calls Tryz.prog 14 #[.pointer (some ⟨p, 0, none⟩), .pointer (some ⟨sb, 0, none⟩), .agg #[.int .i64 k, .int .i64 oH, .int .i64 oA, .int .i64 oB, .int .i64 oC, .int .i64 oD, .slice a n c, .bool wh]] w fun e w' => e = .returned (.bool true) ∧ Q w' := by
  have HP := hid hP
  clear hP
  rcases hk with rfl | rfl | rfl | rfl | rfl
  all_goals
    go_enter Tryz.func14, Tryz.ntmps14
    go_wp2_with fail
    refine (HP.out _ (Kp.alloc (Kp.refl _ _) _)).mono ?_
    rintro e w1 ⟨rfl, hq⟩
    have HQ := hid hq
    clear hq
    go_wp2
    go_ret
    exact ⟨rfl, HQ.out⟩

set_option maxRecDepth 100000 in
set_option maxHeartbeats 2000000 in
theorem step_told {w : World} (p sb : Nat) (oH oA oB oC oD : Int) (a : Option Addr) (n c : Nat) (wh : Bool) (Q : World → Prop)
    (hP : ∀ W, Kp0 w W → Calls Tryz.prog 26 #[.pointer (some ⟨p, 0, none⟩), .pointer (some ⟨sb, 0, none⟩), .int .i64 oH] W fun e w' => e = .returned (.bool true) ∧ Q w') :
    Calls Tryz.prog 14 #[.pointer (some ⟨p, 0, none⟩), .pointer (some ⟨sb, 0, none⟩), .agg #[.int .i64 6, .int .i64 oH, .int .i64 oA, .int .i64 oB, .int .i64 oC, .int .i64 oD, .slice a n c, .bool wh]] w fun e w' => e = .returned (.bool true) ∧ Q w' := by
  have HP := hid hP
  clear hP
  go_enter Tryz.func14, Tryz.ntmps14
  go_wp2_with fail
  refine (HP.out _ (Kp.alloc (Kp.refl _ _) _)).mono ?_
  rintro e w1 ⟨rfl, hq⟩
  have HQ := hid hq
  clear hq
  go_wp2
  go_ret
  exact ⟨rfl, HQ.out⟩

set_option maxRecDepth 100000 in
set_option maxHeartbeats 2000000 in
theorem step_looked {w : World} (p sb : Nat) (oH oA oB oC oD : Int) (a : Option Addr) (n c : Nat) (wh : Bool) (Q : World → Prop)
    (hP : ∀ W, Kp0 w W → Calls Tryz.prog 27 #[.pointer (some ⟨p, 0, none⟩), .pointer (some ⟨sb, 0, none⟩), .int .i64 oH] W fun e w' => e = .returned (.bool true) ∧ Q w') :
    Calls Tryz.prog 14 #[.pointer (some ⟨p, 0, none⟩), .pointer (some ⟨sb, 0, none⟩), .agg #[.int .i64 7, .int .i64 oH, .int .i64 oA, .int .i64 oB, .int .i64 oC, .int .i64 oD, .slice a n c, .bool wh]] w fun e w' => e = .returned (.bool true) ∧ Q w' := by
  have HP := hid hP
  clear hP
  go_enter Tryz.func14, Tryz.ntmps14
  go_wp2_with fail
  refine (HP.out _ (Kp.alloc (Kp.refl _ _) _)).mono ?_
  rintro e w1 ⟨rfl, hq⟩
  have HQ := hid hq
  clear hq
  go_wp2
  go_ret
  exact ⟨rfl, HQ.out⟩

set_option maxRecDepth 100000 in
set_option maxHeartbeats 2000000 in
theorem step_low {w : World} (p sb : Nat) (k oH oA oB oC oD : Int) (a : Option Addr) (n c : Nat) (wh : Bool) (hk : k < 1) :
    Calls Tryz.prog 14 #[.pointer (some ⟨p, 0, none⟩), .pointer (some ⟨sb, 0, none⟩), .agg #[.int .i64 k, .int .i64 oH, .int .i64 oA, .int .i64 oB, .int .i64 oC, .int .i64 oD, .slice a n c, .bool wh]] w fun e w' => e = .returned (.bool true) ∧ Kp0 w w' := by
  have e1 : (k == 1) = false := by rw [beq_eq_false_iff_ne]; omega
  have e2 : (k == 2) = false := by rw [beq_eq_false_iff_ne]; omega
  have e3 : (k == 3) = false := by rw [beq_eq_false_iff_ne]; omega
  have e4 : (k == 4) = false := by rw [beq_eq_false_iff_ne]; omega
  have e5 : (k == 5) = false := by rw [beq_eq_false_iff_ne]; omega
  have e6 : (k == 6) = false := by rw [beq_eq_false_iff_ne]; omega
  have e7 : (k == 7) = false := by rw [beq_eq_false_iff_ne]; omega
  have e8 : (k == 8) = false := by rw [beq_eq_false_iff_ne]; omega
  have e9 : (k == 9) = false := by rw [beq_eq_false_iff_ne]; omega
  have e10 : (k == 10) = false := by rw [beq_eq_false_iff_ne]; omega
  have e11 : (k == 11) = false := by rw [beq_eq_false_iff_ne]; omega
  have e12 : (k == 12) = false := by rw [beq_eq_false_iff_ne]; omega
  have e13 : (k == 13) = false := by rw [beq_eq_false_iff_ne]; omega
  have e14 : (k == 14) = false := by rw [beq_eq_false_iff_ne]; omega
  have e15 : (k == 15) = false := by rw [beq_eq_false_iff_ne]; omega
  have e16 : (k == 16) = false := by rw [beq_eq_false_iff_ne]; omega
  go_enter Tryz.func14, Tryz.ntmps14
  go_wp2
  go_ret
  exact ⟨rfl, Kp.alloc (Kp.refl _ _) _⟩

end Go.Proofs.YtoagabdnkcbglaaGreat
