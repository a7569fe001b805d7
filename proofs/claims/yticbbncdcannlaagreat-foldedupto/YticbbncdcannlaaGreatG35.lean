/- The program's space, walked where the array that is written is one of int64: Work. -/
import Derived.Test.YticbbncdcannlaaGreatG34
import Derived.Test.YticbbncdcannlaaGreatG33
import Derived.Test.YticbbncdcannlaaGreatG12
import Derived.Test.YticbbncdcannlaaGreatG30
import Derived.Test.YticbbncdcannlaaGreatG02
import Derived.Test.YticbbncdcannlaaGreatG32
import Derived.Test.YticbbncdcannlaaGreatG29
import Derived.Test.YticbbncdcannlaaGreatG04

namespace Go.Proofs.YticbbncdcannlaaGreat
open Go.RowKit Go.Maps Go.ChangeMaps Go.MapKept

theorem Tryz.mCombineI (a : Addr) (x y z : Value) (w : World) : (callMethod (.iface 127 (.pointer (some a))) "Combine" #[x, y, z]).run Tryz.prog w = .ok (.enter 212 #[.pointer (some a), x, y, z]) w := by kernel_rfl
theorem Tryz.nCombineI (a : Addr) (w : World) : (nilAhead 367 127 (.pointer (some a)) "Combine").run Tryz.prog w = .ok (some false) w := by kernel_rfl

end Go.Proofs.YticbbncdcannlaaGreat

/- The keeping statements' small functions, walked: pick, same, made; a space of the program's beside memory that stays. -/
namespace Go.Proofs.YticbbncdcannlaaGreat
open Go.RowKit

/-- Which of n things a raw number speaks of. -/
def pickN (c n : Int) : Int := (if c < 0 then -(c + 1) else c) % n
theorem pickN_bd (c n : Int) (h : 1 ≤ n) : 0 ≤ pickN c n ∧ pickN c n < n := ⟨Int.emod_nonneg _ (by omega), Int.emod_lt_of_pos _ (by omega)⟩

theorem wf_bd {c : Int} (h : IntKind.i64.wrap c = c) : -9223372036854775808 ≤ c ∧ c ≤ 9223372036854775807 := by
  simp [IntKind.wrap, IntKind.signed, IntKind.bits] at h
  split at h <;> omega
theorem bd_wf {c : Int} (h : -9223372036854775808 ≤ c ∧ c ≤ 9223372036854775807) : IntKind.i64.wrap c = c := by
  simp [IntKind.wrap, IntKind.signed, IntKind.bits]
  omega

set_option maxRecDepth 100000 in
set_option maxHeartbeats 1000000 in
theorem pick_calls (c n : Int) (w : World) (hc : IntKind.i64.wrap c = c) (hn : 1 ≤ n) : Calls Tryz.prog 19 #[.int .i64 c, .int .i64 n] w fun e w' => e = .returned (.int .i64 (pickN c n)) ∧ w' = w := by
  have hb := wf_bd hc
  have hz : (n == 0) = false := by simp; omega
  have hz2 : ¬ n = 0 := by omega
  have hm1 : ¬ n = -1 := by omega
  clear hc
  by_cases h : c < 0
  · have d1 : decide (c < 0) = true := by simp [h]
    have e1 : IntKind.i64.wrap (c + 1) = c + 1 := bd_wf (by omega)
    have e2 : IntKind.i64.wrap (-(c + 1)) = -(c + 1) := bd_wf (by omega)
    have HR : Hid (pickN c n = (-(c + 1)).tmod n) := hid (by unfold pickN; rw [if_pos h, Int.tmod_eq_emod_of_nonneg (by omega)])
    clear h
    rw [HR.out]
    go_enter Tryz.func19, Tryz.ntmps19
    go_wp2
    go_ret
    exact ⟨by simp [Int.neg_tmod], rfl⟩
  · have d1 : decide (c < 0) = false := by simp; omega
    have HR : Hid (pickN c n = c.tmod n) := hid (by unfold pickN; rw [if_neg h, Int.tmod_eq_emod_of_nonneg (by omega)])
    clear h
    rw [HR.out]
    go_enter Tryz.func19, Tryz.ntmps19
    go_wp2
    go_ret
    exact ⟨rfl, rfl⟩

set_option maxHeartbeats 400000 in
theorem ksame_len (a b : Option Addr) (n m c d : Nat) (w : World) (h : n ≠ m) :
    Calls Tryz.prog 31 #[.slice a n c, .slice b m d] w fun e w' => e = .returned (.bool false) ∧ w' = w := by
  have h1 : ((n : Int) != (m : Int)) = true := by rw [bne_iff_ne]; omega
  go_enter Tryz.func31, Tryz.ntmps31
  go_wp2
  go_ret
  exact ⟨rfl, rfl⟩

set_option maxHeartbeats 400000 in
theorem ksame_nil (a b : Option Addr) (c d : Nat) (w : World) :
    Calls Tryz.prog 31 #[.slice a 0 c, .slice b 0 d] w fun e w' => e = .returned (.bool true) ∧ w' = w := by
  go_enter Tryz.func31, Tryz.ntmps31
  go_wp2
  refine wp_loop_rounds 1 ?_
  rw [rounds_succ]
  go_wp2
  go_ret
  exact ⟨rfl, rfl⟩

set_option maxHeartbeats 400000 in
theorem ksame_any (a1 o1 c1 a2 o2 c2 : Nat) (xs ys : List Int) (w : World) (hlen : xs.length = ys.length) (hbig : xs.length ≤ 1000000000000)
    (h1 : ∀ j, j < xs.length → w.cell? ⟨a1, o1 + j, none⟩ = some (.int .i64 (nth xs j)))
    (h2 : ∀ j, j < ys.length → w.cell? ⟨a2, o2 + j, none⟩ = some (.int .i64 (nth ys j))) :
    Calls Tryz.prog 31 #[.slice (some ⟨a1, o1, none⟩) xs.length c1, .slice (some ⟨a2, o2, none⟩) ys.length c2] w fun e w' => e = .returned (.bool (decide (xs = ys))) ∧ Kp0 w w' := by
  have hl : ((xs.length : Int) != (ys.length : Int)) = false := by rw [hlen]; simp
  go_enter Tryz.func31, Tryz.ntmps31
  go_wp2
  go_loopw [5] (fun i w' => ∃ k : Nat, k ≤ xs.length ∧ i = .int .i64 k ∧ (∀ j, j < k → nth xs j = nth ys j) ∧ ∃ n, w' = w.drewN n) (fun i _ => xs.length - (intOf i).toNat)
  case atStart => exact ⟨0, Nat.zero_le _, rfl, by intro j hj; omega, 0, rfl⟩
  case round =>
    obtain ⟨k, hk, rfl, hpre, n, rfl⟩ := hrel
    by_cases hlt : k < xs.length
    · have q1 := h1 k hlt
      have q2 := h2 k (by omega)
      have e1 : (0:Int) ≤ (k : Int) := by omega
      by_cases he : nth xs k = nth ys k
      · have hb : (nth xs k != nth ys k) = false := by simp [he]
        go_wp2
        go_quiet (fail)
        go_wp2
        go_roundw
        case rel => exact ⟨k + 1, by omega, by go_num, fun j hj => by rcases Nat.lt_succ_iff_lt_or_eq.1 hj with h | h; exact hpre j h; subst h; exact he, _, rfl⟩
        case measure => simp [intOf]; omega
      · have hb : (nth xs k != nth ys k) = true := by simp [he]
        go_wp2
        go_quiet (fail)
        go_wp2
        go_ret
        refine ⟨?_, ((Kp.refl _ _).drewN _).drewN _⟩
        have hd : decide (xs = ys) = false := decide_eq_false (fun e => he (by rw [e]))
        rw [hd]
        rfl
    · go_wp2
      go_ret
      refine ⟨?_, (Kp.refl _ _).drewN n⟩
      have hd : decide (xs = ys) = true := decide_eq_true (ext_nth hlen (fun j hj => hpre j (by omega)))
      rw [hd]
      rfl

/-- same: are two lists of ints alike? -/
theorem ksame_calls (va vb : Value) (xs ys : List Int) (w : World) (ha : RdI w va xs) (hb : RdI w vb ys) (hbig : xs.length ≤ 1000000000000) :
    Calls Tryz.prog 31 #[va, vb] w fun e w' => e = .returned (.bool (decide (xs = ys))) ∧ Kp0 w w' := by
  obtain ⟨a, c, rfl, ha⟩ := ha
  obtain ⟨b, d, rfl, hb⟩ := hb
  by_cases hl : xs.length = ys.length
  · by_cases hx : xs = []
    · subst hx
      have hy : ys = [] := List.length_eq_zero_iff.1 hl.symm
      subst hy
      refine (ksame_nil a b c d w).mono ?_
      rintro e w' ⟨rfl, rfl⟩
      exact ⟨rfl, Kp0.refl _⟩
    · obtain ⟨g, o, rfl, ha'⟩ := ha hx
      obtain ⟨g', o', rfl, hb'⟩ := hb (fun e => hx (List.length_eq_zero_iff.1 (by rw [hl, e]; rfl)))
      exact ksame_any g o c g' o' d xs ys w hl hbig ha' hb'
  · refine (ksame_len a b _ _ c d w hl).mono ?_
    rintro e w' ⟨rfl, rfl⟩
    exact ⟨by rw [decide_eq_false (fun e => hl (by rw [e]))], Kp0.refl _⟩


set_option maxRecDepth 100000 in
set_option maxHeartbeats 1000000 in
theorem made_calls (op a b : Int) (w : World) (h1 : 1 ≤ op) (h5 : op ≤ 5) : Calls Tryz.prog 34 #[.int .i64 op, .int .i64 a, .int .i64 b] w fun e w' => e = .returned (.int .i64 (opK op 2 a b)) ∧ w' = w := by
  have key : op = 1 ∨ op = 2 ∨ op = 3 ∨ op = 4 ∨ op = 5 := by omega
  clear h1 h5
  rcases key with rfl | rfl | rfl | rfl | rfl
  · go_enter Tryz.func34, Tryz.ntmps34
    go_wp2
    go_ret
    exact ⟨by simp [opK, wrapK, wrap64_eqI], rfl⟩
  · go_enter Tryz.func34, Tryz.ntmps34
    go_wp2
    go_ret
    exact ⟨by simp [opK, wrapK, wrap64_eqI], rfl⟩
  · go_enter Tryz.func34, Tryz.ntmps34
    go_wp2
    go_ret
    exact ⟨by simp [opK, wrapK, wrap64_eqI], rfl⟩
  · by_cases h : a < b
    · have d1 : decide (a < b) = true := by simp [h]
      have HR : Hid (opK 4 2 a b = a) := hid (by simp [opK]; omega)
      rw [HR.out]
      clear h
      go_enter Tryz.func34, Tryz.ntmps34
      go_wp2
      go_ret
      exact ⟨rfl, rfl⟩
    · have d1 : decide (a < b) = false := by simp; omega
      have HR : Hid (opK 4 2 a b = b) := hid (by simp [opK]; omega)
      rw [HR.out]
      clear h
      go_enter Tryz.func34, Tryz.ntmps34
      go_wp2
      go_ret
      exact ⟨rfl, rfl⟩
  · by_cases h : a < b
    · have d1 : decide (a < b) = true := by simp [h]
      have HR : Hid (opK 5 2 a b = b) := hid (by simp [opK]; omega)
      rw [HR.out]
      clear h
      go_enter Tryz.func34, Tryz.ntmps34
      go_wp2
      go_ret
      exact ⟨rfl, rfl⟩
    · have d1 : decide (a < b) = false := by simp; omega
      have HR : Hid (opK 5 2 a b = a) := hid (by simp [opK]; omega)
      rw [HR.out]
      clear h
      go_enter Tryz.func34, Tryz.ntmps34
      go_wp2
      go_ret
      exact ⟨rfl, rfl⟩

/-- Beside memory that stays as it was in w, and is the owner 0's, a space of the owner 1. -/
structure Sim (w W : World) (T : Tags) (p : Nat) (σ : Sp) : Prop where
  rep : XRep T 1 W p σ
  old : ∀ b, b < w.heap.size → T b = (0, 0)
  kp : Kp0 w W

/-- What a call of the space leaves. -/
def Nxt (w W : World) (T : Tags) (p : Nat) (σ' : Sp) (w' : World) : Prop := ∃ T', Sim w w' T' p σ' ∧ TagsTo W T T' ∧ Kp (fun b => (T b).1 = 1) W w'

theorem Sim.goes {w W w' : World} {T T' : Tags} {p : Nat} {σ σ' : Sp} {Z : Nat → Prop} (h : Sim w W T p σ) (h1 : TagsTo W T T') (h2 : XRep T' 1 w' p σ') (h3 : Kp Z W w') (hz : ∀ b, Z b → T b ≠ (0, 0)) : Sim w w' T' p σ' :=
  ⟨h2, fun b hb => by rw [h1 b (Nat.lt_of_lt_of_le hb h.kp.size)]; exact h.old b hb, Kp.trans h.kp h3 (fun i hi e => (hz i e (h.old i hi)).elim)⟩

theorem Sim.step {w W w' : World} {T : Tags} {p : Nat} {σ σ' : Sp} (h : Sim w W T p σ) (hs : Step XRep T 1 W p σ' w') : Nxt w W T p σ' w' := by
  obtain ⟨T', h1, h2, h3⟩ := hs
  exact ⟨T', h.goes h1 h2 h3 (fun b e e' => by rw [e'] at e; cases e), h1, h3⟩

theorem Sim.kp0 {w W W' : World} {T : Tags} {p : Nat} {σ : Sp} (h : Sim w W T p σ) (k : Kp0 W W') : Sim w W' T p σ := ⟨h.rep.kp k (fun _ _ e => e), h.old, h.kp.trans k⟩

/-- A list of the caller's, of his kind k, in memory that has come since w. -/
structure Ls (w W : World) (T : Tags) (k : Nat) (v : Value) (xs : List Int) : Prop where
  own : OwI W v xs
  tag : ∀ b, v.ownBlock = some b → T b = (0, k) ∧ w.heap.size ≤ b

theorem Ls.kp {w W W' : World} {T T' : Tags} {k : Nat} {v : Value} {xs : List Int} {Z : Nat → Prop} (h : Ls w W T k v xs) (ht : TagsTo W T T') (kk : Kp Z W W') (hz : ∀ b, Z b → T b ≠ (0, k)) : Ls w W' T' k v xs :=
  ⟨h.own.kp kk (fun b hb e => hz b e (h.tag b hb).1), fun b hb => by rw [ht b (own_lt h.own hb)]; exact h.tag b hb⟩
theorem Ls.step {w W W' : World} {T T' : Tags} {k : Nat} {v : Value} {xs : List Int} (h : Ls w W T k v xs) (ht : TagsTo W T T') (kk : Kp (fun b => (T b).1 = 1) W W') : Ls w W' T' k v xs :=
  h.kp ht kk (fun b e e' => by rw [e'] at e; cases e)
theorem Ls.kp0 {w W W' : World} {T : Tags} {k : Nat} {v : Value} {xs : List Int} (h : Ls w W T k v xs) (kk : Kp0 W W') : Ls w W' T k v xs := ⟨h.own.kp kk (fun _ _ e => e), h.tag⟩
theorem Sim.stepL {w W w' : World} {T : Tags} {p : Nat} {σ σ' : Sp} {v : Value} {xs : List Int} {k : Nat} (h : Sim w W T p σ) (hs : StepL XRep T 1 W p σ' w' (0, k) v xs) : ∃ T' ao c, v = .slice ao xs.length c ∧ Sim w w' T' p σ' ∧ TagsTo W T T' ∧ Kp (fun b => (T b).1 = 1) W w' ∧ Ls w w' T' k (.slice ao xs.length c) xs ∧ ∀ b, (Value.slice ao xs.length c).ownBlock = some b → W.heap.size ≤ b := by
  obtain ⟨T', h1, h2, h3, ao, c, rfl, h4, h5, h6⟩ := hs
  exact ⟨T', ao, c, rfl, h.goes h1 h2 h3 (fun b e e' => by rw [e'] at e; cases e), h1, h3, ⟨h4, fun b hb => ⟨h5 b hb, Nat.le_trans h.kp.size (h6 b hb)⟩⟩, h6⟩

/-- A number put into such a list. -/
theorem OwI.set {W : World} {g n c : Nat} {xs : List Int} (h : OwI W (.slice (some ⟨g, 0, none⟩) n c) xs) (i : Nat) (_hi : i < n) (x : Int) : OwI (W.setCell ⟨g, i, none⟩ (.int .i64 x)) (.slice (some ⟨g, 0, none⟩) n c) (xs.set i x) := by
  obtain ⟨h1, h2⟩ := h.form
  rcases h.2 with ⟨e, _⟩ | ⟨g', cap, cur, e, hb, hg, hn, hc, hs, ht⟩
  · cases e
  · simp at e
    obtain ⟨rfl, e1, rfl⟩ := e
    have hg' := heap_setCell_same W g i cur _ (.int .i64 x) hg
    refine ⟨by simp [ints_length], .inr ⟨g, c, cur.setIfInBounds i (.int .i64 x), by simp [h1], hb, hg', by simpa using hn, hc, by simpa using hs, ?_⟩⟩
    rw [← h1] at ht
    have e2 : ints (xs.set i x) = (ints xs).set i (.int .i64 x) := by unfold ints; rw [List.map_set]
    rw [e2, ← ht]
    simp only [List.length_set, ← h1]
    rw [Array.toList_setIfInBounds, List.take_set]
end Go.Proofs.YticbbncdcannlaaGreat

/- The keeping statements' head, walked: sure. -/
namespace Go.Proofs.YticbbncdcannlaaGreat
open Go.RowKit

def su0 : Sp := Sp.new 100 10
def su1 : Sp := (su0.make 2 [2, 3]).1
def su2 : Sp := (su1.set 1 7 [1, 2]).1
def su3 : Sp := (su2.turn 1 [1, 0]).1
def su4 : Sp := (su3.set 2 5 [0, 1]).1
def su5 : Sp := (su4.cut 1 1 2 3 (-1)).1
def su6 : Sp := (su5.assign 1 3).1

theorem su_make : (su0.make 2 [2, 3]).2 = (1, 0) := by kernel_rfl
theorem su_set : (su1.set 1 7 [1, 2]).2 = 0 := by kernel_rfl
theorem su_turn : (su2.turn 1 [1, 0]).2 = (2, 0) := by kernel_rfl
theorem su_set2 : (su3.set 2 5 [0, 1]).2 = 0 := by kernel_rfl
theorem su_cut : (su4.cut 1 1 2 3 (-1)).2 = (3, 0) := by kernel_rfl
theorem su_val1 : su5.values 1 = ([0, 0, 0, 5, 0, 7], 0) := by kernel_rfl
theorem su_val3 : su5.values 3 = ([0, 0, 0, 7, 0, 5], 0) := by kernel_rfl
theorem su_assign : (su5.assign 1 3).2 = 0 := by kernel_rfl
theorem su_val1' : su6.values 1 = ([0, 0, 0, 7, 0, 5], 0) := by kernel_rfl
theorem su_store : su6.store 2 = (10, 6, 6, 0) := by kernel_rfl

theorem sim_new (b i : Nat) (w : World) (hb : b ≤ 10000) (hi : i ≤ 10000) : Calls Tryz.prog 35 #[.int .i64 (b : Int), .int .i64 (i : Int)] w fun e w' => ∃ p T, e = .returned (.tuple #[.pointer (some ⟨p, 0, none⟩), .int .i64 0]) ∧ Sim w w' T p (Sp.new b i) := by
  refine (xc_newYes b i w (fun _ => (0, 0)) 1 hb hi).mono ?_
  rintro e w' ⟨p, rfl, T', h1, h2, h3⟩
  exact ⟨p, T', rfl, h2, fun b hb => by rw [h1 b hb], h3⟩

/-- A list of numbers that the text builds. -/
theorem rd_built (W : World) (xs : List Int) (cs : Array Value) (h : cs = (ints xs).toArray) : RdI (W.alloc (.cells cs 3)) (.slice (some ⟨W.heap.size, 0, none⟩) xs.length xs.length) xs := by
  subst h
  exact rd_of_blk (heap_alloc_new W _) rfl

set_option maxRecDepth 100000 in
set_option maxHeartbeats 4000000 in
theorem sure_calls (w : World) : Calls Tryz.prog 42 #[] w fun e w' => e = .returned (.bool true) ∧ Kp0 w w' := by
  have HN := hid (sim_new 100 10 w (by omega) (by omega))
  go_enter Tryz.func42, Tryz.ntmps42
  go_wp2_with fail
  refine HN.out.mono ?_
  rintro e w1 ⟨p, T1, rfl, hS⟩
  have HS1 : Hid (Sim w w1 T1 p su0) := hS
  clear hS HN
  go_wp2_with fail
  have HS1a := hid (HS1.out.kp0 ((Kp.refl _ w1).alloc (.cells #[.int .i64 2, .int .i64 3] 3)))
  refine (xc_make 2 _ [2, 3] HS1a.out.rep (rd_built w1 [2, 3] _ rfl) (by decide) (by decide)).mono ?_
  rintro e w2 ⟨rfl, hs⟩
  rw [su_make]
  obtain ⟨T2, hS2, -, -⟩ := HS1a.out.step hs
  have HS2 : Hid (Sim w w2 T2 p su1) := hS2
  clear hs hS2 HS1 HS1a
  go_wp2_with fail
  have HS2a := hid (HS2.out.kp0 ((Kp.refl _ w2).alloc (.cells #[.int .i64 1, .int .i64 2] 3)))
  refine (xc_set 1 7 _ [1, 2] HS2a.out.rep (rd_built w2 [1, 2] _ rfl) (by decide)).mono ?_
  rintro e w3 ⟨rfl, hs⟩
  rw [su_set]
  obtain ⟨T3, hS3, -, -⟩ := HS2a.out.step hs
  have HS3 : Hid (Sim w w3 T3 p su2) := hS3
  clear hs hS3 HS2 HS2a
  go_wp2_with fail
  have HS3a := hid (HS3.out.kp0 ((Kp.refl _ w3).alloc (.cells #[.int .i64 1, .int .i64 0] 3)))
  refine (xc_turn 1 _ [1, 0] (rd_built w3 [1, 0] _ rfl) HS3a.out.rep (by decide)).mono ?_
  rintro e w4 ⟨rfl, hs⟩
  rw [su_turn]
  obtain ⟨T4, hS4, -, -⟩ := HS3a.out.step hs
  have HS4 : Hid (Sim w w4 T4 p su3) := hS4
  clear hs hS4 HS3 HS3a
  go_wp2_with fail
  have HS4a := hid (HS4.out.kp0 ((Kp.refl _ w4).alloc (.cells #[.int .i64 0, .int .i64 1] 3)))
  refine (xc_set 2 5 _ [0, 1] HS4a.out.rep (rd_built w4 [0, 1] _ rfl) (by decide)).mono ?_
  rintro e w5 ⟨rfl, hs⟩
  rw [su_set2]
  obtain ⟨T5, hS5, -, -⟩ := HS4a.out.step hs
  have HS5 : Hid (Sim w w5 T5 p su4) := hS5
  clear hs hS5 HS4 HS4a
  go_wp2_with fail
  refine (xc_cut 1 1 2 3 (-1) HS5.out.rep (by decide)).mono ?_
  rintro e w6 ⟨rfl, hs⟩
  rw [su_cut]
  obtain ⟨T6, hS6, -, -⟩ := HS5.out.step hs
  have HS6 : Hid (Sim w w6 T6 p su5) := hS6
  clear hs hS6 HS5
  go_wp2_with fail
  refine (xc_values 1 (0, 9) HS6.out.rep).mono ?_
  rintro e w7 ⟨v1, rfl, hs⟩
  rw [su_val1] at hs ⊢
  obtain ⟨T7, a1, c1, rfl, hS7, -, -, hL7, -⟩ := HS6.out.stepL hs
  have HS7 : Hid (Sim w w7 T7 p su5) := hS7
  have HL7 := hid hL7
  clear hs hS7 HS6 hL7
  go_wp2_with fail
  refine (xc_values 3 (0, 9) HS7.out.rep).mono ?_
  rintro e w8 ⟨v3, rfl, hs⟩
  rw [su_val3] at hs ⊢
  obtain ⟨T8, a3, c3, rfl, hS8, ht8, hk8, hL8, -⟩ := HS7.out.stepL hs
  have HS8 : Hid (Sim w w8 T8 p su5) := hS8
  have HL8 := hid hL8
  have HL78 := hid (HL7.out.step ht8 hk8)
  clear hs hS8 HS7 hL8 HL7 ht8 hk8
  simp only [List.length_cons, List.length_nil] at HL8 HL78 ⊢
  go_wp2_with fail
  have HS8a := hid (HS8.out.kp0 ((Kp.refl _ w8).alloc (.cells #[.int .i64 0, .int .i64 0, .int .i64 0, .int .i64 5, .int .i64 0, .int .i64 7] 3)))
  have HL8a := hid (HL8.out.kp0 ((Kp.refl _ w8).alloc (.cells #[.int .i64 0, .int .i64 0, .int .i64 0, .int .i64 5, .int .i64 0, .int .i64 7] 3)))
  refine (ksame_calls _ _ [0, 0, 0, 5, 0, 7] [0, 0, 0, 5, 0, 7] _ (HL78.out.kp0 ((Kp.refl _ w8).alloc _)).own.rd (rd_built w8 [0, 0, 0, 5, 0, 7] _ rfl) (by decide)).mono ?_
  rintro e w9 ⟨rfl, hk⟩
  have HS9 := hid (HS8a.out.kp0 hk)
  have HL9 := hid (HL8a.out.kp0 hk)
  clear hk HS8 HS8a HL8 HL8a HL78
  go_wp2_with fail
  have HS9a := hid (HS9.out.kp0 ((Kp.refl _ w9).alloc (.cells #[.int .i64 0, .int .i64 0, .int .i64 0, .int .i64 7, .int .i64 0, .int .i64 5] 3)))
  refine (ksame_calls _ _ [0, 0, 0, 7, 0, 5] [0, 0, 0, 7, 0, 5] _ (HL9.out.kp0 ((Kp.refl _ w9).alloc _)).own.rd (rd_built w9 [0, 0, 0, 7, 0, 5] _ rfl) (by decide)).mono ?_
  rintro e w10 ⟨rfl, hk⟩
  have HS10 := hid (HS9a.out.kp0 hk)
  clear hk HS9 HS9a HL9
  go_wp2_with fail
  refine (xc_assign 1 3 HS10.out.rep).mono ?_
  rintro e w11 ⟨rfl, hs⟩
  rw [su_assign]
  obtain ⟨T11, hS11, -, -⟩ := HS10.out.step hs
  have HS11 : Hid (Sim w w11 T11 p su6) := hS11
  clear hs hS11 HS10
  go_wp2_with fail
  refine (xc_values 1 (0, 9) HS11.out.rep).mono ?_
  rintro e w12 ⟨v1, rfl, hs⟩
  rw [su_val1'] at hs ⊢
  obtain ⟨T12, a1, c1, rfl, hS12, -, -, hL12, -⟩ := HS11.out.stepL hs
  have HS12 : Hid (Sim w w12 T12 p su6) := hS12
  have HL12 := hid hL12
  clear hs hS12 HS11 hL12
  simp only [List.length_cons, List.length_nil] at HL12 ⊢
  go_wp2_with fail
  have HS12a := hid (HS12.out.kp0 ((Kp.refl _ w12).alloc (.cells #[.int .i64 0, .int .i64 0, .int .i64 0, .int .i64 7, .int .i64 0, .int .i64 5] 3)))
  refine (ksame_calls _ _ [0, 0, 0, 7, 0, 5] [0, 0, 0, 7, 0, 5] _ (HL12.out.kp0 ((Kp.refl _ w12).alloc _)).own.rd (rd_built w12 [0, 0, 0, 7, 0, 5] _ rfl) (by decide)).mono ?_
  rintro e w13 ⟨rfl, hk⟩
  have HS13 := hid (HS12a.out.kp0 hk)
  clear hk HS12 HS12a HL12
  go_wp2_with fail
  refine (xc_store 2 HS13.out.rep).mono ?_
  rintro e w14 ⟨rfl, hs⟩
  rw [su_store]
  obtain ⟨T14, hS14, -, -⟩ := HS13.out.step hs
  have HK14 := hid hS14.kp
  clear hs hS14 HS13
  go_wp2
  go_ret
  exact ⟨rfl, HK14.out.alloc _⟩

end Go.Proofs.YticbbncdcannlaaGreat

/- Arrays of bytes that are made, filled and freed: what the law Own keeps. No program. -/
namespace Go.Proofs.YticbbncdcannlaaGreat

theorem least {P : Nat → Prop} (n : Nat) (h : P n) : ∃ m, m ≤ n ∧ P m ∧ ∀ k, k < m → ¬ P k := by
  induction n using Nat.strongRecOn with
  | _ n ih =>
    by_cases hk : ∃ k, k < n ∧ P k
    · obtain ⟨k, h1, h2⟩ := hk
      obtain ⟨m, h3, h4, h5⟩ := ih k h1 h2
      exact ⟨m, by omega, h4, h5⟩
    · exact ⟨n, Nat.le_refl _, h, fun k h1 h2 => hk ⟨k, h1, h2⟩⟩
theorem place_found (t : Int → Bool) (size n s : Nat) (hz : 1 ≤ size) (h : freeAt t size s) (hn : s + size ≤ n) : 0 ≤ placeIn t size n 0 := by
  obtain ⟨m, h1, h2, h3⟩ := least (P := fun s => freeAt t size s) s h
  rw [placeIn_is t size hz m h2 h3 n 0 (by omega) (by omega)]
  omega
theorem placeIn_free (t : Int → Bool) (size : Nat) (hz : 1 ≤ size) (f i : Nat) (h : 0 ≤ placeIn t size f i) : freeAt t size (placeIn t size f i) := by
  induction f generalizing i with
  | zero => simp [placeIn] at h
  | succ f ih =>
    simp only [placeIn] at h ⊢
    split
    · rename_i hr
      obtain ⟨h1, h2⟩ := (runTo_ge t size hz (i + 1)).1 (by omega)
      exact fun c c1 c2 => h2 c (by omega) (by omega)
    · rename_i hr
      rw [if_neg hr] at h
      exact ih (i + 1) h

theorem writes_taken (σ : Sp) (kind : Int) (P : List Int) (f : Nat → Int) (n : Nat) (k c : Int) : (σ.writes kind P f n).taken k c = σ.taken k c := by
  induction n with
  | zero => rfl
  | succ n ih => rw [Sp.writes, put_taken, ih]
theorem find_arrs {σ σ' : Sp} (h : σ'.arrs = σ.arrs) (d : Int) : σ'.find d = σ.find d := by unfold Sp.find; rw [h]
theorem live_arrs {σ σ' : Sp} (h : σ'.arrs = σ.arrs) : σ'.live = σ.live := by unfold Sp.live; rw [h]

theorem writes_len (σ : Sp) (kind : Int) (P : List Int) (f : Nat → Int) (n : Nat) (k : Int) : ((σ.writes kind P f n).vals k).length = (σ.vals k).length := by
  induction n with
  | zero => rfl
  | succ n ih =>
    rw [Sp.writes, ← ih]
    unfold Sp.put Sp.vals
    by_cases h1 : kind = 1 <;> by_cases h2 : k = 1 <;> simp [h1, h2]

theorem rng_nth (a : Int) (n j : Nat) (h : j < n) : nth (rng a n) j = a + j := by
  rw [nth_lt (by rw [rng_length]; exact h)]
  simp [rng]

theorem fill_nth (σ : Sp) (kind a v : Int) (m n : Nat) (h0 : 0 ≤ a) (hl : a + m ≤ (σ.vals kind).length) (hn : n ≤ m) (j : Nat) :
    nth ((σ.writes kind (rng a m) (fun _ => v) n).vals kind) j = if a ≤ j ∧ (j : Int) < a + n then v else nth (σ.vals kind) j := by
  induction n with
  | zero => rw [if_neg (by omega)]; rfl
  | succ n ih =>
    rw [Sp.writes, put_vals_same, nth_set, ih (by omega), writes_len, rng_nth a m n (by omega)]
    by_cases h : j = (a + n).toNat ∧ (a + n).toNat < (σ.vals kind).length
    · rw [if_pos h, if_pos (by omega)]
    · rw [if_neg h]
      by_cases h2 : a ≤ j ∧ (j : Int) < a + n
      · rw [if_pos h2, if_pos (by omega)]
      · rw [if_neg h2, if_neg (by omega)]

structure OwnI (σ : Sp) (m : Nat) (hs sz : List Int) : Prop where
  n1 : σ.n1 = m
  len : sz.length = hs.length
  live : σ.live = hs.length
  few : hs.length ≤ 40
  arr : ∀ i, i < hs.length → ∃ a b, σ.find (nth hs i) = some a ∧ a.kind = 1 ∧ σ.bufs[a.buf]? = some b ∧ b.kind = 1 ∧ a.cells = rng b.at' b.size.toNat ∧ 1 ≤ b.size ∧ b.size = nth sz i ∧ ∀ c : Nat, b.at' ≤ c → (c : Int) < b.at' + b.size → nth (σ.vals 1) c = nth hs i % 256
  inj : ∀ i j, i < j → j < hs.length → nth hs i ≠ nth hs j
  own : ∀ d e a b, σ.find d = some a → σ.find e = some b → a.buf = b.buf → d = e
  mem : ∀ d a, σ.find d = some a → ∃ i, i < hs.length ∧ nth hs i = d

theorem OwnI.new (m : Nat) : OwnI (Sp.new m 0) m [] [] := by
  have hf : ∀ d a, (Sp.new m 0).find d = some a → False := fun d a h => by simp [Sp.find, Sp.new] at h
  exact ⟨rfl, rfl, rfl, by simp, fun i hi => by simp at hi, fun i j _ hj => by simp at hj, fun d e a b h => (hf d a h).elim, fun d a h => (hf d a h).elim⟩

/-- A list without its k-th, the last one in its place. -/
def dropL (l : List Int) (k : Nat) : List Int := (l.set k (nth l (l.length - 1))).take (l.length - 1)
theorem dropL_length (l : List Int) (k : Nat) : (dropL l k).length = l.length - 1 := by unfold dropL; simp
theorem dropL_nth (l : List Int) (k i : Nat) (hk : k < l.length) (hi : i < l.length - 1) : nth (dropL l k) i = nth l (if i = k then l.length - 1 else i) := by
  unfold dropL
  have : nth ((l.set k (nth l (l.length - 1))).take (l.length - 1)) i = nth (l.set k (nth l (l.length - 1))) i := by
    unfold nth List.getD
    rw [List.getElem?_take_of_lt hi]
  rw [this, nth_set]
  by_cases h : i = k
  · rw [if_pos ⟨h, hk⟩, if_pos h]
  · rw [if_neg (by omega), if_neg h]

theorem OwnI.free {σ : Sp} {m : Nat} {hs sz : List Int} (h : OwnI σ m hs sz) (k : Nat) (hk : k < hs.length) : OwnI (σ.without (nth hs k)) m (dropL hs k) (dropL sz k) := by
  obtain ⟨a, b, hf, -⟩ := h.arr k hk
  have hpos : 0 < hs.length := by omega
  have hfd := without_find hf
  have o1 : ∀ i, i < hs.length - 1 → (if i = k then hs.length - 1 else i) < hs.length ∧ (if i = k then hs.length - 1 else i) ≠ k := fun i hi => by split <;> omega
  have ne : ∀ i j, i < hs.length → j < hs.length → i ≠ j → nth hs i ≠ nth hs j := fun i j hi hj hij => by
    rcases Nat.lt_or_ge i j with h1 | h1
    · exact h.inj i j h1 hj
    · exact fun e => h.inj j i (by omega) hi e.symm
  have hn : ∀ i, i < hs.length - 1 → nth (dropL hs k) i = nth hs (if i = k then hs.length - 1 else i) := fun i hi => dropL_nth hs k i hk hi
  have hz : ∀ i, i < hs.length - 1 → nth (dropL sz k) i = nth sz (if i = k then hs.length - 1 else i) := fun i hi => by
    rw [dropL_nth sz k i (by rw [h.len]; exact hk) (by rw [h.len]; exact hi), h.len]
  refine ⟨h.n1, by rw [dropL_length, dropL_length, h.len], ?_, by rw [dropL_length]; have := h.few; omega, fun i hi => ?_, fun i j hij hj => ?_, fun d e x y hx hy => ?_, fun d x hx => ?_⟩
  · rw [dropL_length, ← h.live]
    have := filter_set_none σ.arrs (ix (nth hs k)) a (find_get hf).2
    unfold Sp.live Sp.without
    simp only
    omega
  · rw [dropL_length] at hi
    obtain ⟨p1, p2⟩ := o1 i hi
    rw [hn i hi, hz i hi]
    obtain ⟨a', b', q1, q2⟩ := h.arr _ p1
    refine ⟨a', b', ?_, q2⟩
    rw [hfd, if_neg (ne _ _ p1 hk p2)]
    exact q1
  · rw [dropL_length] at hj
    rw [hn i (by omega), hn j hj]
    exact ne _ _ (o1 i (by omega)).1 (o1 j hj).1 (by split <;> split <;> omega)
  · rw [hfd] at hx hy
    split at hx
    · cases hx
    · split at hy
      · cases hy
      · exact h.own d e x y hx hy
  · rw [hfd] at hx
    split at hx
    · cases hx
    · rename_i hd
      obtain ⟨i, hi, e⟩ := h.mem d x hx
      have hik : i ≠ k := fun e' => hd (by rw [← e, e'])
      rw [dropL_length]
      by_cases hl : i = hs.length - 1
      · exact ⟨k, by omega, by rw [hn k (by omega), if_pos rfl, ← hl]; exact e⟩
      · exact ⟨i, by omega, by rw [hn i (by omega), if_neg hik]; exact e⟩

/-- One more array is made and filled with its handle. -/
theorem OwnI.make {σ : Sp} {m : Nat} {hs sz : List Int} (h : OwnI σ m hs sz) (hok : σ.ok) (s : List Int) (at' : Int) (z : Nat) (h0 : 0 ≤ at') (hl : at' + z ≤ σ.n1) (hz : 1 ≤ z) (hlt : hs.length < 40) (hfree : freeAt (σ.taken 1) z at') :
    OwnI ((σ.made 1 at' s z fun _ => 0).writes 1 (rng at' z) (fun _ => ((σ.arrs.length : Int) + 1) % 256) z) m (hs ++ [(σ.arrs.length : Int) + 1]) (sz ++ [(z : Int)]) ∧
      cntTo (((σ.made 1 at' s z fun _ => 0).writes 1 (rng at' z) (fun _ => ((σ.arrs.length : Int) + 1) % 256) z).taken 1) σ.n1 = cntTo (σ.taken 1) σ.n1 + z := by
  have hcap : (σ.cap 1 : Int) = σ.n1 := by simp [Sp.cap]
  have hm := made_made hok 1 at' s z h0 (by omega)
  obtain ⟨w1, w2, w3⟩ := writes_same (σ.made 1 at' s z fun _ => 0) 1 (rng at' z) (fun _ => ((σ.arrs.length : Int) + 1) % 256) z
  have hvl : ((σ.made 1 at' s z fun _ => 0).vals 1).length = σ.n1 := by
    have e1 : (σ.made 1 at' s z fun _ => 0).vals 1 = ((σ.more ⟨1, at', z⟩).puts 1 at' (fun _ => 0) z).vals 1 := rfl
    rw [e1, puts_vals]
    have := vals_len hok 1
    have e2 : (σ.more ⟨1, at', z⟩).vals 1 = σ.vals 1 := rfl
    rw [e2]
    omega
  have hv := fill_nth (σ.made 1 at' s z fun _ => 0) 1 at' (((σ.arrs.length : Int) + 1) % 256) z z h0 (by rw [hvl]; exact hl) (Nat.le_refl _)
  generalize hσ : (σ.made 1 at' s z fun _ => 0).writes 1 (rng at' z) (fun _ => ((σ.arrs.length : Int) + 1) % 256) z = σ' at *
  have hfind : ∀ d, σ'.find d = if d = (σ.arrs.length : Int) + 1 then some ⟨1, s, rng at' z, false, σ.bufs.length⟩ else σ.find d := fun d => by rw [find_arrs w1, hm.find]
  have old : ∀ i, i < hs.length → nth hs i ≠ (σ.arrs.length : Int) + 1 := fun i hi e => by
    obtain ⟨a, b, hf, -⟩ := h.arr i hi
    obtain ⟨f1, f2⟩ := find_get hf
    have := (List.getElem?_eq_some_iff.1 f2).1
    unfold ix at this
    omega
  have bufl : ∀ d a, σ.find d = some a → a.buf < σ.bufs.length := fun d a hf => by
    obtain ⟨b, hb⟩ := (kind_of hok hf).buf
    exact (List.getElem?_eq_some_iff.1 hb).1
  have sn1 : ∀ i, i < hs.length → nth (hs ++ [(σ.arrs.length : Int) + 1]) i = nth hs i := fun i hi => nth_append_left hi
  have sn2 : nth (hs ++ [(σ.arrs.length : Int) + 1]) hs.length = (σ.arrs.length : Int) + 1 := by rw [nth_append_right (Nat.le_refl _)]; simp [nth]
  have tk : ∀ c, σ'.taken 1 c = true ↔ σ.taken 1 c = true ∨ (at' ≤ c ∧ c < at' + z) := fun c => by
    rw [← hσ, writes_taken, hm.taken hok]
    simp
  constructor
  · refine ⟨?_, by simp [h.len], ?_, by simp; omega, fun i hi => ?_, fun i j hij hj => ?_, fun d e x y hx hy hxy => ?_, fun d x hx => ?_⟩
    · have := w3 1
      rw [hm.cap] at this
      simp only [Sp.cap, if_true] at this
      rw [this]; exact h.n1
    · rw [live_arrs w1, hm.live, h.live]; simp
    · simp only [List.length_append, List.length_singleton] at hi
      by_cases hi' : i < hs.length
      · rw [sn1 i hi', nth_append_left (by rw [h.len]; exact hi')]
        obtain ⟨a, b, q1, q2, q3, q4, q5, q6, q7, q8⟩ := h.arr i hi'
        obtain ⟨-, b0, -, -, b2⟩ := hok.buf _ b q3
        rw [q4] at b2
        refine ⟨a, b, by rw [hfind, if_neg (old i hi')]; exact q1, q2, by rw [w2]; exact hm.buf_old.2 (.inl q3), q4, q5, q6, q7, fun c c1 c2 => ?_⟩
        rw [hv c]
        by_cases hc : at' ≤ (c : Int) ∧ (c : Int) < at' + z
        · have h1 := hfree c hc.1 hc.2
          rw [(taken_iff σ 1 c).2 ⟨a.buf, b, q3, used_of q1, q4, c1, c2⟩] at h1
          cases h1
        · rw [if_neg hc, hm.valk c (by omega), if_neg hc]
          exact q8 c c1 c2
      · have : i = hs.length := by omega
        subst this
        rw [sn2, nth_append_right (by rw [h.len]; exact Nat.le_refl _), h.len]
        refine ⟨⟨1, s, rng at' z, false, σ.bufs.length⟩, ⟨1, at', z⟩, by rw [hfind, if_pos rfl], rfl, by rw [w2]; exact hm.buf_old.2 (.inr ⟨rfl, rfl⟩), rfl, by simp, by show (1 : Int) ≤ (z : Int); omega, by simp [nth], fun c c1 c2 => ?_⟩
        rw [hv c, if_pos ⟨c1, c2⟩]
    · simp only [List.length_append, List.length_singleton] at hj
      rw [sn1 i (by omega)]
      by_cases hj' : j < hs.length
      · rw [sn1 j hj']; exact h.inj i j hij hj'
      · have : j = hs.length := by omega
        subst this
        rw [sn2]; exact old i (by omega)
    · rw [hfind] at hx hy
      split at hx
      · rename_i hd
        injection hx with hx
        split at hy
        · rename_i he; rw [hd, he]
        · have := bufl e y hy
          rw [← hxy, ← hx] at this
          simp at this
      · split at hy
        · injection hy with hy
          have := bufl d x hx
          rw [hxy, ← hy] at this
          simp at this
        · exact h.own d e x y hx hy hxy
    · rw [hfind] at hx
      simp only [List.length_append, List.length_singleton]
      split at hx
      · rename_i hd; exact ⟨hs.length, by omega, by rw [sn2]; exact hd.symm⟩
      · obtain ⟨i, hi, e⟩ := h.mem d x hx
        exact ⟨i, by omega, by rw [sn1 i hi]; exact e⟩
  · have e1 : cntTo (σ'.taken 1) σ.n1 = cntTo (fun c => σ.taken 1 c || (decide (((at'.toNat : Nat) : Int) ≤ c) && decide (c < ((at'.toNat : Nat) : Int) + (z : Int)))) σ.n1 := by
      refine cntTo_congr _ (fun c _ => ?_)
      rw [Bool.eq_iff_iff, tk, show ((at'.toNat : Nat) : Int) = at' by omega]
      simp
    rw [e1, cntTo_or _ (fun c _ e => by
      rw [show ((at'.toNat : Nat) : Int) = at' by omega] at e
      simp at e
      have := hfree c e.2.1 e.2.2
      rw [e.1] at this
      cases this), cntTo_seg]
    omega

end Go.Proofs.YticbbncdcannlaaGreat

/- Views of one array of ints in a space of 2000: what the laws of views keep. No program. -/
namespace Go.Proofs.YticbbncdcannlaaGreat

/-- An array of the cast: its handle, its shape, the ranks that its indices mean in the first one, whether it is read-only. -/
structure CE where
  h : Int
  shape : List Int
  ranks : List Int
  ro : Bool

/-- No number twice. -/
def Once (l : List Int) : Prop := ∀ a b, a < b → b < l.length → nth l a ≠ nth l b

theorem Once.ne {l : List Int} (h : Once l) {a b : Nat} (ha : a < l.length) (hb : b < l.length) (hab : a ≠ b) : nth l a ≠ nth l b := by
  rcases Nat.lt_or_ge a b with hlt | hge
  · exact h a b hlt hb
  · exact fun e => h b a (by omega) ha e.symm

theorem Once.rng (a : Int) (n : Nat) : Once (rng a n) := fun x y hxy hy => by
  rw [rng_length] at hy
  rw [rng_nth _ _ _ (by omega), rng_nth _ _ _ hy]
  omega

theorem Once.picked {l rk : List Int} (h : Once l) (hr : Once rk) (hb : ∀ j, j < rk.length → 0 ≤ nth rk j ∧ nth rk j < l.length) : Once (picked l rk) := fun a b hab hlt => by
  have hb' : b < rk.length := by simpa [Go.Proofs.YticbbncdcannlaaGreat.picked] using hlt
  rw [picked_nth _ _ _ (by omega), picked_nth _ _ _ hb']
  have h1 := hb a (by omega)
  have h2 := hb b hb'
  have h3 := hr a b hab hb'
  exact h.ne (by omega) (by omega) (by omega)

def CE.arr (e : CE) : Arr := ⟨2, e.shape, e.ranks, e.ro, 0⟩

/-- The cast of a space: arrays of one buffer of n cells that lies at 0 and holds V; at most B arrays and buffers were ever made. -/
structure KM (σ : Sp) (E : List CE) (n : Nat) (V : List Int) (B : Nat) : Prop where
  ok : σ.ok
  cap : σ.n2 = 2000
  n1 : 1 ≤ n
  n2 : n ≤ 125
  ent : ∀ (i : Nat) (e : CE), E[i]? = some e → 1 ≤ e.h ∧ σ.arrs[ix e.h]? = some (some e.arr) ∧ vol e.shape ≤ 400 ∧ ∀ j, j < e.ranks.length → nth e.ranks j < n
  live : σ.live = E.length
  buf : σ.bufs[0]? = some ⟨2, 0, n⟩
  one : ∀ (i : Nat) (a : Arr), σ.arrs[i]? = some (some a) → a.buf = 0
  vals : ∀ j, j < n → nth σ.v2 j = nth V j
  len : V.length = n
  inc : ∀ (i j : Nat) (e f : CE), i < j → E[i]? = some e → E[j]? = some f → e.h < f.h
  fst : ∃ e, E[0]? = some e ∧ e.ranks = rng 0 n ∧ e.ro = false
  many : σ.arrs.length ≤ B
  bufs : σ.bufs.length ≤ B
  inj : ∀ (i : Nat) (e : CE), E[i]? = some e → e.ro = false → Once e.ranks

section
variable {σ : Sp} {E : List CE} {n : Nat} {V : List Int} {B : Nat}

theorem KM.find (h : KM σ E n V B) {i : Nat} {e : CE} (he : E[i]? = some e) : σ.find e.h = some e.arr := by
  obtain ⟨h1, h2, -⟩ := h.ent i e he
  unfold Sp.find
  rw [if_pos h1]
  simp [List.getD, h2]

theorem KM.aok (h : KM σ E n V B) {i : Nat} {e : CE} (he : E[i]? = some e) : e.arr.ok σ := h.ok.arr _ _ (h.ent i e he).2.1

theorem KM.rk (h : KM σ E n V B) {i : Nat} {e : CE} (he : E[i]? = some e) (j : Nat) (hj : j < e.ranks.length) : 0 ≤ nth e.ranks j ∧ nth e.ranks j < n :=
  ⟨((h.aok he).inside j hj).1, (h.ent i e he).2.2.2 j hj⟩

theorem KM.rlen (h : KM σ E n V B) {i : Nat} {e : CE} (he : E[i]? = some e) : (e.ranks.length : Int) = vol e.shape := (h.aok he).length

/-- The values of an array of the cast. -/
def CE.told (e : CE) (V : List Int) : List Int := e.ranks.map fun r => nth V r.toNat

theorem KM.told (h : KM σ E n V B) {i : Nat} {e : CE} (he : E[i]? = some e) : σ.valuesOf e.arr = e.told V := by
  unfold Sp.valuesOf CE.told
  show List.map (fun c => nth (σ.vals 2) c.toNat) e.ranks = _
  refine List.map_congr_left (fun r hr => ?_)
  obtain ⟨j, hj, rfl⟩ := List.getElem_of_mem hr
  have := h.rk he j hj
  rw [nth_lt hj] at this
  exact h.vals _ (by omega)

theorem KM.more (h : KM σ E n V B) {B' : Nat} (hb : B ≤ B') : KM σ E n V B' :=
  { h with many := Nat.le_trans h.many hb, bufs := Nat.le_trans h.bufs hb }

theorem lay_get (σ : Sp) (b : Arr) (i : Nat) (a : Arr) (h : (σ.lay b).arrs[i]? = some (some a)) : σ.arrs[i]? = some (some a) ∨ (i = σ.arrs.length ∧ a = b) := by
  simp only [Sp.lay] at h
  rw [List.getElem?_append] at h
  split at h
  · exact .inl h
  · cases hj : i - σ.arrs.length with
    | zero => rw [hj] at h; simp at h; exact .inr ⟨by omega, h.symm⟩
    | succ j => rw [hj] at h; simp at h

theorem snoc_get {α : Type} (l : List α) (x : α) (i : Nat) (y : α) (h : (l ++ [x])[i]? = some y) : l[i]? = some y ∨ (i = l.length ∧ y = x) := by
  rw [List.getElem?_append] at h
  split at h
  · exact .inl h
  · cases hj : i - l.length with
    | zero => rw [hj] at h; simp at h; exact .inr ⟨by omega, h.symm⟩
    | succ j => rw [hj] at h; simp at h

theorem KM.hle (h : KM σ E n V B) {i : Nat} {e : CE} (he : E[i]? = some e) : e.h ≤ σ.arrs.length := by
  obtain ⟨h1, h2, -⟩ := h.ent i e he
  have := (List.getElem?_eq_some_iff.1 h2).1
  unfold ix at this
  omega

/-- One more view. -/
theorem KM.lay (h : KM σ E n V B) (s rk : List Int) (ro : Bool) (hs : okShape s) (hv : vol s ≤ 400) (hl : (rk.length : Int) = vol s) (hr : ∀ j, j < rk.length → 0 ≤ nth rk j ∧ nth rk j < n) (ho : ro = false → Once rk) (hm : σ.arrs.length + 1 ≤ 100000000) :
    KM (σ.lay ⟨2, s, rk, ro, 0⟩) (E ++ [⟨(σ.arrs.length : Int) + 1, s, rk, ro⟩]) n V (B + 1) := by
  have hcap : (σ.cap 2 : Int) = 2000 := by show ((σ.n2 : Nat) : Int) = 2000; rw [h.cap]; rfl
  have hn2 := h.n2
  refine { ok := lay_ok h.ok _ ⟨.inr rfl, hs, hl, fun j hj => ?_, ⟨_, h.buf⟩⟩ hm, cap := h.cap, n1 := h.n1, n2 := h.n2, ent := fun i e he => ?_, live := ?_, buf := h.buf, one := fun i a ha => ?_, vals := h.vals, len := h.len, inc := fun i j e f hij he hf => ?_, fst := ?_, many := ?_, bufs := Nat.le_succ_of_le h.bufs, inj := fun i e he hro => ?_ }
  · have := hr j hj
    exact ⟨this.1, by show nth rk j < (σ.cap 2 : Int); omega⟩
  · rcases snoc_get _ _ _ _ he with he' | ⟨rfl, rfl⟩
    · obtain ⟨a1, a2, a3⟩ := h.ent i e he'
      refine ⟨a1, ?_, a3⟩
      simp only [Sp.lay]
      rw [List.getElem?_append_left (List.getElem?_eq_some_iff.1 a2).1]
      exact a2
    · refine ⟨by show (1 : Int) ≤ (σ.arrs.length : Int) + 1; omega, ?_, hv, fun j hj => (hr j hj).2⟩
      have : ix ((σ.arrs.length : Int) + 1) = σ.arrs.length := by unfold ix; omega
      rw [this]
      simp [Sp.lay, CE.arr]
  · have := h.live
    unfold Sp.live at this ⊢
    simp [Sp.lay, List.filter_append, this]
  · rcases lay_get σ _ i a ha with h1 | ⟨_, rfl⟩
    · exact h.one i a h1
    · rfl
  · have hl1 := (List.getElem?_eq_some_iff.1 hf).1
    simp at hl1
    rcases snoc_get _ _ _ _ hf with hf' | ⟨rfl, rfl⟩
    · rcases snoc_get _ _ _ _ he with he' | ⟨rfl, rfl⟩
      · exact h.inc i j e f hij he' hf'
      · have := (List.getElem?_eq_some_iff.1 hf').1
        omega
    · rcases snoc_get _ _ _ _ he with he' | ⟨rfl, rfl⟩
      · have := h.hle he'
        show e.h < (σ.arrs.length : Int) + 1
        omega
      · omega
  · obtain ⟨e, he, h1, h2⟩ := h.fst
    exact ⟨e, by rw [List.getElem?_append_left (List.getElem?_eq_some_iff.1 he).1]; exact he, h1, h2⟩
  · simp [Sp.lay]
    exact h.many
  · rcases snoc_get _ _ _ _ he with he' | ⟨rfl, rfl⟩
    · exact h.inj i e he' hro
    · exact ho hro

/-- A view that is derived from one of the cast. -/
theorem KM.derive (h : KM σ E n V B) {i : Nat} {e : CE} (he : E[i]? = some e) (s rk : List Int) (read : Bool) (hlt : E.length < 40) (hs : okShape s) (hv : vol s ≤ 400) (hl : (rk.length : Int) = vol s) (hr : ∀ j, j < rk.length → 0 ≤ nth rk j ∧ nth rk j < e.ranks.length) (ho : read = false → Once rk) (hm : σ.arrs.length + 1 ≤ 100000000) :
    (σ.derive e.arr s rk read).2 = ((σ.arrs.length : Int) + 1, 0) ∧ KM (σ.derive e.arr s rk read).1 (E ++ [⟨(σ.arrs.length : Int) + 1, s, picked e.ranks rk, e.ro || read⟩]) n V (B + 1) := by
  have hlv : ¬ 40 ≤ σ.live := by rw [h.live]; omega
  unfold Sp.derive
  rw [if_neg hlv]
  refine ⟨rfl, h.lay s (picked e.ranks rk) (e.ro || read) hs hv (by simpa [picked] using hl) (fun j hj => ?_) (fun hro => ?_) hm⟩
  rotate_left
  · rw [Bool.or_eq_false_iff] at hro
    exact (h.inj i e he hro.1).picked (ho hro.2) hr
  have hj' : j < rk.length := by simpa [picked] using hj
  rw [picked_nth _ _ _ hj']
  have := hr j hj'
  exact h.rk he _ (by omega)

end

end Go.Proofs.YticbbncdcannlaaGreat

/- Views of one array: where a copy lies, and that it leaves nothing behind. No program. -/
namespace Go.Proofs.YticbbncdcannlaaGreat

theorem kputs_nth (σ : Sp) (kind a : Int) (f : Nat → Int) (m : Nat) (h0 : 0 ≤ a) (hl : a + m ≤ (σ.vals kind).length) (j : Nat) :
    nth ((σ.puts kind a f m).vals kind) j = if a ≤ j ∧ (j : Int) < a + m then f (j - a.toNat) else nth (σ.vals kind) j := by
  induction m with
  | zero => rw [if_neg (by omega)]; rfl
  | succ m ih =>
    rw [Sp.puts, put_vals_same, nth_set, ih (by omega), puts_vals]
    by_cases h : j = (a + m).toNat ∧ (a + m).toNat < (σ.vals kind).length
    · rw [if_pos h, if_pos (by omega), show j - a.toNat = m by omega]
    · rw [if_neg h]
      by_cases h2 : a ≤ j ∧ (j : Int) < a + m
      · rw [if_pos h2, if_pos (by omega)]
      · rw [if_neg h2, if_neg (by omega)]

section
variable {σ : Sp} {E : List CE} {n : Nat} {V : List Int} {B : Nat}

theorem KM.used0 (h : KM σ E n V B) : σ.used 0 = true := by
  obtain ⟨e, he, -⟩ := h.fst
  exact (used_iff σ 0).2 ⟨e.h, e.arr, h.find he, rfl⟩

theorem KM.usedNo (h : KM σ E n V B) (i : Nat) (hi : i ≠ 0) : σ.used i = false := by
  cases hu : σ.used i with
  | false => rfl
  | true =>
    obtain ⟨d, y, h1, h2⟩ := (used_iff σ i).1 hu
    have := h.one _ _ (find_get h1).2
    omega

/-- The first n cells are taken, no others. -/
theorem KM.taken (h : KM σ E n V B) (c : Int) : σ.taken 2 c = (decide (0 ≤ c) && decide (c < n)) := by
  unfold Sp.taken takenTo
  have hb : 0 < σ.bufs.length := (List.getElem?_eq_some_iff.1 h.buf).1
  rw [Bool.eq_iff_iff, List.any_eq_true]
  constructor
  · rintro ⟨i, hi, h1⟩
    by_cases h0 : i = 0
    · subst h0
      rw [h.buf] at h1
      simp only [h.used0, Bool.true_and] at h1
      simp at h1 ⊢
      exact h1
    · rw [h.usedNo i h0] at h1
      split at h1 <;> simp at h1
  · intro h1
    refine ⟨0, List.mem_range.2 hb, ?_⟩
    rw [h.buf]
    simp only [h.used0, Bool.true_and]
    simp at h1 ⊢
    exact h1

theorem KM.capI (h : KM σ E n V B) : σ.cap 2 = 2000 := h.cap

theorem KM.place (h : KM σ E n V B) (m : Nat) (h1 : 1 ≤ m) (h2 : m ≤ 400) : (n : Int) ≤ σ.place 2 m ∧ σ.place 2 m + m ≤ 2000 := by
  have hn := h.n2
  have hc := h.capI
  have hp : 0 ≤ σ.place 2 m := by
    unfold Sp.place
    rw [hc]
    exact place_found _ m 2000 n h1 (fun c c1 c2 => by rw [h.taken]; simp; omega) (by omega)
  have hf := placeIn_free (σ.taken 2) m h1 (σ.cap 2) 0 hp
  have hb := place_bd σ 2 m hp
  rw [hc] at hb
  refine ⟨?_, by omega⟩
  rcases Int.lt_or_le (σ.place 2 m) n with hlt | hge
  · have := hf (σ.place 2 m) (Int.le_refl _) (by unfold Sp.place; omega)
    rw [h.taken] at this
    simp at this
    omega
  · exact hge

theorem CE.told_length (e : CE) (V : List Int) : (e.told V).length = e.ranks.length := by simp [CE.told]

/-- A copy of an array of the cast: what it is, and that nothing of it is left when it is freed. -/
theorem KM.copy (h : KM σ E n V B) {i : Nat} {e : CE} (he : E[i]? = some e) (hlt : E.length < 40) (s : List Int) (hv : vol s = vol e.shape) (f : Nat → Int) (hf : ∀ j, j < e.ranks.length → f j = nth (e.told V) j) (hok : (σ.fresh 2 s f).1.ok) :
    (σ.fresh 2 s f).2 = ((σ.arrs.length : Int) + 1, 0) ∧ (σ.fresh 2 s f).1.values ((σ.arrs.length : Int) + 1) = (e.told V, 0) ∧ (σ.fresh 2 s f).1.shared ((σ.arrs.length : Int) + 1) e.h = (false, 0) ∧
      ((σ.fresh 2 s f).1.free ((σ.arrs.length : Int) + 1)).2 = 0 ∧ KM ((σ.fresh 2 s f).1.free ((σ.arrs.length : Int) + 1)).1 E n V (B + 1) := by
  have hlv : ¬ 40 ≤ σ.live := by rw [h.live]; omega
  have hvl := h.rlen he
  have hv4 := (h.ent i e he).2.2.1
  have hpos : 1 ≤ (vol s).toNat := by
    have := vol_bd e.shape (h.aok he).shape.2.1 (h.aok he).shape.1 e.shape.length (Nat.le_refl _)
    rw [List.take_length] at this
    omega
  obtain ⟨m, hm⟩ : ∃ m, (vol s).toNat = m := ⟨_, rfl⟩
  rw [hm] at hpos
  have hml : e.ranks.length = m := by omega
  obtain ⟨p1, p2⟩ := h.place m hpos (by omega)
  have hn := h.n2
  obtain ⟨p, hp⟩ : ∃ p, σ.place 2 m = p := ⟨_, rfl⟩
  rw [hp] at p1 p2
  have hfr : σ.fresh 2 s f = (σ.made 2 p s m f, (σ.arrs.length : Int) + 1, 0) := by
    unfold Sp.fresh
    rw [if_neg hlv, hm, hp, if_neg (by omega)]
  rw [hfr] at hok ⊢
  simp only at hok ⊢
  obtain ⟨a1, a2, a3, a4, a5, a6⟩ := puts_arrs (σ.more ⟨2, p, m⟩) 2 p f m
  have hvn : (σ.vals 2).length = 2000 := by rw [h.ok.vals 2, h.capI]
  have hvs : ∀ j, nth (σ.made 2 p s m f).v2 j = if p ≤ j ∧ (j : Int) < p + m then f (j - p.toNat) else nth σ.v2 j := fun j => by
    have := kputs_nth (σ.more ⟨2, p, m⟩) 2 p f m (by omega) (by show p + m ≤ ((σ.vals 2).length : Int); omega) j
    exact this
  have harr : (σ.made 2 p s m f).arrs = σ.arrs ++ [some ⟨2, s, rng p m, false, σ.bufs.length⟩] := by
    show (Sp.puts _ _ _ _ _).arrs ++ _ = _
    rw [a1]
    rfl
  have hbuf : (σ.made 2 p s m f).bufs = σ.bufs ++ [⟨2, p, m⟩] := by
    show (Sp.puts _ _ _ _ _).bufs = _
    rw [a2]
    rfl
  have hix : ix ((σ.arrs.length : Int) + 1) = σ.arrs.length := by unfold ix; omega
  have hfind : (σ.made 2 p s m f).find ((σ.arrs.length : Int) + 1) = some ⟨2, s, rng p m, false, σ.bufs.length⟩ := by
    unfold Sp.find
    rw [if_pos (by omega), hix, harr]
    simp [List.getD]
  have hfe : (σ.made 2 p s m f).find e.h = some e.arr := by
    obtain ⟨b1, b2, -⟩ := h.ent i e he
    unfold Sp.find
    rw [if_pos b1, harr]
    simp [List.getD, List.getElem?_append_left (List.getElem?_eq_some_iff.1 b2).1, b2]
  have hb0 : 0 < σ.bufs.length := (List.getElem?_eq_some_iff.1 h.buf).1
  refine ⟨trivial, ?_, ?_, ?_, ?_⟩
  · unfold Sp.values
    rw [hfind]
    simp only
    congr 1
    refine ext_nth (by simp [Sp.valuesOf, rng_length, CE.told_length, hml]) (fun j hj => ?_)
    have hj' : j < m := by simpa [Sp.valuesOf, rng_length] using hj
    rw [nth_lt hj]
    simp only [Sp.valuesOf, List.getElem_map, rng, List.getElem_range]
    show nth (σ.made 2 p s m f).v2 (p + (j : Int)).toNat = _
    rw [hvs, if_pos (by omega), ← hf j (by omega)]
    congr 1
    omega
  · unfold Sp.shared
    rw [hfind, hfe]
    simp only
    congr 1
    rw [← Bool.not_eq_true, shares_iff]
    rintro ⟨x, y, hx, hy, -, hxy⟩
    simp only [rng_length] at hx
    have := h.rk he y hy
    rw [rng_nth _ _ _ hx] at hxy
    change p + (x : Int) = nth e.ranks y at hxy
    omega
  · unfold Sp.free
    rw [hfind]
  · have hg : ((σ.made 2 p s m f).free ((σ.arrs.length : Int) + 1)).1 = { σ.made 2 p s m f with arrs := σ.arrs ++ [none] } := by
      unfold Sp.free
      rw [hfind]
      simp only
      rw [hix, harr]
      congr 1
      simp
    have hok2 := free_ok hok ((σ.arrs.length : Int) + 1)
    rw [hg] at hok2 ⊢
    have hold : ∀ (j : Nat) (a : Arr), (σ.arrs ++ [none])[j]? = some (some a) → σ.arrs[j]? = some (some a) := fun j a ha => by
      rcases snoc_get _ _ _ _ ha with h1 | ⟨_, h1⟩
      · exact h1
      · cases h1
    exact {
      ok := hok2
      cap := by show (Sp.puts _ _ _ _ _).n2 = 2000; rw [a4]; exact h.cap
      n1 := h.n1
      n2 := h.n2
      ent := fun i e he => by
        obtain ⟨b1, b2, b3⟩ := h.ent i e he
        exact ⟨b1, by show (σ.arrs ++ [none])[ix e.h]? = _; rw [List.getElem?_append_left (List.getElem?_eq_some_iff.1 b2).1]; exact b2, b3⟩
      live := by
        have := h.live
        unfold Sp.live at this ⊢
        simp [List.filter_append, this]
      inj := h.inj
      buf := by
        show (σ.made 2 p s m f).bufs[0]? = _
        rw [hbuf, List.getElem?_append_left hb0]
        exact h.buf
      one := fun j a ha => h.one j a (hold j a ha)
      vals := fun j hj => by
        show nth (σ.made 2 p s m f).v2 j = _
        rw [hvs, if_neg (by omega)]
        exact h.vals j hj
      len := h.len
      inc := h.inc
      fst := h.fst
      many := by
        show (σ.arrs ++ [none]).length ≤ _
        have := h.many
        simp
        exact this
      bufs := by
        show (σ.made 2 p s m f).bufs.length ≤ _
        have := h.bufs
        rw [hbuf]
        simp
        exact this }

end

end Go.Proofs.YticbbncdcannlaaGreat
