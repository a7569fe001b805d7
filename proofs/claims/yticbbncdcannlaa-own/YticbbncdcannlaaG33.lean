/- The program's calls in the document's words: Work. -/
import Derived.Test.YticbbncdcannlaaG32
import Derived.Test.YticbbncdcannlaaG17
import Derived.Test.YticbbncdcannlaaG02
import Derived.Test.YticbbncdcannlaaG26

namespace Go.Proofs.Yticbbncdcannlaa
open Go.RowKit

theorem opK_B (op a b : Int) : asK 1 (opWB op (IntKind.wrap .u8 a) (IntKind.wrap .u8 b)) = opK op 1 (asK 1 a) (asK 1 b) := by
  have h1 := wrap_u8 a
  have h2 := wrap_u8 b
  unfold opWB opK asK wrapK
  simp only [if_true, wrap_u8]
  repeat' split
  all_goals omega

theorem opK_I (op a b : Int) (ha : IntKind.i64.wrap a = a) (hb : IntKind.i64.wrap b = b) : asK 2 (opWI op (IntKind.wrap .i64 a) (IntKind.wrap .i64 b)) = opK op 2 (asK 2 a) (asK 2 b) := by
  rw [ha, hb]
  rfl

/-- Combine, in the document's words: new memory beside what was there. -/
theorem xc_combineB {T : Tags} {o : Nat} {w : World} {p : Nat} {L : XL} {X : XS} (hX : XAt T o w p L X) (op : Int) (h1 : 1 ≤ op) (h5 : op ≤ 5) (A B P : List Int) (hl : B.length = A.length) (hb : A.length ≤ 1000000) (hwA : ∀ j, IntKind.i64.wrap (nth A j) = nth A j) (hwB : ∀ j, IntKind.i64.wrap (nth B j) = nth B j)
    (W : World) (v0 v1 vp : Value) (k : Kp0 w W) (hA : Fr w.heap.size W v0 A) (hB : Fr w.heap.size W v1 B) (hp : Fr w.heap.size W vp P) :
    Calls Try.prog 79 #[.pointer (some ⟨L.q1, 0, none⟩), .int .i64 op, v0, v1] W fun e w' => ∃ v, e = .returned v ∧ (Kp0 w w' ∧ Fr w.heap.size w' v (mkL A.length fun i => opWB op (IntKind.wrap .u8 (nth A i)) (IntKind.wrap .u8 (nth B i))) ∧ Fr w.heap.size w' vp P) := by
  refine (xCombineB_calls (hX.kp0 k).s1 op h1 h5 A B v0 v1 hA.1 hB.1 hl hb (fun j _ => hwA j) (fun j _ => hwB j)).mono ?_
  rintro e w' ⟨v, rfl, hn⟩
  obtain ⟨ao, c, rfl, k2, hfr⟩ := hn.fr
  exact ⟨_, rfl, Kp0.trans k k2, hfr.le k.size, hp.kp0 k2⟩

theorem xc_combineI {T : Tags} {o : Nat} {w : World} {p : Nat} {L : XL} {X : XS} (hX : XAt T o w p L X) (op : Int) (h1 : 1 ≤ op) (h5 : op ≤ 5) (A B P : List Int) (hl : B.length = A.length) (hb : A.length ≤ 1000000) (hwA : ∀ j, IntKind.i64.wrap (nth A j) = nth A j) (hwB : ∀ j, IntKind.i64.wrap (nth B j) = nth B j)
    (W : World) (v0 v1 vp : Value) (k : Kp0 w W) (hA : Fr w.heap.size W v0 A) (hB : Fr w.heap.size W v1 B) (hp : Fr w.heap.size W vp P) :
    Calls Try.prog 99 #[.pointer (some ⟨L.q2, 0, none⟩), .int .i64 op, v0, v1] W fun e w' => ∃ v, e = .returned v ∧ (Kp0 w w' ∧ Fr w.heap.size w' v (mkL A.length fun i => opWI op (IntKind.wrap .i64 (nth A i)) (IntKind.wrap .i64 (nth B i))) ∧ Fr w.heap.size w' vp P) := by
  refine (xCombineI_calls (hX.kp0 k).s2 op h1 h5 A B v0 v1 hA.1 hB.1 hl hb (fun j _ => hwA j) (fun j _ => hwB j)).mono ?_
  rintro e w' ⟨v, rfl, hn⟩
  obtain ⟨ao, c, rfl, k2, hfr⟩ := hn.fr
  exact ⟨_, rfl, Kp0.trans k k2, hfr.le k.size, hp.kp0 k2⟩

theorem mkL_wrap {n : Nat} {F : Nat → Int} (h : ∀ i, IntKind.i64.wrap (F i) = F i) (j : Nat) : IntKind.i64.wrap (nth (mkL n F) j) = nth (mkL n F) j := by
  rw [mkL_nth]
  split
  · exact h j
  · simp [IntKind.wrap, IntKind.signed, IntKind.bits]

theorem xc_work {T : Tags} {o : Nat} {w : World} {p : Nat} {σ : Sp} (op to fa fb : Int) (hR : XRep T o w p σ) :
    Calls Try.prog 15 #[.pointer (some ⟨p, 0, none⟩), .int .i64 op, .int .i64 to, .int .i64 fa, .int .i64 fb] w fun e w' => e = .returned (.int .i64 (σ.work op to fa fb).2) ∧ Step XRep T o w p (σ.work op to fa fb).1 w' := by
  have hR' := hR
  obtain ⟨hok, L, X, hX, hT⟩ := hR
  by_cases hop : op < 1 ∨ 5 < op
  · have hres : σ.work op to fa fb = (σ, 1) := by simp [Sp.work, hop]
    rw [hres]
    refine (xWork_op p op to fa fb w hop).mono ?_
    rintro e w' ⟨rfl, hk⟩
    exact ⟨rfl, hR'.stay hk⟩
  have h1 : 1 ≤ op := by omega
  have h5 : op ≤ 5 := by omega
  have no : ∀ er, er ≠ 0 → σ.work op to fa fb = (σ, er) → (∀ W vh, Kp0 w W → RdI W vh [fa, fb] → Calls Try.prog 32 #[.pointer (some ⟨p, 0, none⟩), .int .i64 to, vh] W fun e w' => e = .returned (.tuple #[.slice none 0 0, .nilIface, .slice none 0 0, .int .i64 er]) ∧ Kp0 W w') →
      Calls Try.prog 15 #[.pointer (some ⟨p, 0, none⟩), .int .i64 op, .int .i64 to, .int .i64 fa, .int .i64 fb] w fun e w' => e = .returned (.int .i64 (σ.work op to fa fb).2) ∧ Step XRep T o w p (σ.work op to fa fb).1 w' := fun er he hres hh => by
    rw [hres]
    refine (xWork_no p op to fa fb er w h1 h5 he (hid hh)).mono ?_
    rintro e w' ⟨rfl, hk⟩
    exact ⟨rfl, hR'.stay hk⟩
  cases hfa : σ.find fa with
  | none =>
    refine no 2 (by omega) (by cases h : σ.find to <;> simp [Sp.work, hop, hfa, h]) (fun W vh k hr => ?_)
    exact xtoWork_find p to 2 vh W (by omega) (xfindAll2_no0 (hX.kp0 k) fa fb vh hr (hT.non fa hfa))
  | some a =>
    obtain ⟨y, hAy, hy⟩ := hT.som fa a hfa
    have ha := kind_of hok hfa
    have hky : y.kind = 1 ∨ y.kind = 2 := by rw [hy.kind]; exact ha.kind
    cases hfb : σ.find fb with
    | none =>
      refine no 2 (by omega) (by cases h : σ.find to <;> simp [Sp.work, hop, hfa, hfb, h]) (fun W vh k hr => ?_)
      exact xtoWork_find p to 2 vh W (by omega) (xfindAll2_no1 (hX.kp0 k) fa fb vh hr y hAy hky (hT.non fb hfb))
    | some b =>
      obtain ⟨z, hAz, hz⟩ := hT.som fb b hfb
      have hb := kind_of hok hfb
      have hkz : z.kind = 1 ∨ z.kind = 2 := by rw [hz.kind]; exact hb.kind
      cases hft : σ.find to with
      | none =>
        refine no 2 (by omega) (by simp [Sp.work, hop, hft]) (fun W vh k hr => ?_)
        refine xtoWork_write p to 2 vh W (by omega) ((xfindAll2_yes (hX.kp0 k) fa fb vh hr y hAy hky z hAz hkz).mono (fun e w' ⟨g, h1, h2, _⟩ => ⟨g, 2, h1, h2⟩)) (hid (fun W' k' => xfindw_none ((hX.kp0 k).kp0 k') to (hT.non to hft)))
      | some t =>
        obtain ⟨x, hA, hx⟩ := hT.som to t hft
        have ht := kind_of hok hft
        have hkx : x.kind = 1 ∨ x.kind = 2 := by rw [hx.kind]; exact ht.kind
        cases hro : x.ro with
        | true =>
          refine no 6 (by omega) (by simp [Sp.work, hop, hft, hfa, hfb, ← hx.ro, hro]) (fun W vh k hr => ?_)
          refine xtoWork_write p to 6 vh W (by omega) ((xfindAll2_yes (hX.kp0 k) fa fb vh hr y hAy hky z hAz hkz).mono (fun e w' ⟨g, h1, h2, _⟩ => ⟨g, 2, h1, h2⟩)) (hid (fun W' k' => xfindw_ro ((hX.kp0 k).kp0 k') to x hA hkx hro))
        | false =>
          have hsx : okShape x.l := hx.g.shape
          cases hsa : stretchB a.shape t.shape with
          | false =>
            refine no 4 (by omega) (by simp [Sp.work, hop, hft, hfa, hfb, ← hx.ro, hro, hsa]) (fun W vh k hr => ?_)
            exact xtoWork2_no0 p to vh (L.inV x.kind) W y z x (xfindAll2_yes (hX.kp0 k) fa fb vh hr y hAy hky z hAz hkz) (hid (fun W' k' => xfindw_some ((hX.kp0 k).kp0 k') to x hA hkx hro)) (hid (fun W' k' => xvaluesNoB p W' y x.l hy.g.shape.1 hsx.1 (by rw [hy.l, hx.l]; exact hsa)))
          | true =>
            cases hsb : stretchB b.shape t.shape with
            | false =>
              refine no 4 (by omega) (by simp [Sp.work, hop, hft, hfa, hfb, ← hx.ro, hro, hsa, hsb]) (fun W vh k hr => ?_)
              exact xtoWork2_no1 p to vh (L.inV x.kind) W y z x _ _ (xfindAll2_yes (hX.kp0 k) fa fb vh hr y hAy hky z hAz hkz) (hid (fun W' k' => xfindw_some ((hX.kp0 k).kp0 k') to x hA hkx hro))
                (hid (fun W' k' => by rw [hx.l]; exact xc_over hok ((hX.kp0 k).kp0 k') hT hfa hy t.shape ht.shape hsa)) (hid (fun W' k' => xvaluesNoB p W' z x.l hz.g.shape.1 hsx.1 (by rw [hz.l, hx.l]; exact hsb)))
            | true =>
              have hres : σ.work op to fa fb = (σ.writes t.kind t.cells (fun i => opK op t.kind (asK t.kind (nth (σ.seen a t.shape) i)) (asK t.kind (nth (σ.seen b t.shape) i))) t.cells.length, 0) := by simp [Sp.work, hop, hft, hfa, hfb, ← hx.ro, hro, hsa, hsb]
              rw [hres]
              have hva : (σ.seen a t.shape).length = t.cells.length := by rw [seen_length]; have := ht.length; omega
              have hvb : (σ.seen b t.shape).length = (σ.seen a t.shape).length := by rw [seen_length, seen_length]
              have h36 : (σ.seen a t.shape).length ≤ 1000000 := by have := ht.length; have := ht.shape.2.2; omega
              have hT1 : ∀ W vh, Kp0 w W → RdI W vh [fa, fb] → Calls Try.prog 32 #[.pointer (some ⟨p, 0, none⟩), .int .i64 to, vh] W fun e w' => ∃ aP cP g a0 c0 a1 c1, e = .returned (.tuple #[.slice aP t.cells.length cP, L.inV x.kind, .slice (some ⟨g, 0, none⟩) 2 2, .int .i64 0]) ∧ (Kp0 W w' ∧ w'.heap[g]? = some (.cells #[.slice a0 (vol t.shape).toNat c0, .slice a1 (vol t.shape).toNat c1] 22 (0, 0)) ∧ W.heap.size ≤ g ∧ Fr W.heap.size w' (.slice aP t.cells.length cP) t.cells ∧ Fr W.heap.size w' (.slice a0 (vol t.shape).toNat c0) (σ.seen a t.shape) ∧ Fr W.heap.size w' (.slice a1 (vol t.shape).toNat c1) (σ.seen b t.shape)) := fun W vh k hr =>
                xtoWork2_yes p to vh (L.inV x.kind) W y z x _ _ _ _ _ _ (xfindAll2_yes (hX.kp0 k) fa fb vh hr y hAy hky z hAz hkz) (hid (fun W' k' => xfindw_some ((hX.kp0 k).kp0 k') to x hA hkx hro))
                  (hid (fun W' k' => by rw [hx.l]; exact xc_over hok ((hX.kp0 k).kp0 k') hT hfa hy t.shape ht.shape hsa)) (hid (fun W' k' => by rw [hx.l]; exact xc_over hok ((hX.kp0 k).kp0 k') hT hfb hz t.shape ht.shape hsb)) (hid (fun W' _ => xc_cells hx W'))
              rcases ht.kind with hk | hk
              · rw [hx.kind, hk, inVB] at hT1
                rw [hk]
                have hcg : σ.writes 1 t.cells (fun i => opK op 1 (asK 1 (nth (σ.seen a t.shape) i)) (asK 1 (nth (σ.seen b t.shape) i))) t.cells.length = σ.writes 1 t.cells (fun i => asK 1 (nth (mkL (σ.seen a t.shape).length fun i => opWB op (IntKind.wrap .u8 (nth (σ.seen a t.shape) i)) (IntKind.wrap .u8 (nth (σ.seen b t.shape) i))) i)) t.cells.length :=
                  writes_congr _ (fun j hj => by rw [mkL_nth, if_pos (by omega), opK_B])
                rw [hcg]
                exact xWorkOkB p L.q1 op to fa fb w _ _ _ _ _ _ _ h1 h5 (hid hT1) (hid (fun W v0 v1 vp k hA hB hp => xc_combineB hX op h1 h5 _ _ _ hvb h36 (fun j => hT.seenIn ha _ j) (fun j => hT.seenIn hb _ j) W v0 v1 vp k hA hB hp))
                  (hid (fun W vp vv k hp hv => xc_writeB hok hX hT hft hx hk _ (by rw [mkL_length]; exact hva) (fun j => mkL_wrap (fun i => opWB_wf op _ _) j) W vp vv k hp hv))
              · rw [hx.kind, hk, inVI] at hT1
                rw [hk]
                have hcg : σ.writes 2 t.cells (fun i => opK op 2 (asK 2 (nth (σ.seen a t.shape) i)) (asK 2 (nth (σ.seen b t.shape) i))) t.cells.length = σ.writes 2 t.cells (fun i => asK 2 (nth (mkL (σ.seen a t.shape).length fun i => opWI op (IntKind.wrap .i64 (nth (σ.seen a t.shape) i)) (IntKind.wrap .i64 (nth (σ.seen b t.shape) i))) i)) t.cells.length :=
                  writes_congr _ (fun j hj => by rw [mkL_nth, if_pos (by omega), opK_I op _ _ (hT.seenIn ha _ j) (hT.seenIn hb _ j)])
                rw [hcg]
                exact xWorkOkI p L.q2 op to fa fb w _ _ _ _ _ _ _ h1 h5 (hid hT1) (hid (fun W v0 v1 vp k hA hB hp => xc_combineI hX op h1 h5 _ _ _ hvb h36 (fun j => hT.seenIn ha _ j) (fun j => hT.seenIn hb _ j) W v0 v1 vp k hA hB hp))
                  (hid (fun W vp vv k hp hv => xc_writeI hok hX hT hft hx hk _ (by rw [mkL_length]; exact hva) (fun j => mkL_wrap (fun i => opWI_wf op _ _) j) W vp vv k hp hv))

end Go.Proofs.Yticbbncdcannlaa

/- The keeping statements' small functions, walked: pick, same, made; a space of the program's beside memory that stays. -/
namespace Go.Proofs.Yticbbncdcannlaa
open Go.RowKit

/-- Which of n things a raw number speaks of. -/
def pickN (c n : Int) : Int := (if c < 0 then -(c + 1) else c) % n
theorem pickN_bd (c n : Int) (h : 1 ≤ n) : 0 ≤ pickN c n ∧ pickN c n < n := ⟨Int.emod_nonneg _ (by omega), Int.emod_lt_of_pos _ (by omega)⟩

theorem wf_bd {c : Int} (h : IntKind.i64.wrap c = c) : -9223372036854775808 ≤ c ∧ c ≤ 9223372036854775807 := by
  simp [IntKind.wrap, IntKind.signed, IntKind.bits] at h
  split at h <;> omega
theorem bd_wf {c : Int} (h : -9223372036854775808 ≤ c ∧ c ≤ 9223372036854775807) : IntKind.i64.wrap c = c := by
  simp [IntKind.wrap, IntKind.signed, IntKind.bits]
  omega

set_option maxRecDepth 100000 in
set_option maxHeartbeats 1000000 in
theorem pick_calls (c n : Int) (w : World) (hc : IntKind.i64.wrap c = c) (hn : 1 ≤ n) : Calls Try.prog 6 #[.int .i64 c, .int .i64 n] w fun e w' => e = .returned (.int .i64 (pickN c n)) ∧ w' = w := by
  have hb := wf_bd hc
  have hz : (n == 0) = false := by simp; omega
  have hz2 : ¬ n = 0 := by omega
  have hm1 : ¬ n = -1 := by omega
  clear hc
  by_cases h : c < 0
  · have d1 : decide (c < 0) = true := by simp [h]
    have e1 : IntKind.i64.wrap (c + 1) = c + 1 := bd_wf (by omega)
    have e2 : IntKind.i64.wrap (-(c + 1)) = -(c + 1) := bd_wf (by omega)
    have HR : Hid (pickN c n = (-(c + 1)).tmod n) := hid (by unfold pickN; rw [if_pos h, Int.tmod_eq_emod_of_nonneg (by omega)])
    clear h
    rw [HR.out]
    go_enter Try.func6, Try.ntmps6
    go_wp2
    go_ret
    exact ⟨by simp [Int.neg_tmod], rfl⟩
  · have d1 : decide (c < 0) = false := by simp; omega
    have HR : Hid (pickN c n = c.tmod n) := hid (by unfold pickN; rw [if_neg h, Int.tmod_eq_emod_of_nonneg (by omega)])
    clear h
    rw [HR.out]
    go_enter Try.func6, Try.ntmps6
    go_wp2
    go_ret
    exact ⟨rfl, rfl⟩

set_option maxHeartbeats 400000 in
theorem ksame_len (a b : Option Addr) (n m c d : Nat) (w : World) (h : n ≠ m) :
    Calls Try.prog 20 #[.slice a n c, .slice b m d] w fun e w' => e = .returned (.bool false) ∧ w' = w := by
  have h1 : ((n : Int) != (m : Int)) = true := by rw [bne_iff_ne]; omega
  go_enter Try.func20, Try.ntmps20
  go_wp2
  go_ret
  exact ⟨rfl, rfl⟩

set_option maxHeartbeats 400000 in
theorem ksame_nil (a b : Option Addr) (c d : Nat) (w : World) :
    Calls Try.prog 20 #[.slice a 0 c, .slice b 0 d] w fun e w' => e = .returned (.bool true) ∧ w' = w := by
  go_enter Try.func20, Try.ntmps20
  go_wp2
  refine wp_loop_rounds 1 ?_
  rw [rounds_succ]
  go_wp2
  go_ret
  exact ⟨rfl, rfl⟩

set_option maxHeartbeats 400000 in
theorem ksame_any (a1 o1 c1 a2 o2 c2 : Nat) (xs ys : List Int) (w : World) (hlen : xs.length = ys.length) (hbig : xs.length ≤ 1000000000000)
    (h1 : ∀ j, j < xs.length → w.cell? ⟨a1, o1 + j, none⟩ = some (.int .i64 (nth xs j)))
    (h2 : ∀ j, j < ys.length → w.cell? ⟨a2, o2 + j, none⟩ = some (.int .i64 (nth ys j))) :
    Calls Try.prog 20 #[.slice (some ⟨a1, o1, none⟩) xs.length c1, .slice (some ⟨a2, o2, none⟩) ys.length c2] w fun e w' => e = .returned (.bool (decide (xs = ys))) ∧ Kp0 w w' := by
  have hl : ((xs.length : Int) != (ys.length : Int)) = false := by rw [hlen]; simp
  go_enter Try.func20, Try.ntmps20
  go_wp2
  go_loopw [5] (fun i w' => ∃ k : Nat, k ≤ xs.length ∧ i = .int .i64 k ∧ (∀ j, j < k → nth xs j = nth ys j) ∧ ∃ n, w' = w.drewN n) (fun i _ => xs.length - (intOf i).toNat)
  case atStart => exact ⟨0, Nat.zero_le _, rfl, by intro j hj; omega, 0, rfl⟩
  case round =>
    obtain ⟨k, hk, rfl, hpre, n, rfl⟩ := hrel
    by_cases hlt : k < xs.length
    · have q1 := h1 k hlt
      have q2 := h2 k (by omega)
      have e1 : (0:Int) ≤ (k : Int) := by omega
      by_cases he : nth xs k = nth ys k
      · have hb : (nth xs k != nth ys k) = false := by simp [he]
        go_wp2
        go_quiet (fail)
        go_wp2
        go_roundw
        case rel => exact ⟨k + 1, by omega, by go_num, fun j hj => by rcases Nat.lt_succ_iff_lt_or_eq.1 hj with h | h; exact hpre j h; subst h; exact he, _, rfl⟩
        case measure => simp [intOf]; omega
      · have hb : (nth xs k != nth ys k) = true := by simp [he]
        go_wp2
        go_quiet (fail)
        go_wp2
        go_ret
        refine ⟨?_, ((Kp.refl _ _).drewN _).drewN _⟩
        have hd : decide (xs = ys) = false := decide_eq_false (fun e => he (by rw [e]))
        rw [hd]
        rfl
    · go_wp2
      go_ret
      refine ⟨?_, (Kp.refl _ _).drewN n⟩
      have hd : decide (xs = ys) = true := decide_eq_true (ext_nth hlen (fun j hj => hpre j (by omega)))
      rw [hd]
      rfl

/-- same: are two lists of ints alike? -/
theorem ksame_calls (va vb : Value) (xs ys : List Int) (w : World) (ha : RdI w va xs) (hb : RdI w vb ys) (hbig : xs.length ≤ 1000000000000) :
    Calls Try.prog 20 #[va, vb] w fun e w' => e = .returned (.bool (decide (xs = ys))) ∧ Kp0 w w' := by
  obtain ⟨a, c, rfl, ha⟩ := ha
  obtain ⟨b, d, rfl, hb⟩ := hb
  by_cases hl : xs.length = ys.length
  · by_cases hx : xs = []
    · subst hx
      have hy : ys = [] := List.length_eq_zero_iff.1 hl.symm
      subst hy
      refine (ksame_nil a b c d w).mono ?_
      rintro e w' ⟨rfl, rfl⟩
      exact ⟨rfl, Kp0.refl _⟩
    · obtain ⟨g, o, rfl, ha'⟩ := ha hx
      obtain ⟨g', o', rfl, hb'⟩ := hb (fun e => hx (List.length_eq_zero_iff.1 (by rw [hl, e]; rfl)))
      exact ksame_any g o c g' o' d xs ys w hl hbig ha' hb'
  · refine (ksame_len a b _ _ c d w hl).mono ?_
    rintro e w' ⟨rfl, rfl⟩
    exact ⟨by rw [decide_eq_false (fun e => hl (by rw [e]))], Kp0.refl _⟩


set_option maxRecDepth 100000 in
set_option maxHeartbeats 1000000 in
theorem made_calls (op a b : Int) (w : World) (h1 : 1 ≤ op) (h5 : op ≤ 5) : Calls Try.prog 17 #[.int .i64 op, .int .i64 a, .int .i64 b] w fun e w' => e = .returned (.int .i64 (opK op 2 a b)) ∧ w' = w := by
  have key : op = 1 ∨ op = 2 ∨ op = 3 ∨ op = 4 ∨ op = 5 := by omega
  clear h1 h5
  rcases key with rfl | rfl | rfl | rfl | rfl
  · go_enter Try.func17, Try.ntmps17
    go_wp2
    go_ret
    exact ⟨by simp [opK, wrapK, wrap64_eqI], rfl⟩
  · go_enter Try.func17, Try.ntmps17
    go_wp2
    go_ret
    exact ⟨by simp [opK, wrapK, wrap64_eqI], rfl⟩
  · go_enter Try.func17, Try.ntmps17
    go_wp2
    go_ret
    exact ⟨by simp [opK, wrapK, wrap64_eqI], rfl⟩
  · by_cases h : a < b
    · have d1 : decide (a < b) = true := by simp [h]
      have HR : Hid (opK 4 2 a b = a) := hid (by simp [opK]; omega)
      rw [HR.out]
      clear h
      go_enter Try.func17, Try.ntmps17
      go_wp2
      go_ret
      exact ⟨rfl, rfl⟩
    · have d1 : decide (a < b) = false := by simp; omega
      have HR : Hid (opK 4 2 a b = b) := hid (by simp [opK]; omega)
      rw [HR.out]
      clear h
      go_enter Try.func17, Try.ntmps17
      go_wp2
      go_ret
      exact ⟨rfl, rfl⟩
  · by_cases h : a < b
    · have d1 : decide (a < b) = true := by simp [h]
      have HR : Hid (opK 5 2 a b = b) := hid (by simp [opK]; omega)
      rw [HR.out]
      clear h
      go_enter Try.func17, Try.ntmps17
      go_wp2
      go_ret
      exact ⟨rfl, rfl⟩
    · have d1 : decide (a < b) = false := by simp; omega
      have HR : Hid (opK 5 2 a b = a) := hid (by simp [opK]; omega)
      rw [HR.out]
      clear h
      go_enter Try.func17, Try.ntmps17
      go_wp2
      go_ret
      exact ⟨rfl, rfl⟩

/-- Beside memory that stays as it was in w, and is the owner 0's, a space of the owner 1. -/
structure Sim (w W : World) (T : Tags) (p : Nat) (σ : Sp) : Prop where
  rep : XRep T 1 W p σ
  old : ∀ b, b < w.heap.size → T b = (0, 0)
  kp : Kp0 w W

/-- What a call of the space leaves. -/
def Nxt (w W : World) (T : Tags) (p : Nat) (σ' : Sp) (w' : World) : Prop := ∃ T', Sim w w' T' p σ' ∧ TagsTo W T T' ∧ Kp (fun b => (T b).1 = 1) W w'

theorem Sim.goes {w W w' : World} {T T' : Tags} {p : Nat} {σ σ' : Sp} {Z : Nat → Prop} (h : Sim w W T p σ) (h1 : TagsTo W T T') (h2 : XRep T' 1 w' p σ') (h3 : Kp Z W w') (hz : ∀ b, Z b → T b ≠ (0, 0)) : Sim w w' T' p σ' :=
  ⟨h2, fun b hb => by rw [h1 b (Nat.lt_of_lt_of_le hb h.kp.size)]; exact h.old b hb, Kp.trans h.kp h3 (fun i hi e => (hz i e (h.old i hi)).elim)⟩

theorem Sim.step {w W w' : World} {T : Tags} {p : Nat} {σ σ' : Sp} (h : Sim w W T p σ) (hs : Step XRep T 1 W p σ' w') : Nxt w W T p σ' w' := by
  obtain ⟨T', h1, h2, h3⟩ := hs
  exact ⟨T', h.goes h1 h2 h3 (fun b e e' => by rw [e'] at e; cases e), h1, h3⟩

theorem Sim.kp0 {w W W' : World} {T : Tags} {p : Nat} {σ : Sp} (h : Sim w W T p σ) (k : Kp0 W W') : Sim w W' T p σ := ⟨h.rep.kp k (fun _ _ e => e), h.old, h.kp.trans k⟩

/-- A list of the caller's, of his kind k, in memory that has come since w. -/
structure Ls (w W : World) (T : Tags) (k : Nat) (v : Value) (xs : List Int) : Prop where
  own : OwI W v xs
  tag : ∀ b, v.ownBlock = some b → T b = (0, k) ∧ w.heap.size ≤ b

theorem Ls.kp {w W W' : World} {T T' : Tags} {k : Nat} {v : Value} {xs : List Int} {Z : Nat → Prop} (h : Ls w W T k v xs) (ht : TagsTo W T T') (kk : Kp Z W W') (hz : ∀ b, Z b → T b ≠ (0, k)) : Ls w W' T' k v xs :=
  ⟨h.own.kp kk (fun b hb e => hz b e (h.tag b hb).1), fun b hb => by rw [ht b (own_lt h.own hb)]; exact h.tag b hb⟩
theorem Ls.step {w W W' : World} {T T' : Tags} {k : Nat} {v : Value} {xs : List Int} (h : Ls w W T k v xs) (ht : TagsTo W T T') (kk : Kp (fun b => (T b).1 = 1) W W') : Ls w W' T' k v xs :=
  h.kp ht kk (fun b e e' => by rw [e'] at e; cases e)
theorem Ls.kp0 {w W W' : World} {T : Tags} {k : Nat} {v : Value} {xs : List Int} (h : Ls w W T k v xs) (kk : Kp0 W W') : Ls w W' T k v xs := ⟨h.own.kp kk (fun _ _ e => e), h.tag⟩
theorem Ls.nil (w W : World) (T : Tags) (k : Nat) : Ls w W T k (.slice none 0 0) [] := ⟨OwI.nil W, fun b hb => by simp [Value.ownBlock] at hb⟩

theorem Sim.stepL {w W w' : World} {T : Tags} {p : Nat} {σ σ' : Sp} {v : Value} {xs : List Int} {k : Nat} (h : Sim w W T p σ) (hs : StepL XRep T 1 W p σ' w' (0, k) v xs) : ∃ T' ao c, v = .slice ao xs.length c ∧ Sim w w' T' p σ' ∧ TagsTo W T T' ∧ Kp (fun b => (T b).1 = 1) W w' ∧ Ls w w' T' k (.slice ao xs.length c) xs ∧ ∀ b, (Value.slice ao xs.length c).ownBlock = some b → W.heap.size ≤ b := by
  obtain ⟨T', h1, h2, h3, ao, c, rfl, h4, h5, h6⟩ := hs
  exact ⟨T', ao, c, rfl, h.goes h1 h2 h3 (fun b e e' => by rw [e'] at e; cases e), h1, h3, ⟨h4, fun b hb => ⟨h5 b hb, Nat.le_trans h.kp.size (h6 b hb)⟩⟩, h6⟩

/-- One number appended to such a list. -/
theorem Sim.app {w W W' : World} {T : Tags} {p : Nat} {σ : Sp} {k : Nat} {ao ao' : Option Addr} {n n' c c' : Nat} {xs ys : List Int} {O : Obj} {H : Nat} (h : Sim w W T p σ) (hk : k ≠ 0) (hl : Ls w W T k (.slice ao n c) xs) (hg : (W.alloc O).grownBy W' (Value.slice ao n c).ownBlock) (ho : OwI W' (.slice ao' n' c') ys)
    (hb : ∀ b, (Value.slice ao' n' c').ownBlock = some b → (Value.slice ao n c).ownBlock = some b ∨ b = H) (hH : W.heap.size + 1 = H) :
    ∃ T', TagsTo W T T' ∧ Sim w W' T' p σ ∧ Ls w W' T' k (.slice ao' n' c') ys ∧ Kp (fun b => T b = (0, k)) W W' := by
  have ht := retag_to W T (0, k)
  have kk : Kp (fun b => (Value.slice ao n c).ownBlock = some b) W W' := ((Kp.refl _ W).alloc O).grown hg (fun b e _ => e)
  have kt : Kp (fun b => T b = (0, k)) W W' := kk.mono (fun b _ e => (hl.tag b e).1)
  have hsz := kk.size
  refine ⟨retag W T (0, k), ht, h.goes ht ((h.rep.tags ht).kp (kt.mono (fun b hb e => (show b < W.heap.size ∧ T b = (0, k) from ⟨hb, e⟩))) (fun b e z => ?_)) kt (fun b e e' => by rw [e'] at e; simp at e; omega), ⟨ho, fun b e => ?_⟩, kt⟩
  · rw [ht b z.1, z.2] at e; cases e
  · rcases hb b e with e' | e'
    · have := hl.tag b e'
      exact ⟨by rw [ht b (own_lt hl.own e')]; exact this.1, this.2⟩
    · have := h.kp.size
      exact ⟨retag_new (by omega), by omega⟩

/-- A number put into such a list. -/
theorem OwI.set {W : World} {g n c : Nat} {xs : List Int} (h : OwI W (.slice (some ⟨g, 0, none⟩) n c) xs) (i : Nat) (_hi : i < n) (x : Int) : OwI (W.setCell ⟨g, i, none⟩ (.int .i64 x)) (.slice (some ⟨g, 0, none⟩) n c) (xs.set i x) := by
  obtain ⟨h1, h2⟩ := h.form
  rcases h.2 with ⟨e, _⟩ | ⟨g', cap, cur, e, hb, hg, hn, hc, hs, ht⟩
  · cases e
  · simp at e
    obtain ⟨rfl, e1, rfl⟩ := e
    have hg' := heap_setCell_same W g i cur _ (.int .i64 x) hg
    refine ⟨by simp [ints_length], .inr ⟨g, c, cur.setIfInBounds i (.int .i64 x), by simp [h1], hb, hg', by simpa using hn, hc, by simpa using hs, ?_⟩⟩
    rw [← h1] at ht
    have e2 : ints (xs.set i x) = (ints xs).set i (.int .i64 x) := by unfold ints; rw [List.map_set]
    rw [e2, ← ht]
    simp only [List.length_set, ← h1]
    rw [Array.toList_setIfInBounds, List.take_set]
theorem OwI.cut {W : World} {g n m c : Nat} {xs : List Int} (h : OwI W (.slice (some ⟨g, 0, none⟩) n c) xs) (hm : m ≤ n) : OwI W (.slice (some ⟨g, 0, none⟩) m c) (xs.take m) := by
  obtain ⟨h1, h2⟩ := h.form
  have hl : (xs.take m).length = m := by rw [List.length_take]; omega
  rcases h.2 with ⟨e, _⟩ | ⟨g', cap, cur, e, hb, hg, hn, hc, hs, ht⟩
  · cases e
  · simp at e
    obtain ⟨rfl, e1, rfl⟩ := e
    refine ⟨by simp [ints_length], .inr ⟨g, c, cur, by rw [hl], hb, hg, by rw [hl]; omega, hc, hs, ?_⟩⟩
    rw [hl]
    have e2 : ints (xs.take m) = (ints xs).take m := by unfold ints; rw [List.map_take]
    rw [e2, ← ht, List.take_take, Nat.min_eq_left (by omega), Nat.mul_one]

end Go.Proofs.Yticbbncdcannlaa

/- The keeping statements' head, walked: sure. -/
namespace Go.Proofs.Yticbbncdcannlaa
open Go.RowKit

def su0 : Sp := Sp.new 100 10
def su1 : Sp := (su0.make 2 [2, 3]).1
def su2 : Sp := (su1.set 1 7 [1, 2]).1
def su3 : Sp := (su2.turn 1 [1, 0]).1
def su4 : Sp := (su3.set 2 5 [0, 1]).1
def su5 : Sp := (su4.cut 1 1 2 3 (-1)).1
def su6 : Sp := (su5.assign 1 3).1

theorem su_make : (su0.make 2 [2, 3]).2 = (1, 0) := by kernel_rfl
theorem su_set : (su1.set 1 7 [1, 2]).2 = 0 := by kernel_rfl
theorem su_turn : (su2.turn 1 [1, 0]).2 = (2, 0) := by kernel_rfl
theorem su_set2 : (su3.set 2 5 [0, 1]).2 = 0 := by kernel_rfl
theorem su_cut : (su4.cut 1 1 2 3 (-1)).2 = (3, 0) := by kernel_rfl
theorem su_val1 : su5.values 1 = ([0, 0, 0, 5, 0, 7], 0) := by kernel_rfl
theorem su_val3 : su5.values 3 = ([0, 0, 0, 7, 0, 5], 0) := by kernel_rfl
theorem su_assign : (su5.assign 1 3).2 = 0 := by kernel_rfl
theorem su_val1' : su6.values 1 = ([0, 0, 0, 7, 0, 5], 0) := by kernel_rfl
theorem su_store : su6.store 2 = (10, 6, 6, 0) := by kernel_rfl

theorem sim_new (b i : Nat) (w : World) (hb : b ≤ 10000) (hi : i ≤ 10000) : Calls Try.prog 7 #[.int .i64 (b : Int), .int .i64 (i : Int)] w fun e w' => ∃ p T, e = .returned (.tuple #[.pointer (some ⟨p, 0, none⟩), .int .i64 0]) ∧ Sim w w' T p (Sp.new b i) := by
  refine (xc_newYes b i w (fun _ => (0, 0)) 1 hb hi).mono ?_
  rintro e w' ⟨p, rfl, T', h1, h2, h3⟩
  exact ⟨p, T', rfl, h2, fun b hb => by rw [h1 b hb], h3⟩

/-- A list of numbers that the text builds. -/
theorem rd_built (W : World) (xs : List Int) (cs : Array Value) (h : cs = (ints xs).toArray) : RdI (W.alloc (.cells cs 3)) (.slice (some ⟨W.heap.size, 0, none⟩) xs.length xs.length) xs := by
  subst h
  exact rd_of_blk (heap_alloc_new W _) rfl

set_option maxRecDepth 100000 in
set_option maxHeartbeats 4000000 in
theorem sure_calls (w : World) : Calls Try.prog 5 #[] w fun e w' => e = .returned (.bool true) ∧ Kp0 w w' := by
  have HN := hid (sim_new 100 10 w (by omega) (by omega))
  go_enter Try.func5, Try.ntmps5
  go_wp2_with fail
  refine HN.out.mono ?_
  rintro e w1 ⟨p, T1, rfl, hS⟩
  have HS1 : Hid (Sim w w1 T1 p su0) := hS
  clear hS HN
  go_wp2_with fail
  have HS1a := hid (HS1.out.kp0 ((Kp.refl _ w1).alloc (.cells #[.int .i64 2, .int .i64 3] 3)))
  refine (xc_make 2 _ [2, 3] HS1a.out.rep (rd_built w1 [2, 3] _ rfl) (by decide) (by decide)).mono ?_
  rintro e w2 ⟨rfl, hs⟩
  rw [su_make]
  obtain ⟨T2, hS2, -, -⟩ := HS1a.out.step hs
  have HS2 : Hid (Sim w w2 T2 p su1) := hS2
  clear hs hS2 HS1 HS1a
  go_wp2_with fail
  have HS2a := hid (HS2.out.kp0 ((Kp.refl _ w2).alloc (.cells #[.int .i64 1, .int .i64 2] 3)))
  refine (xc_set 1 7 _ [1, 2] HS2a.out.rep (rd_built w2 [1, 2] _ rfl) (by decide)).mono ?_
  rintro e w3 ⟨rfl, hs⟩
  rw [su_set]
  obtain ⟨T3, hS3, -, -⟩ := HS2a.out.step hs
  have HS3 : Hid (Sim w w3 T3 p su2) := hS3
  clear hs hS3 HS2 HS2a
  go_wp2_with fail
  have HS3a := hid (HS3.out.kp0 ((Kp.refl _ w3).alloc (.cells #[.int .i64 1, .int .i64 0] 3)))
  refine (xc_turn 1 _ [1, 0] (rd_built w3 [1, 0] _ rfl) HS3a.out.rep (by decide)).mono ?_
  rintro e w4 ⟨rfl, hs⟩
  rw [su_turn]
  obtain ⟨T4, hS4, -, -⟩ := HS3a.out.step hs
  have HS4 : Hid (Sim w w4 T4 p su3) := hS4
  clear hs hS4 HS3 HS3a
  go_wp2_with fail
  have HS4a := hid (HS4.out.kp0 ((Kp.refl _ w4).alloc (.cells #[.int .i64 0, .int .i64 1] 3)))
  refine (xc_set 2 5 _ [0, 1] HS4a.out.rep (rd_built w4 [0, 1] _ rfl) (by decide)).mono ?_
  rintro e w5 ⟨rfl, hs⟩
  rw [su_set2]
  obtain ⟨T5, hS5, -, -⟩ := HS4a.out.step hs
  have HS5 : Hid (Sim w w5 T5 p su4) := hS5
  clear hs hS5 HS4 HS4a
  go_wp2_with fail
  refine (xc_cut 1 1 2 3 (-1) HS5.out.rep (by decide)).mono ?_
  rintro e w6 ⟨rfl, hs⟩
  rw [su_cut]
  obtain ⟨T6, hS6, -, -⟩ := HS5.out.step hs
  have HS6 : Hid (Sim w w6 T6 p su5) := hS6
  clear hs hS6 HS5
  go_wp2_with fail
  refine (xc_values 1 (0, 9) HS6.out.rep).mono ?_
  rintro e w7 ⟨v1, rfl, hs⟩
  rw [su_val1] at hs ⊢
  obtain ⟨T7, a1, c1, rfl, hS7, -, -, hL7, -⟩ := HS6.out.stepL hs
  have HS7 : Hid (Sim w w7 T7 p su5) := hS7
  have HL7 := hid hL7
  clear hs hS7 HS6 hL7
  go_wp2_with fail
  refine (xc_values 3 (0, 9) HS7.out.rep).mono ?_
  rintro e w8 ⟨v3, rfl, hs⟩
  rw [su_val3] at hs ⊢
  obtain ⟨T8, a3, c3, rfl, hS8, ht8, hk8, hL8, -⟩ := HS7.out.stepL hs
  have HS8 : Hid (Sim w w8 T8 p su5) := hS8
  have HL8 := hid hL8
  have HL78 := hid (HL7.out.step ht8 hk8)
  clear hs hS8 HS7 hL8 HL7 ht8 hk8
  simp only [List.length_cons, List.length_nil] at HL8 HL78 ⊢
  go_wp2_with fail
  have HS8a := hid (HS8.out.kp0 ((Kp.refl _ w8).alloc (.cells #[.int .i64 0, .int .i64 0, .int .i64 0, .int .i64 5, .int .i64 0, .int .i64 7] 3)))
  have HL8a := hid (HL8.out.kp0 ((Kp.refl _ w8).alloc (.cells #[.int .i64 0, .int .i64 0, .int .i64 0, .int .i64 5, .int .i64 0, .int .i64 7] 3)))
  refine (ksame_calls _ _ [0, 0, 0, 5, 0, 7] [0, 0, 0, 5, 0, 7] _ (HL78.out.kp0 ((Kp.refl _ w8).alloc _)).own.rd (rd_built w8 [0, 0, 0, 5, 0, 7] _ rfl) (by decide)).mono ?_
  rintro e w9 ⟨rfl, hk⟩
  have HS9 := hid (HS8a.out.kp0 hk)
  have HL9 := hid (HL8a.out.kp0 hk)
  clear hk HS8 HS8a HL8 HL8a HL78
  go_wp2_with fail
  have HS9a := hid (HS9.out.kp0 ((Kp.refl _ w9).alloc (.cells #[.int .i64 0, .int .i64 0, .int .i64 0, .int .i64 7, .int .i64 0, .int .i64 5] 3)))
  refine (ksame_calls _ _ [0, 0, 0, 7, 0, 5] [0, 0, 0, 7, 0, 5] _ (HL9.out.kp0 ((Kp.refl _ w9).alloc _)).own.rd (rd_built w9 [0, 0, 0, 7, 0, 5] _ rfl) (by decide)).mono ?_
  rintro e w10 ⟨rfl, hk⟩
  have HS10 := hid (HS9a.out.kp0 hk)
  clear hk HS9 HS9a HL9
  go_wp2_with fail
  refine (xc_assign 1 3 HS10.out.rep).mono ?_
  rintro e w11 ⟨rfl, hs⟩
  rw [su_assign]
  obtain ⟨T11, hS11, -, -⟩ := HS10.out.step hs
  have HS11 : Hid (Sim w w11 T11 p su6) := hS11
  clear hs hS11 HS10
  go_wp2_with fail
  refine (xc_values 1 (0, 9) HS11.out.rep).mono ?_
  rintro e w12 ⟨v1, rfl, hs⟩
  rw [su_val1'] at hs ⊢
  obtain ⟨T12, a1, c1, rfl, hS12, -, -, hL12, -⟩ := HS11.out.stepL hs
  have HS12 : Hid (Sim w w12 T12 p su6) := hS12
  have HL12 := hid hL12
  clear hs hS12 HS11 hL12
  simp only [List.length_cons, List.length_nil] at HL12 ⊢
  go_wp2_with fail
  have HS12a := hid (HS12.out.kp0 ((Kp.refl _ w12).alloc (.cells #[.int .i64 0, .int .i64 0, .int .i64 0, .int .i64 7, .int .i64 0, .int .i64 5] 3)))
  refine (ksame_calls _ _ [0, 0, 0, 7, 0, 5] [0, 0, 0, 7, 0, 5] _ (HL12.out.kp0 ((Kp.refl _ w12).alloc _)).own.rd (rd_built w12 [0, 0, 0, 7, 0, 5] _ rfl) (by decide)).mono ?_
  rintro e w13 ⟨rfl, hk⟩
  have HS13 := hid (HS12a.out.kp0 hk)
  clear hk HS12 HS12a HL12
  go_wp2_with fail
  refine (xc_store 2 HS13.out.rep).mono ?_
  rintro e w14 ⟨rfl, hs⟩
  rw [su_store]
  obtain ⟨T14, hS14, -, -⟩ := HS13.out.step hs
  have HK14 := hid hS14.kp
  clear hs hS14 HS13
  go_wp2
  go_ret
  exact ⟨rfl, HK14.out.alloc _⟩

end Go.Proofs.Yticbbncdcannlaa

/- Arrays of bytes that are made, filled and freed: what the law Own keeps. No program. -/
namespace Go.Proofs.Yticbbncdcannlaa

theorem cnt_top (t : Int → Bool) (n : Nat) : cntTo t n ≤ topTo t n := by
  induction n with
  | zero => exact Nat.le_refl _
  | succ n ih =>
    have := cntTo_le t n
    simp only [cntTo, topTo]
    split <;> omega
theorem top_free (t : Int → Bool) (n : Nat) (c : Nat) (h1 : topTo t n ≤ c) (h2 : c < n) : t c = false := by
  induction n with
  | zero => omega
  | succ n ih =>
    simp only [topTo] at h1
    split at h1
    · omega
    · rename_i hn
      rcases Nat.lt_or_ge c n with h | h
      · exact ih h1 h
      · have : c = n := by omega
        subst this
        simpa using hn
theorem least {P : Nat → Prop} (n : Nat) (h : P n) : ∃ m, m ≤ n ∧ P m ∧ ∀ k, k < m → ¬ P k := by
  induction n using Nat.strongRecOn with
  | _ n ih =>
    by_cases hk : ∃ k, k < n ∧ P k
    · obtain ⟨k, h1, h2⟩ := hk
      obtain ⟨m, h3, h4, h5⟩ := ih k h1 h2
      exact ⟨m, by omega, h4, h5⟩
    · exact ⟨n, Nat.le_refl _, h, fun k h1 h2 => hk ⟨k, h1, h2⟩⟩
theorem place_found (t : Int → Bool) (size n s : Nat) (hz : 1 ≤ size) (h : freeAt t size s) (hn : s + size ≤ n) : 0 ≤ placeIn t size n 0 := by
  obtain ⟨m, h1, h2, h3⟩ := least (P := fun s => freeAt t size s) s h
  rw [placeIn_is t size hz m h2 h3 n 0 (by omega) (by omega)]
  omega
/-- Where there is room behind the top there is a place. -/
theorem top_place (t : Int → Bool) (size n : Nat) (hz : 1 ≤ size) (h : topTo t n + size ≤ n) : 0 ≤ placeIn t size n 0 :=
  place_found t size n (topTo t n) hz (fun c h1 h2 => by
    have := top_free t n c.toNat (by omega) (by omega)
    rwa [show ((c.toNat : Nat) : Int) = c by omega] at this) h

theorem placeIn_free (t : Int → Bool) (size : Nat) (hz : 1 ≤ size) (f i : Nat) (h : 0 ≤ placeIn t size f i) : freeAt t size (placeIn t size f i) := by
  induction f generalizing i with
  | zero => simp [placeIn] at h
  | succ f ih =>
    simp only [placeIn] at h ⊢
    split
    · rename_i hr
      obtain ⟨h1, h2⟩ := (runTo_ge t size hz (i + 1)).1 (by omega)
      exact fun c c1 c2 => h2 c (by omega) (by omega)
    · rename_i hr
      rw [if_neg hr] at h
      exact ih (i + 1) h

theorem writes_taken (σ : Sp) (kind : Int) (P : List Int) (f : Nat → Int) (n : Nat) (k c : Int) : (σ.writes kind P f n).taken k c = σ.taken k c := by
  induction n with
  | zero => rfl
  | succ n ih => rw [Sp.writes, put_taken, ih]
theorem find_arrs {σ σ' : Sp} (h : σ'.arrs = σ.arrs) (d : Int) : σ'.find d = σ.find d := by unfold Sp.find; rw [h]
theorem live_arrs {σ σ' : Sp} (h : σ'.arrs = σ.arrs) : σ'.live = σ.live := by unfold Sp.live; rw [h]

theorem writes_len (σ : Sp) (kind : Int) (P : List Int) (f : Nat → Int) (n : Nat) (k : Int) : ((σ.writes kind P f n).vals k).length = (σ.vals k).length := by
  induction n with
  | zero => rfl
  | succ n ih =>
    rw [Sp.writes, ← ih]
    unfold Sp.put Sp.vals
    by_cases h1 : kind = 1 <;> by_cases h2 : k = 1 <;> simp [h1, h2]

theorem rng_nth (a : Int) (n j : Nat) (h : j < n) : nth (rng a n) j = a + j := by
  rw [nth_lt (by rw [rng_length]; exact h)]
  simp [rng]

theorem fill_nth (σ : Sp) (kind a v : Int) (m n : Nat) (h0 : 0 ≤ a) (hl : a + m ≤ (σ.vals kind).length) (hn : n ≤ m) (j : Nat) :
    nth ((σ.writes kind (rng a m) (fun _ => v) n).vals kind) j = if a ≤ j ∧ (j : Int) < a + n then v else nth (σ.vals kind) j := by
  induction n with
  | zero => rw [if_neg (by omega)]; rfl
  | succ n ih =>
    rw [Sp.writes, put_vals_same, nth_set, ih (by omega), writes_len, rng_nth a m n (by omega)]
    by_cases h : j = (a + n).toNat ∧ (a + n).toNat < (σ.vals kind).length
    · rw [if_pos h, if_pos (by omega)]
    · rw [if_neg h]
      by_cases h2 : a ≤ j ∧ (j : Int) < a + n
      · rw [if_pos h2, if_pos (by omega)]
      · rw [if_neg h2, if_neg (by omega)]

structure OwnI (σ : Sp) (m : Nat) (hs sz : List Int) : Prop where
  n1 : σ.n1 = m
  len : sz.length = hs.length
  live : σ.live = hs.length
  few : hs.length ≤ 40
  arr : ∀ i, i < hs.length → ∃ a b, σ.find (nth hs i) = some a ∧ a.kind = 1 ∧ σ.bufs[a.buf]? = some b ∧ b.kind = 1 ∧ a.cells = rng b.at' b.size.toNat ∧ 1 ≤ b.size ∧ b.size = nth sz i ∧ ∀ c : Nat, b.at' ≤ c → (c : Int) < b.at' + b.size → nth (σ.vals 1) c = nth hs i % 256
  inj : ∀ i j, i < j → j < hs.length → nth hs i ≠ nth hs j
  own : ∀ d e a b, σ.find d = some a → σ.find e = some b → a.buf = b.buf → d = e
  mem : ∀ d a, σ.find d = some a → ∃ i, i < hs.length ∧ nth hs i = d

theorem OwnI.new (m : Nat) : OwnI (Sp.new m 0) m [] [] := by
  have hf : ∀ d a, (Sp.new m 0).find d = some a → False := fun d a h => by simp [Sp.find, Sp.new] at h
  exact ⟨rfl, rfl, rfl, by simp, fun i hi => by simp at hi, fun i j _ hj => by simp at hj, fun d e a b h => (hf d a h).elim, fun d a h => (hf d a h).elim⟩

/-- A list without its k-th, the last one in its place. -/
def dropL (l : List Int) (k : Nat) : List Int := (l.set k (nth l (l.length - 1))).take (l.length - 1)
theorem dropL_length (l : List Int) (k : Nat) : (dropL l k).length = l.length - 1 := by unfold dropL; simp
theorem dropL_nth (l : List Int) (k i : Nat) (hk : k < l.length) (hi : i < l.length - 1) : nth (dropL l k) i = nth l (if i = k then l.length - 1 else i) := by
  unfold dropL
  have : nth ((l.set k (nth l (l.length - 1))).take (l.length - 1)) i = nth (l.set k (nth l (l.length - 1))) i := by
    unfold nth List.getD
    rw [List.getElem?_take_of_lt hi]
  rw [this, nth_set]
  by_cases h : i = k
  · rw [if_pos ⟨h, hk⟩, if_pos h]
  · rw [if_neg (by omega), if_neg h]

theorem taken_gone {σ : Sp} (hap : BApart σ) {h : Int} {a : Arr} {b : Buf} (hf : σ.find h = some a) (hb : σ.bufs[a.buf]? = some b) (hk : b.kind = 1) (hown : ∀ d e x y, σ.find d = some x → σ.find e = some y → x.buf = y.buf → d = e) (c : Int) :
    (σ.taken 1 c = ((σ.without h).taken 1 c || (decide (b.at' ≤ c) && decide (c < b.at' + b.size)))) ∧ ¬ ((σ.without h).taken 1 c = true ∧ (decide (b.at' ≤ c) && decide (c < b.at' + b.size)) = true) := by
  have hbufs : (σ.without h).bufs = σ.bufs := rfl
  have hnu : (σ.without h).used a.buf = false := by
    rw [← Bool.not_eq_true]
    intro hu
    obtain ⟨d, y, h1, h2, h3⟩ := (without_used hf _).1 hu
    exact h1 (hown d h y a h2 hf h3)
  constructor
  · rw [Bool.eq_iff_iff, Bool.or_eq_true, taken_iff, taken_iff]
    constructor
    · rintro ⟨i, b', h1, h2, h3, h4, h5⟩
      by_cases hi : i = a.buf
      · subst hi
        rw [hb] at h1
        injection h1 with h1
        subst h1
        right
        simp [h4, h5]
      · left
        exact ⟨i, b', h1, by rw [without_used_other hf hi]; exact h2, h3, h4, h5⟩
    · rintro (⟨i, b', h1, h2, h3, h4, h5⟩ | h1)
      · exact ⟨i, b', h1, without_used_old hf h2, h3, h4, h5⟩
      · simp at h1
        exact ⟨a.buf, b, hb, used_of hf, hk, h1.1, h1.2⟩
  · rintro ⟨h1, h2⟩
    rw [taken_iff] at h1
    obtain ⟨i, b', h3, h4, h5, h6, h7⟩ := h1
    simp at h2
    have hi : i ≠ a.buf := fun e => by rw [e, hnu] at h4; cases h4
    have := hap i a.buf b' b h3 hb (without_used_old hf h4) (used_of hf) (by rw [h5, hk]) hi
    omega

theorem cnt_gone {σ : Sp} (hok : σ.ok) (hap : BApart σ) {h : Int} {a : Arr} {b : Buf} (hf : σ.find h = some a) (hb : σ.bufs[a.buf]? = some b) (hk : b.kind = 1) (hown : ∀ d e x y, σ.find d = some x → σ.find e = some y → x.buf = y.buf → d = e) :
    (cntTo (σ.taken 1) σ.n1 : Int) = cntTo ((σ.without h).taken 1) σ.n1 + b.size := by
  obtain ⟨-, h0, h1, -, h2⟩ := hok.buf _ b hb
  rw [hk] at h2
  have hcap : (σ.cap 1 : Int) = σ.n1 := by simp [Sp.cap]
  have e1 : cntTo (σ.taken 1) σ.n1 = cntTo (fun c => (σ.without h).taken 1 c || (decide (((b.at'.toNat : Nat) : Int) ≤ c) && decide (c < ((b.at'.toNat : Nat) : Int) + ((b.size.toNat : Nat) : Int)))) σ.n1 := by
    refine cntTo_congr _ (fun c _ => ?_)
    rw [(taken_gone hap hf hb hk hown c).1, show ((b.at'.toNat : Nat) : Int) = b.at' by omega, show ((b.size.toNat : Nat) : Int) = b.size by omega]
  rw [e1, cntTo_or _ (fun c _ => by
    have := (taken_gone hap hf hb hk hown c).2
    rwa [show ((b.at'.toNat : Nat) : Int) = b.at' by omega, show ((b.size.toNat : Nat) : Int) = b.size by omega]), cntTo_seg]
  omega

theorem OwnI.free {σ : Sp} {m : Nat} {hs sz : List Int} (h : OwnI σ m hs sz) (k : Nat) (hk : k < hs.length) : OwnI (σ.without (nth hs k)) m (dropL hs k) (dropL sz k) := by
  obtain ⟨a, b, hf, -⟩ := h.arr k hk
  have hpos : 0 < hs.length := by omega
  have hfd := without_find hf
  have o1 : ∀ i, i < hs.length - 1 → (if i = k then hs.length - 1 else i) < hs.length ∧ (if i = k then hs.length - 1 else i) ≠ k := fun i hi => by split <;> omega
  have ne : ∀ i j, i < hs.length → j < hs.length → i ≠ j → nth hs i ≠ nth hs j := fun i j hi hj hij => by
    rcases Nat.lt_or_ge i j with h1 | h1
    · exact h.inj i j h1 hj
    · exact fun e => h.inj j i (by omega) hi e.symm
  have hn : ∀ i, i < hs.length - 1 → nth (dropL hs k) i = nth hs (if i = k then hs.length - 1 else i) := fun i hi => dropL_nth hs k i hk hi
  have hz : ∀ i, i < hs.length - 1 → nth (dropL sz k) i = nth sz (if i = k then hs.length - 1 else i) := fun i hi => by
    rw [dropL_nth sz k i (by rw [h.len]; exact hk) (by rw [h.len]; exact hi), h.len]
  refine ⟨h.n1, by rw [dropL_length, dropL_length, h.len], ?_, by rw [dropL_length]; have := h.few; omega, fun i hi => ?_, fun i j hij hj => ?_, fun d e x y hx hy => ?_, fun d x hx => ?_⟩
  · rw [dropL_length, ← h.live]
    have := filter_set_none σ.arrs (ix (nth hs k)) a (find_get hf).2
    unfold Sp.live Sp.without
    simp only
    omega
  · rw [dropL_length] at hi
    obtain ⟨p1, p2⟩ := o1 i hi
    rw [hn i hi, hz i hi]
    obtain ⟨a', b', q1, q2⟩ := h.arr _ p1
    refine ⟨a', b', ?_, q2⟩
    rw [hfd, if_neg (ne _ _ p1 hk p2)]
    exact q1
  · rw [dropL_length] at hj
    rw [hn i (by omega), hn j hj]
    exact ne _ _ (o1 i (by omega)).1 (o1 j hj).1 (by split <;> split <;> omega)
  · rw [hfd] at hx hy
    split at hx
    · cases hx
    · split at hy
      · cases hy
      · exact h.own d e x y hx hy
  · rw [hfd] at hx
    split at hx
    · cases hx
    · rename_i hd
      obtain ⟨i, hi, e⟩ := h.mem d x hx
      have hik : i ≠ k := fun e' => hd (by rw [← e, e'])
      rw [dropL_length]
      by_cases hl : i = hs.length - 1
      · exact ⟨k, by omega, by rw [hn k (by omega), if_pos rfl, ← hl]; exact e⟩
      · exact ⟨i, by omega, by rw [hn i (by omega), if_neg hik]; exact e⟩

/-- One more array is made and filled with its handle. -/
theorem OwnI.make {σ : Sp} {m : Nat} {hs sz : List Int} (h : OwnI σ m hs sz) (hok : σ.ok) (s : List Int) (at' : Int) (z : Nat) (h0 : 0 ≤ at') (hl : at' + z ≤ σ.n1) (hz : 1 ≤ z) (hlt : hs.length < 40) (hfree : freeAt (σ.taken 1) z at') :
    OwnI ((σ.made 1 at' s z fun _ => 0).writes 1 (rng at' z) (fun _ => ((σ.arrs.length : Int) + 1) % 256) z) m (hs ++ [(σ.arrs.length : Int) + 1]) (sz ++ [(z : Int)]) ∧
      cntTo (((σ.made 1 at' s z fun _ => 0).writes 1 (rng at' z) (fun _ => ((σ.arrs.length : Int) + 1) % 256) z).taken 1) σ.n1 = cntTo (σ.taken 1) σ.n1 + z := by
  have hcap : (σ.cap 1 : Int) = σ.n1 := by simp [Sp.cap]
  have hm := made_made hok 1 at' s z h0 (by omega)
  obtain ⟨w1, w2, w3⟩ := writes_same (σ.made 1 at' s z fun _ => 0) 1 (rng at' z) (fun _ => ((σ.arrs.length : Int) + 1) % 256) z
  have hvl : ((σ.made 1 at' s z fun _ => 0).vals 1).length = σ.n1 := by
    have e1 : (σ.made 1 at' s z fun _ => 0).vals 1 = ((σ.more ⟨1, at', z⟩).puts 1 at' (fun _ => 0) z).vals 1 := rfl
    rw [e1, puts_vals]
    have := vals_len hok 1
    have e2 : (σ.more ⟨1, at', z⟩).vals 1 = σ.vals 1 := rfl
    rw [e2]
    omega
  have hv := fill_nth (σ.made 1 at' s z fun _ => 0) 1 at' (((σ.arrs.length : Int) + 1) % 256) z z h0 (by rw [hvl]; exact hl) (Nat.le_refl _)
  generalize hσ : (σ.made 1 at' s z fun _ => 0).writes 1 (rng at' z) (fun _ => ((σ.arrs.length : Int) + 1) % 256) z = σ' at *
  have hfind : ∀ d, σ'.find d = if d = (σ.arrs.length : Int) + 1 then some ⟨1, s, rng at' z, false, σ.bufs.length⟩ else σ.find d := fun d => by rw [find_arrs w1, hm.find]
  have old : ∀ i, i < hs.length → nth hs i ≠ (σ.arrs.length : Int) + 1 := fun i hi e => by
    obtain ⟨a, b, hf, -⟩ := h.arr i hi
    obtain ⟨f1, f2⟩ := find_get hf
    have := (List.getElem?_eq_some_iff.1 f2).1
    unfold ix at this
    omega
  have bufl : ∀ d a, σ.find d = some a → a.buf < σ.bufs.length := fun d a hf => by
    obtain ⟨b, hb⟩ := (kind_of hok hf).buf
    exact (List.getElem?_eq_some_iff.1 hb).1
  have sn1 : ∀ i, i < hs.length → nth (hs ++ [(σ.arrs.length : Int) + 1]) i = nth hs i := fun i hi => nth_append_left hi
  have sn2 : nth (hs ++ [(σ.arrs.length : Int) + 1]) hs.length = (σ.arrs.length : Int) + 1 := by rw [nth_append_right (Nat.le_refl _)]; simp [nth]
  have tk : ∀ c, σ'.taken 1 c = true ↔ σ.taken 1 c = true ∨ (at' ≤ c ∧ c < at' + z) := fun c => by
    rw [← hσ, writes_taken, hm.taken hok]
    simp
  constructor
  · refine ⟨?_, by simp [h.len], ?_, by simp; omega, fun i hi => ?_, fun i j hij hj => ?_, fun d e x y hx hy hxy => ?_, fun d x hx => ?_⟩
    · have := w3 1
      rw [hm.cap] at this
      simp only [Sp.cap, if_true] at this
      rw [this]; exact h.n1
    · rw [live_arrs w1, hm.live, h.live]; simp
    · simp only [List.length_append, List.length_singleton] at hi
      by_cases hi' : i < hs.length
      · rw [sn1 i hi', nth_append_left (by rw [h.len]; exact hi')]
        obtain ⟨a, b, q1, q2, q3, q4, q5, q6, q7, q8⟩ := h.arr i hi'
        obtain ⟨-, b0, -, -, b2⟩ := hok.buf _ b q3
        rw [q4] at b2
        refine ⟨a, b, by rw [hfind, if_neg (old i hi')]; exact q1, q2, by rw [w2]; exact hm.buf_old.2 (.inl q3), q4, q5, q6, q7, fun c c1 c2 => ?_⟩
        rw [hv c]
        by_cases hc : at' ≤ (c : Int) ∧ (c : Int) < at' + z
        · have h1 := hfree c hc.1 hc.2
          rw [(taken_iff σ 1 c).2 ⟨a.buf, b, q3, used_of q1, q4, c1, c2⟩] at h1
          cases h1
        · rw [if_neg hc, hm.valk c (by omega), if_neg hc]
          exact q8 c c1 c2
      · have : i = hs.length := by omega
        subst this
        rw [sn2, nth_append_right (by rw [h.len]; exact Nat.le_refl _), h.len]
        refine ⟨⟨1, s, rng at' z, false, σ.bufs.length⟩, ⟨1, at', z⟩, by rw [hfind, if_pos rfl], rfl, by rw [w2]; exact hm.buf_old.2 (.inr ⟨rfl, rfl⟩), rfl, by simp, by show (1 : Int) ≤ (z : Int); omega, by simp [nth], fun c c1 c2 => ?_⟩
        rw [hv c, if_pos ⟨c1, c2⟩]
    · simp only [List.length_append, List.length_singleton] at hj
      rw [sn1 i (by omega)]
      by_cases hj' : j < hs.length
      · rw [sn1 j hj']; exact h.inj i j hij hj'
      · have : j = hs.length := by omega
        subst this
        rw [sn2]; exact old i (by omega)
    · rw [hfind] at hx hy
      split at hx
      · rename_i hd
        injection hx with hx
        split at hy
        · rename_i he; rw [hd, he]
        · have := bufl e y hy
          rw [← hxy, ← hx] at this
          simp at this
      · split at hy
        · injection hy with hy
          have := bufl d x hx
          rw [hxy, ← hy] at this
          simp at this
        · exact h.own d e x y hx hy hxy
    · rw [hfind] at hx
      simp only [List.length_append, List.length_singleton]
      split at hx
      · rename_i hd; exact ⟨hs.length, by omega, by rw [sn2]; exact hd.symm⟩
      · obtain ⟨i, hi, e⟩ := h.mem d x hx
        exact ⟨i, by omega, by rw [sn1 i hi]; exact e⟩
  · have e1 : cntTo (σ'.taken 1) σ.n1 = cntTo (fun c => σ.taken 1 c || (decide (((at'.toNat : Nat) : Int) ≤ c) && decide (c < ((at'.toNat : Nat) : Int) + (z : Int)))) σ.n1 := by
      refine cntTo_congr _ (fun c _ => ?_)
      rw [Bool.eq_iff_iff, tk, show ((at'.toNat : Nat) : Int) = at' by omega]
      simp
    rw [e1, cntTo_or _ (fun c _ e => by
      rw [show ((at'.toNat : Nat) : Int) = at' by omega] at e
      simp at e
      have := hfree c e.2.1 e.2.2
      rw [e.1] at this
      cases this), cntTo_seg]
    omega

end Go.Proofs.Yticbbncdcannlaa
