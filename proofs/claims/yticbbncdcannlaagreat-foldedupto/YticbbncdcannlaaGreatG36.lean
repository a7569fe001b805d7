/- Views of one array: what a cut, a turn, a stretch, a reshape of one of them is. No program. -/
import Derived.Test.YticbbncdcannlaaGreatG35
import Derived.Test.YticbbncdcannlaaGreatG04
import Derived.Test.YticbbncdcannlaaGreatG03
import Derived.Test.YticbbncdcannlaaGreatG32
import Derived.Test.YticbbncdcannlaaGreatG31

namespace Go.Proofs.YticbbncdcannlaaGreat

section
variable {σ : Sp} {E : List CE} {n : Nat} {V : List Int} {B : Nat}

theorem vol_whole {s : List Int} (h : okShape s) : 1 ≤ vol s := by
  have := vol_bd s h.2.1 h.1 s.length (Nat.le_refl _)
  rw [List.take_length] at this
  exact this.1

/-- Ranks that indices mean by a way that keeps them apart. -/
theorem once_rk {s s' : List Int} (hs : sized s) (hs' : sized s') (F : List Int → List Int) (hin : ∀ l, inB s' l → inB s (F l)) (hinj : ∀ l l', inB s' l → inB s' l' → F l = F l' → l = l') : Once ((List.range (vol s').toNat).map fun r : Nat => rank s (F (idx s' r))) := by
  intro a b hab hb he
  have hb' : b < (vol s').toNat := by simpa using hb
  rw [nth_lt (by simp; omega), nth_lt hb] at he
  simp only [List.getElem_map, List.getElem_range] at he
  have ha1 := idx_in s' a hs'
  have hb1 := idx_in s' b hs'
  have h1 := hin _ ha1
  have h2 := hin _ hb1
  unfold rank at he
  rw [if_pos ((inBb_iff _ _).2 h1), if_pos ((inBb_iff _ _).2 h2)] at he
  have e0 := hinj _ _ ha1 hb1 (by rw [← idx_rank s _ hs h1, he, idx_rank s _ hs h2])
  have e1 := rank_idx s' a hs' (by omega) (by omega)
  rw [e0, rank_idx s' b hs' (by omega) (by omega)] at e1
  omega

theorem cutRk_once {s : List Int} (hs : okShape s) {k cn : Nat} {start step : Int} (hk : k < s.length) (hc : 1 ≤ cn) (hst : step ≠ 0) (h : ∀ i : Nat, i < cn → 0 ≤ start + (i : Int) * step ∧ start + (i : Int) * step < nth s k) : Once (cutRk s k start cn step) := by
  have hsh := cut_shape hs hk hc hst h
  refine once_rk hs.2.1 hsh.2.1 (fun l => cutL l k start cn step) (fun l hl => cutL_in hs hk hc h hl) (fun l l' hl hl' e => ?_)
  have n1 : l.length = s.length := by rw [← hl.1]; simp
  have n2 : l'.length = s.length := by rw [← hl'.1]; simp
  refine ext_nth (n1.trans n2.symm) (fun j hj => ?_)
  have ej := congrArg (fun x => nth x j) e
  simp only [cutL] at ej
  rw [nth_setN _ _ _ _ (by omega), nth_setN _ _ _ _ (by omega)] at ej
  by_cases hjk : j = k
  · subst hjk
    rw [if_pos rfl, if_pos rfl] at ej
    by_cases h1 : (1 : Int) < cn
    · rw [if_pos h1, if_pos h1] at ej
      exact Int.eq_of_mul_eq_mul_right hst (by omega)
    · have b1 := hl.2 j (by simpa using hk)
      have b2 := hl'.2 j (by simpa using hk)
      rw [nth_setN _ _ _ _ hk, if_pos rfl] at b1 b2
      omega
  · rw [if_neg hjk, if_neg hjk] at ej
    exact ej

theorem turnRk_once {s ax : List Int} (hs : okShape s) (h : ax.length = s.length) (ha : axesTo s.length ax s.length) : Once (turnRk s ax) := by
  have hsh := turn_shape hs h ha
  refine once_rk hs.2.1 hsh.2.1 (fun l => turnTo s.length ax l s.length) (fun l hl => ⟨(turnTo_length _ _ _ _).symm, turnTo_in hs h ha hl s.length (Nat.le_refl _)⟩) (fun l l' hl hl' e => ?_)
  have n1 : l.length = s.length := by rw [← hl.1, turnS_length, h]
  have n2 : l'.length = s.length := by rw [← hl'.1, turnS_length, h]
  refine ext_nth (n1.trans n2.symm) (fun j hj => ?_)
  have h1 := turnTo_nth (l := l) ha j (by omega)
  have h2 := turnTo_nth (l := l') ha j (by omega)
  exact h1.symm.trans ((congrArg (fun x => nth x (nth ax j).toNat) e).trans h2)

theorem KM.cut (h : KM σ E n V B) {i : Nat} {e : CE} (he : E[i]? = some e) (hlt : E.length < 40) (k : Nat) (hk : k < e.shape.length) (cn : Nat) (hc : 1 ≤ cn) (start step : Int) (hst : step ≠ 0) (h60 : -60 ≤ step ∧ step ≤ 60) (hr : ∀ i : Nat, i < cn → 0 ≤ start + (i : Int) * step ∧ start + (i : Int) * step < nth e.shape k) (hm : σ.arrs.length + 1 ≤ 100000000) :
    (σ.cut e.h k start cn step).2 = ((σ.arrs.length : Int) + 1, 0) ∧ KM (σ.cut e.h k start cn step).1 (E ++ [⟨(σ.arrs.length : Int) + 1, e.shape.set k (cn : Int), picked e.ranks (cutRk e.shape k start cn step), e.ro⟩]) n V (B + 1) := by
  have hs : okShape e.shape := (h.aok he).shape
  have hsh := cut_shape hs hk hc hst hr
  have hle := cut_le hc hst hr
  have h6 := hs.2.1 k hk
  have hb : cutB e.shape k start cn step = true := by
    unfold cutB cutA
    rw [(cutR_iff _ _ _ _).2 ⟨.inr h60, fun i hi => ?_⟩]
    · simp
      omega
    · have := hr i (by omega)
      simpa using this
  have e1 : σ.cut e.h k start cn step = σ.derive e.arr (e.shape.set k (cn : Int)) (cutRk e.shape k start cn step) false := by
    unfold Sp.cut
    rw [h.find he]
    show (if cutB e.shape (k : Int) start cn step = false then _ else _) = _
    rw [hb]
    rfl
  have hvol : vol (e.shape.set k (cn : Int)) ≤ 400 := by
    have hlen : (e.shape.set k (cn : Int)).length = e.shape.length := by simp
    have hall : ∀ j, j < e.shape.length → 1 ≤ nth (e.shape.set k (cn : Int)) j ∧ nth (e.shape.set k (cn : Int)) j ≤ nth e.shape j := fun j hj => by
      rw [nth_setN e.shape k j _ hk]
      split
      · rename_i e; subst e; omega
      · exact ⟨(hs.2.1 j hj).1, Int.le_refl _⟩
    have := (vol_mono e.shape _ hlen hall e.shape.length (Nat.le_refl _)).2
    rw [List.take_length, List.take_of_length_le (by rw [hlen]; exact Nat.le_refl _)] at this
    exact Int.le_trans this (h.ent i e he).2.2.1
  have hpos := vol_whole hsh
  have := h.derive he (e.shape.set k (cn : Int)) (cutRk e.shape k start cn step) false hlt hsh hvol (by rw [cutRk_length]; omega) (fun j hj => by
    rw [cutRk_length] at hj
    rw [h.rlen he]
    exact cutRk_bd hs hk hc hst hr j hj) (fun _ => cutRk_once hs hk hc hst hr) hm
  rw [e1]
  simpa using this

theorem KM.turn (h : KM σ E n V B) {i : Nat} {e : CE} (he : E[i]? = some e) (hlt : E.length < 40) (ax : List Int) (hax : ax.length = e.shape.length) (ha : axesTo e.shape.length ax e.shape.length) (hm : σ.arrs.length + 1 ≤ 100000000) :
    (σ.turn e.h ax).2 = ((σ.arrs.length : Int) + 1, 0) ∧ KM (σ.turn e.h ax).1 (E ++ [⟨(σ.arrs.length : Int) + 1, turnS e.shape ax, picked e.ranks (turnRk e.shape ax), e.ro⟩]) n V (B + 1) := by
  have hs : okShape e.shape := (h.aok he).shape
  have hsh := turn_shape hs hax ha
  have e1 : σ.turn e.h ax = σ.derive e.arr (turnS e.shape ax) (turnRk e.shape ax) false := by
    unfold Sp.turn
    rw [h.find he]
    show (if turnB e.shape.length ax = false then _ else _) = _
    rw [(turnB_iff _ _).2 ⟨hax, ha⟩]
    rfl
  have hpos := vol_whole hsh
  have := h.derive he (turnS e.shape ax) (turnRk e.shape ax) false hlt hsh (by rw [turn_vol e.shape ax hs.1 hax ha]; exact (h.ent i e he).2.2.1) (by rw [turnRk_length]; omega) (fun j hj => by
    rw [turnRk_length] at hj
    rw [h.rlen he]
    exact turnRk_bd hs hax ha j hj) (fun _ => turnRk_once hs hax ha) hm
  rw [e1]
  simpa using this

theorem KM.stretch (h : KM σ E n V B) {i : Nat} {e : CE} (he : E[i]? = some e) (hlt : E.length < 40) (s : List Int) (hs' : okShape s) (hv : vol s ≤ 400) (hst : stretchB e.shape s = true) (hm : σ.arrs.length + 1 ≤ 100000000) :
    (σ.stretch e.h s).2 = ((σ.arrs.length : Int) + 1, 0) ∧ KM (σ.stretch e.h s).1 (E ++ [⟨(σ.arrs.length : Int) + 1, s, picked e.ranks (meant e.shape s), true⟩]) n V (B + 1) := by
  have hs : okShape e.shape := (h.aok he).shape
  have e1 : σ.stretch e.h s = σ.derive e.arr s (meant e.shape s) true := by
    unfold Sp.stretch
    rw [h.find he]
    show (if shapeB s = false then _ else if stretchB e.shape s = false then _ else _) = _
    rw [(shapeB_iff s).2 hs', hst]
    rfl
  have hpos := vol_whole hs'
  have := h.derive he s (meant e.shape s) true hlt hs' hv (by rw [meant_length]; omega) (fun j hj => by
    rw [meant_length] at hj
    rw [h.rlen he]
    exact meant_bd e.shape s hs hs' hst j hj) (by intro h; cases h) hm
  rw [e1]
  simpa using this

theorem KM.reshape (h : KM σ E n V B) {i : Nat} {e : CE} (he : E[i]? = some e) (hlt : E.length < 40) (s : List Int) (hs' : okShape s) (hv : vol s = vol e.shape) (hm : σ.arrs.length + 1 ≤ 100000000) :
    (evenB s e.ranks = true ∧ (σ.reshape e.h s).2 = ((σ.arrs.length : Int) + 1, true, 0) ∧ KM (σ.reshape e.h s).1 (E ++ [⟨(σ.arrs.length : Int) + 1, s, e.ranks, e.ro⟩]) n V (B + 1)) ∨
    (evenB s e.ranks = false ∧ ∃ f : Nat → Int, (∀ j, j < e.ranks.length → f j = nth (e.told V) j) ∧ (σ.reshape e.h s).1 = (σ.fresh 2 s f).1 ∧ (σ.reshape e.h s).2 = ((σ.fresh 2 s f).2.1, false, (σ.fresh 2 s f).2.2)) := by
  have hlv : ¬ 40 ≤ σ.live := by rw [h.live]; omega
  have e1 : σ.reshape e.h s = if evenB s e.ranks = true then (σ.lay ⟨2, s, e.ranks, e.ro, 0⟩, (σ.arrs.length : Int) + 1, true, 0) else
      ((σ.fresh 2 s (fun i => asK 2 (nth (σ.valuesOf e.arr) i))).1, (σ.fresh 2 s (fun i => asK 2 (nth (σ.valuesOf e.arr) i))).2.1, false, (σ.fresh 2 s (fun i => asK 2 (nth (σ.valuesOf e.arr) i))).2.2) := by
    unfold Sp.reshape
    rw [h.find he]
    show (if shapeB s = false ∨ vol s ≠ vol e.shape then _ else if evenB s e.ranks = true then (if 40 ≤ σ.live then _ else _) else _) = _
    rw [if_neg (by rw [(shapeB_iff s).2 hs']; simp [hv]), if_neg hlv]
    rfl
  cases hb : evenB s e.ranks with
  | true =>
    rw [hb, if_pos rfl] at e1
    left
    rw [e1]
    exact ⟨rfl, rfl, h.lay s e.ranks e.ro hs' (by rw [hv]; exact (h.ent i e he).2.2.1) (by rw [hv]; exact h.rlen he) (fun j hj => h.rk he j hj) (fun hro => h.inj i e he hro) hm⟩
  | false =>
    rw [hb, if_neg (by simp)] at e1
    right
    refine ⟨rfl, _, fun j _ => ?_, by rw [e1], by rw [e1]⟩
    show asK 2 (nth (σ.valuesOf e.arr) j) = _
    rw [h.told he]
    rfl

end

end Go.Proofs.YticbbncdcannlaaGreat

/- The keeping statements' small functions, walked: volume, index, rank. -/
namespace Go.Proofs.YticbbncdcannlaaGreat
open Go.RowKit

set_option maxHeartbeats 400000 in
theorem kvolume_any (g o c : Nat) (xs : List Int) (w : World) (hs : sized xs) (hl : xs.length ≤ 4)
    (h1 : ∀ j, j < xs.length → w.cell? ⟨g, o + j, none⟩ = some (.int .i64 (nth xs j))) :
    Calls Tryz.prog 23 #[.slice (some ⟨g, o, none⟩) xs.length c] w fun e w' => e = .returned (.int .i64 (vol xs)) ∧ w' = w := by
  go_enter Tryz.func23, Tryz.ntmps23
  go_wp2
  go_loop [3, 4] (fun v i => ∃ k : Nat, k ≤ xs.length ∧ i = .int .i64 k ∧ v = .int .i64 (vol (xs.take k))) (fun _ i => xs.length - (intOf i).toNat)
  case atStart => exact ⟨0, Nat.zero_le _, rfl, rfl⟩
  case round =>
    obtain ⟨k, hk, rfl, rfl⟩ := hrel
    by_cases hlt : k < xs.length
    · have q1 := h1 k hlt
      have b1 := vol_bd xs hs hl k hk
      have b2 := vol_bd xs hs hl (k + 1) hlt
      have HV : Hid (vol (xs.take (k + 1)) = vol (xs.take k) * nth xs k) := vol_take xs k hlt
      rw [vol_take xs k hlt] at b2
      go_wp2
      go_round
      case rel => exact ⟨k + 1, by omega, by go_num, by rw [HV.out]⟩
      case measure => simp [intOf]; omega
    · go_wp2
      go_ret
      exact ⟨ret_int (by rw [List.take_of_length_le (by omega)]), rfl⟩

set_option maxHeartbeats 400000 in
theorem kvolume_nil (a : Option Addr) (c : Nat) (w : World) :
    Calls Tryz.prog 23 #[.slice a 0 c] w fun e w' => e = .returned (.int .i64 1) ∧ w' = w := by
  go_enter Tryz.func23, Tryz.ntmps23
  go_wp2
  refine wp_loop_rounds 1 ?_
  rw [rounds_succ]
  go_wp2
  go_ret
  exact ⟨rfl, rfl⟩

theorem kvolume_calls (v : Value) (xs : List Int) (w : World) (h : RdI w v xs) (hs : sized xs) (hl : xs.length ≤ 4) :
    Calls Tryz.prog 23 #[v] w fun e w' => e = .returned (.int .i64 (vol xs)) ∧ w' = w := by
  obtain ⟨a, c, rfl, h⟩ := h
  by_cases hx : xs = []
  · subst hx
    exact kvolume_nil a c w
  · obtain ⟨g, o, rfl, h'⟩ := h hx
    exact kvolume_any g o c xs w hs hl h'

set_option maxRecDepth 100000 in
set_option maxHeartbeats 1000000 in
theorem kindex_any (g o c n : Nat) (s : List Int) (r : Int) (w : World) (hs : sized s) (hn : s.length = n) (hl : n ≤ 4) (hr0 : 0 ≤ r) (hr : r ≤ 100000000)
    (h1 : ∀ j, j < n → w.cell? ⟨g, o + j, none⟩ = some (.int .i64 (nth s j))) :
    Calls Tryz.prog 32 #[.slice (some ⟨g, o, none⟩) n c, .int .i64 r] w fun e w' => e = .returned (.slice (some ⟨w.heap.size, 0, none⟩) n n) ∧ Kp0 w w' ∧ w'.heap[w.heap.size]? = some (.cells (ints (idx s r)).toArray 3 (0, 0)) := by
  have hmk := fun W => run_mk (P := Tryz.prog) 26 3 (.int .i64 0) 8 Tryz.underlying26 Tryz.infoInt rfl (by omega) n (by omega) W
  have HC := hid h1
  have HS := hid hs
  have HN := hid hn
  have HBD : Hid (∀ m, m ≤ n → 0 ≤ remTo s r m ∧ remTo s r m ≤ r) := hid (fun m hm => remTo_bd s r hr0 hs m (by omega))
  have HIL : Hid ((idx s r).length = n) := hid (by rw [idx_length, hn])
  have HIN : Hid (∀ j, j < n → nth (idx s r) j = remTo s r (n - 1 - j) % nth s j) := hid (fun j hj => by rw [idx_nth s r j (by omega), hn])
  have HRS : Hid (∀ j, j < n → remTo s r (n - j) = remTo s r (n - 1 - j) / nth s j) := hid (fun j hj => by
    rw [show n - j = (n - 1 - j) + 1 by omega]
    simp only [remTo]
    rw [hn, show n - 1 - (n - 1 - j) = j by omega])
  clear h1 hs hn
  go_enter Tryz.func32, Tryz.ntmps32
  go_wp2
  clear hmk
  go_loopw [1, 6] (fun t i w' => ∃ k : Nat, k ≤ n ∧ i = .int .i64 ((k : Int) - 1) ∧ t = .int .i64 (remTo s r (n - k)) ∧ Kp0 w w' ∧ w'.heap[w.heap.size]? = some (.cells (ints (tailFrom (idx s r) k)).toArray 3 (0, 0))) (fun _ i _ => (intOf i + 1).toNat)
  case atStart => exact ⟨n, Nat.le_refl _, by go_num, by rw [Nat.sub_self]; rfl, (Kp.refl _ _).alloc _, by rw [heap_alloc_new, tailFrom_all _ n HIL.out]⟩
  case round =>
    obtain ⟨k, hk, rfl, rfl, hK, hG⟩ := hrel
    have HK := hid hK
    have HG := hid hG
    cases k with
    | zero =>
      clear hK hG
      go_wp2
      go_ret
      refine ⟨rfl, HK.out, ?_⟩
      have := HG.out
      rwa [tailFrom_zero] at this
    | succ k =>
      have hkn : k < n := by omega
      have q := hK.cell (HC.out k hkn)
      obtain ⟨s1, s2⟩ := HS.out k (by have := HN.out; omega)
      obtain ⟨b1, b2⟩ := HBD.out (n - 1 - k) (by omega)
      obtain ⟨c1, c2⟩ := HBD.out (n - k) (by omega)
      have hn0 : (nth s k == 0) = false := by simp; omega
      have HM : Hid (remTo s r (n - 1 - k) % (nth s k) = nth (idx s r) k) := hid (by rw [HIN.out k hkn])
      have HD : Hid ((remTo s r (n - 1 - k)).tdiv (nth s k) = remTo s r (n - k)) := hid (by rw [HRS.out k hkn]; exact Int.tdiv_eq_ediv_of_nonneg b1)
      have hcell : wr.cell? ⟨w.heap.size, k, none⟩ = some (.int .i64 0) := by
        rw [cell_of_row wr _ _ _ _ _ hG]
        simp [ints, tailFrom, HIL.out, hkn]
        intro h
        omega
      have hfz : wr.frozen? ⟨w.heap.size, k, none⟩ = false := frozen_blk hG
      have e1 : ((k + 1 : Nat) : Int) - 1 = (k : Int) := by omega
      have hgs : g < w.heap.size := block_lt_of_cell (HC.out k hkn)
      have hm1 : (remTo s r (n - 1 - k)).tmod (nth s k) ≤ 100000000 ∧ 0 ≤ (remTo s r (n - 1 - k)).tmod (nth s k) := by
        have := Int.emod_lt_of_pos (remTo s r (n - 1 - k)) (show (0:Int) < nth s k by omega)
        have := Int.emod_nonneg (remTo s r (n - 1 - k)) (show nth s k ≠ 0 by omega)
        rw [Int.tmod_eq_emod_of_nonneg b1]
        omega
      have hd1 : 0 ≤ (remTo s r (n - 1 - k)).tdiv (nth s k) ∧ (remTo s r (n - 1 - k)).tdiv (nth s k) ≤ 100000000 := by
        rw [HD.out]; omega
      rw [show n - (k + 1) = n - 1 - k by omega, e1]
      clear hK hG c1 c2 e1
      generalize remTo s r (n - 1 - k) = rr at *
      go_wp2
      go_roundw
      case rel =>
        refine ⟨k, by omega, by go_num, ?_, Kp.setCell HK.out _ _ (fun h => by simp at h), ?_⟩
        · rw [← HD.out]
        · rw [heap_setCell_same _ _ _ _ _ _ HG.out]
          have := tailFrom_set (idx s r) k (by rw [HIL.out]; exact hkn)
          rw [← HM.out] at this
          rw [this]
      case measure => simp [intOf]

set_option maxHeartbeats 400000 in
theorem kindex_nil (a : Option Addr) (c : Nat) (r : Int) (w : World) :
    Calls Tryz.prog 32 #[.slice a 0 c, .int .i64 r] w fun e w' => e = .returned (.slice (some ⟨w.heap.size, 0, none⟩) 0 0) ∧ w' = w.alloc (.cells (rep 0 (.int .i64 0)) 3) := by
  have hmk := fun W => run_mk (P := Tryz.prog) 26 3 (.int .i64 0) 8 Tryz.underlying26 Tryz.infoInt rfl (by omega) 0 (by omega) W
  simp only [Int.natCast_zero] at hmk
  go_enter Tryz.func32, Tryz.ntmps32
  go_wp2
  refine wp_loop_rounds 1 ?_
  rw [rounds_succ]
  go_wp2
  go_ret
  exact ⟨rfl, rfl⟩

theorem kindex_calls (v : Value) (s : List Int) (r : Int) (w : World) (h : RdI w v s) (hs : sized s) (hl : s.length ≤ 4) (hr0 : 0 ≤ r) (hr : r ≤ 100000000) :
    Calls Tryz.prog 32 #[v, .int .i64 r] w fun e w' => e = .returned (.slice (some ⟨w.heap.size, 0, none⟩) s.length s.length) ∧ Kp0 w w' ∧ w'.heap[w.heap.size]? = some (.cells (ints (idx s r)).toArray 3 (0, 0)) := by
  obtain ⟨a, c, rfl, h⟩ := h
  by_cases hx : s = []
  · subst hx
    refine (kindex_nil a c r w).mono ?_
    rintro e w' ⟨rfl, rfl⟩
    refine ⟨rfl, (Kp.refl _ _).alloc _, ?_⟩
    rw [heap_alloc_new]
    rfl
  · obtain ⟨g, o, rfl, hc⟩ := h hx
    exact kindex_any g o c s.length s r w hs rfl hl hr0 hr hc

set_option maxRecDepth 100000 in
set_option maxHeartbeats 1000000 in
theorem krank_any (a b : Option Addr) (n c d : Nat) (s i : List Int) (w : World) (hn : s.length = n) (hs : okShape s) (hi : inB s i)
    (h1 : 0 < n → ∃ g o, a = some ⟨g, o, none⟩ ∧ ∀ j, j < n → w.cell? ⟨g, o + j, none⟩ = some (.int .i64 (nth s j)))
    (h2 : 0 < n → ∃ g o, b = some ⟨g, o, none⟩ ∧ ∀ j, j < n → w.cell? ⟨g, o + j, none⟩ = some (.int .i64 (nth i j))) :
    Calls Tryz.prog 33 #[.slice a n c, .slice b n d] w fun e w' => e = .returned (.int .i64 (rank s i)) ∧ Kp0 w w' := by
  have hn4 : n ≤ 4 := by have := hs.1; omega
  have HC1 := hid h1
  have HC2 := hid h2
  have HBD : Hid (∀ k, k ≤ n → 0 ≤ rankTo s i k ∧ rankTo s i k ≤ 12960000) := hid (fun k hk => by
    have a1 := rank_bd s i hs.2.1 hi.2 k (by omega)
    have a2 := vol_bd s hs.2.1 hs.1 k (by omega)
    omega)
  have HIN : Hid (∀ k, k < n → (0 ≤ nth i k ∧ nth i k ≤ 60) ∧ (1 ≤ nth s k ∧ nth s k ≤ 60)) := hid (fun k hk => by
    have a1 := hi.2 k (by omega)
    have a2 := hs.2.1 k (by omega)
    omega)
  have HR : Hid (rank s i = rankTo s i n) := hid (by rw [rank_in hi, hn])
  clear h1 h2 hn hs hi
  go_enter Tryz.func33, Tryz.ntmps33
  go_wp2
  go_loopw [5, 6] (fun r t w' => ∃ k : Nat, k ≤ n ∧ t = .int .i64 k ∧ r = .int .i64 (rankTo s i k) ∧ ∃ m, w' = w.drewN m) (fun _ t _ => n - (intOf t).toNat)
  case atStart => exact ⟨0, Nat.zero_le _, rfl, rfl, 0, rfl⟩
  case round =>
    obtain ⟨k, hk, rfl, rfl, m, rfl⟩ := hrel
    by_cases hlt : k < n
    · obtain ⟨g, o, rfl, q1⟩ := HC1.out (by omega)
      obtain ⟨g2, o2, rfl, q2⟩ := HC2.out (by omega)
      have c1 := q1 k hlt
      have c2 := q2 k hlt
      obtain ⟨b1, b2⟩ := HBD.out k hk
      obtain ⟨b3, b4⟩ := HBD.out (k + 1) hlt
      obtain ⟨⟨b5, b6⟩, b7, b8⟩ := HIN.out k hlt
      have HV : Hid (rankTo s i (k + 1) = rankTo s i k * nth s k + nth i k) := hid rfl
      rw [HV.out] at b3 b4
      have i1 : (0 : Int) ≤ (k : Int) := by omega
      have i2 : (k : Int) < (n : Int) := by omega
      generalize rankTo s i k = rk at *
      generalize nth s k = sk at *
      generalize nth i k = ik at *
      have e1 : IntKind.i64.wrap (rk * sk) = rk * sk := by simp [IntKind.wrap, IntKind.signed, IntKind.bits]; omega
      have e2 : IntKind.i64.wrap (rk * sk + ik) = rk * sk + ik := by simp [IntKind.wrap, IntKind.signed, IntKind.bits]; omega
      clear q1 q2
      go_wp2
      go_quiet (fail)
      go_wp2
      go_roundw
      case rel => exact ⟨k + 1, by omega, by go_num, by rw [HV.out], _, rfl⟩
      case measure => simp [intOf]; omega
    · have HK : Hid (k = n) := hid (by omega)
      have i2 : ¬ (k : Int) < (n : Int) := by omega
      go_wp2
      go_ret
      rw [HR.out, HK.out]
      exact ⟨rfl, (Kp.refl _ _).drewN m⟩

theorem krank_calls (va vb : Value) (s i : List Int) (w : World) (ha : RdI w va s) (hb : RdI w vb i) (hs : okShape s) (hi : inB s i) :
    Calls Tryz.prog 33 #[va, vb] w fun e w' => e = .returned (.int .i64 (rank s i)) ∧ Kp0 w w' := by
  obtain ⟨a, c, rfl, g1⟩ := rd_parts ha
  obtain ⟨b, d, rfl, g2⟩ := rd_parts hb
  have hl := hi.1
  rw [← hl] at g2 ⊢
  exact krank_any a b s.length c d s i w rfl hs hi g1 g2

end Go.Proofs.YticbbncdcannlaaGreat

/- The keeping statements' small functions, walked: sizes, first. -/
namespace Go.Proofs.YticbbncdcannlaaGreat
open Go.RowKit

/-- Sizes out of raw numbers: up to three axes of 1 to 5. -/
def sizesOf (raw : List Int) : List Int := (raw.take 3).map fun c => 1 + pickN c 5
theorem sizesOf_length (raw : List Int) : (sizesOf raw).length = min 3 raw.length := by simp [sizesOf]
theorem sizesOf_nth (raw : List Int) (k : Nat) (h : k < (sizesOf raw).length) : nth (sizesOf raw) k = 1 + pickN (nth raw k) 5 := by
  rw [nth_lt h]
  rw [sizesOf_length] at h
  simp [sizesOf, nth_lt (show k < raw.length by omega)]
theorem sizesOf_take (raw : List Int) (k : Nat) (h : k < (sizesOf raw).length) : (sizesOf raw).take (k + 1) = (sizesOf raw).take k ++ [1 + pickN (nth raw k) 5] := by
  rw [take_snoc _ k h, sizesOf_nth raw k h]
theorem sizesOf_small (raw : List Int) (k : Nat) (h : k < (sizesOf raw).length) : 1 ≤ nth (sizesOf raw) k ∧ nth (sizesOf raw) k ≤ 5 := by
  rw [sizesOf_nth raw k h]
  have := pickN_bd (nth raw k) 5 (by omega)
  omega
theorem sizesOf_shape (raw : List Int) : okShape (sizesOf raw) ∧ vol (sizesOf raw) ≤ 125 := by
  have hl := sizesOf_length raw
  have key : ∀ k, k ≤ (sizesOf raw).length → 1 ≤ vol ((sizesOf raw).take k) ∧ vol ((sizesOf raw).take k) ≤ (5 : Int) ^ k := by
    intro k
    induction k with
    | zero => intro _; simp [vol]
    | succ k ih =>
      intro hk
      obtain ⟨i1, i2⟩ := ih (by omega)
      obtain ⟨s1, s2⟩ := sizesOf_small raw k (by omega)
      rw [vol_take _ k (by omega), Int.pow_succ]
      exact mul_bd i1 i2 s1 s2
  have h := (key _ (Nat.le_refl _)).2
  rw [List.take_length] at h
  have hv : vol (sizesOf raw) ≤ 125 := by
    refine Int.le_trans h ?_
    have h3 : (sizesOf raw).length ≤ 3 := by omega
    match (sizesOf raw).length, h3 with
    | 0, _ => decide
    | 1, _ => decide
    | 2, _ => decide
    | 3, _ => decide
  exact ⟨⟨by omega, fun j hj => by have := sizesOf_small raw j hj; omega, by omega⟩, hv⟩

set_option maxRecDepth 100000 in
set_option maxHeartbeats 2000000 in
theorem sizes_any (a : Option Addr) (n c : Nat) (raw : List Int) (w : World) (hn : raw.length = n) (hb : n ≤ 1000000000) (hwf : ∀ j, j < n → IntKind.i64.wrap (nth raw j) = nth raw j)
    (h1 : 0 < n → ∃ g o, a = some ⟨g, o, none⟩ ∧ ∀ j, j < n → w.cell? ⟨g, o + j, none⟩ = some (.int .i64 (nth raw j))) :
    Calls Tryz.prog 43 #[.slice a n c] w fun e w' => ∃ ao c, e = .returned (.slice ao (sizesOf raw).length c) ∧ OwI w' (.slice ao (sizesOf raw).length c) (sizesOf raw) ∧ Kp0 w w' ∧ ∀ b, (Value.slice ao (sizesOf raw).length c).ownBlock = some b → w.heap.size ≤ b := by
  have HC := hid h1
  have HWF := hid hwf
  have HL : Hid ((sizesOf raw).length = min 3 n) := hid (by rw [sizesOf_length, hn])
  have HT := hid (sizesOf_take raw)
  clear h1 hwf hn
  go_enter Tryz.func43, Tryz.ntmps43
  go_wp2
  go_loopw [3, 4] (fun l t w' => ∃ k : Nat, k ≤ min 3 n ∧ t = .int .i64 k ∧ ∃ ao c, l = .slice ao k c ∧ OwI w' (.slice ao k c) ((sizesOf raw).take k) ∧ Kp0 w w' ∧ (∀ b, (Value.slice ao k c).ownBlock = some b → w.heap.size ≤ b)) (fun _ t _ => 3 - (intOf t).toNat)
  case atStart => exact ⟨0, Nat.zero_le _, rfl, none, 0, rfl, OwI.nil _, Kp0.refl _, fun b hb => by simp [Value.ownBlock] at hb⟩
  case round =>
    obtain ⟨k, hk, rfl, ao, cc, rfl, hO, hK, hB⟩ := hrel
    have HO := hid hO
    have HB := hid hB
    have HK := hid hK
    clear hO hB
    by_cases hlt : k < min 3 n
    · obtain ⟨g, o, rfl, q1⟩ := HC.out (by omega)
      have c1 := hK.cell (q1 k (by omega))
      have HW := hid (HWF.out k (by omega))
      have HTK := hid (HT.out k (by have := HL.out; omega))
      have i0 : (0 : Int) ≤ (k : Int) := by omega
      have i1 : (k : Int) < (n : Int) := by omega
      have i2 : (k : Int) < 3 := by omega
      have hp := pickN_bd (nth raw k) 5 (by omega)
      generalize nth raw k = x at *
      clear hK q1
      go_wp2_with fail
      refine (pick_calls x 5 wr HW.out (by omega)).mono ?_
      rintro e w' ⟨rfl, hw⟩
      obtain rfl := hw.symm
      have HBN : Hid (k + [1 + pickN x 5].length ≤ 1000000000000) := hid (by simp; omega)
      generalize pickN x 5 = y at *
      go_wp2_with (at_builtin; refine wpList_app (by rfl) _ _ (by rfl) ao k cc ((sizesOf raw).take k) [1 + y] _ (by rfl) (by rfl) (HO.out.alloc _) (RdI.one _ _) HBN.out (wr.heap.size + 1) (by simp) ?_)
      intro ao' cc' w7 hC7 hG7 hB7
      have hK7 : Kp0 w w7 := Kp.grown (Kp.alloc HK.out _) hG7 (fun b hb h => by have := HB.out b hb; omega)
      have hB7' : ∀ b, (Value.slice ao' (k + 1) cc').ownBlock = some b → w.heap.size ≤ b := by
        intro b hb
        rcases hB7 b hb with h | h
        · exact HB.out b h
        · have := HK.out.size; omega
      have HC7 := hid hC7
      have HK7 := hid hK7
      have HB7 := hid hB7'
      clear hC7 hK7 hB7 hB7' hG7
      go_wp2
      go_roundw
      case rel => exact ⟨k + 1, by omega, by go_num, ao', cc', rfl, by rw [HTK.out]; exact HC7.out, HK7.out, HB7.out⟩
      case measure => simp [intOf]; omega
    · have HKN : Hid (k = (sizesOf raw).length) := hid (by have := HL.out; omega)
      clear hK
      by_cases h3 : (k : Int) < (n : Int)
      · have i2 : ¬ (k : Int) < 3 := by omega
        go_wp2
        go_ret
        have hO := HO.out
        rw [HKN.out, List.take_length] at hO
        refine ⟨ao, cc, ?_, hO, HK.out, ?_⟩
        · rw [← HKN.out]; rfl
        · rw [← HKN.out]; exact HB.out
      · go_wp2
        go_ret
        have hO := HO.out
        rw [HKN.out, List.take_length] at hO
        refine ⟨ao, cc, ?_, hO, HK.out, ?_⟩
        · rw [← HKN.out]; rfl
        · rw [← HKN.out]; exact HB.out

theorem sizes_calls (v : Value) (raw : List Int) (w : World) (hr : RdI w v raw) (hb : raw.length ≤ 1000000000) (hwf : ∀ j, j < raw.length → IntKind.i64.wrap (nth raw j) = nth raw j) :
    Calls Tryz.prog 43 #[v] w fun e w' => ∃ ao c, e = .returned (.slice ao (sizesOf raw).length c) ∧ OwI w' (.slice ao (sizesOf raw).length c) (sizesOf raw) ∧ Kp0 w w' ∧ ∀ b, (Value.slice ao (sizesOf raw).length c).ownBlock = some b → w.heap.size ≤ b := by
  obtain ⟨a, c, rfl, g1⟩ := rd_parts hr
  exact sizes_any a raw.length c raw w rfl hb hwf g1

end Go.Proofs.YticbbncdcannlaaGreat

/- The cast in memory; put, walked. -/
namespace Go.Proofs.YticbbncdcannlaaGreat
open Go.RowKit

/-- The kinds of the cast's four lists. -/
def castTy (i : Nat) : TypeId := if i = 1 then 3 else if i = 4 then 4 else 26
def updF {α : Type} (f : Nat → α) (k : Nat) (v : α) : Nat → α := fun j => if j = k then v else f j

/-- The cast's block and its four lists. -/
structure CF (T : Tags) (w : World) (pc ps : Nat) (val : Nat → Value) (row : Nat → List Value) : Prop where
  blk : w.heap[pc]? = some (.cells #[.pointer (some ⟨ps, 0, none⟩), val 1, val 2, val 3, val 4] 41 (0, 0))
  own : ∀ i, 1 ≤ i → i ≤ 4 → w.ownsRow 0 (castTy i) 1 (val i) (row i).length (row i)
  tp : T pc = (0, 11)
  tv : ∀ i, 1 ≤ i → i ≤ 4 → Tagged T (val i) (0, 11 + i)

theorem CF.kp {T : Tags} {w w' : World} {pc ps : Nat} {val : Nat → Value} {row : Nat → List Value} {Z : Nat → Prop} (h : CF T w pc ps val row) (k : Kp Z w w') (hz : ∀ b i, i ≤ 4 → T b = (0, 11 + i) → ¬ Z b) : CF T w' pc ps val row :=
  ⟨k.heap h.blk (hz pc 0 (by omega) h.tp), fun i h1 h4 => row_kp (h.own i h1 h4) k (fun b hb => hz b i h4 (h.tv i h1 h4 b hb)), h.tp, h.tv⟩

theorem CF.tags {T T' : Tags} {w : World} {pc ps : Nat} {val : Nat → Value} {row : Nat → List Value} (h : CF T w pc ps val row) (k : TagsTo w T T') : CF T' w pc ps val row :=
  ⟨h.blk, h.own, (k pc (lt_of_heap h.blk)).trans h.tp, fun i h1 h4 b hb => (k b (own_lt (h.own i h1 h4) hb)).trans (h.tv i h1 h4 b hb)⟩

/-- One thing more in one of the lists. -/
theorem CF.app {T : Tags} {w w1 : World} {pc ps : Nat} {val : Nat → Value} {row : Nat → List Value} (h : CF T w pc ps val row) (i : Nat) (h1 : 1 ≤ i) (h4 : i ≤ 4) {x : Obj} {g cap n : Nat} {u : Value} (hn : n = (row i).length)
    (own1 : w1.ownsRow 0 (castTy i) 1 (.slice (some ⟨g, 0, none⟩) (n + 1) cap) (n + 1) (row i ++ [u])) (grow1 : (w.alloc x).grownBy w1 (val i).ownBlock) (at1 : (val i).ownBlock = some g ∨ g = w.heap.size + 1) :
    CF (retag w T (0, 11 + i)) (w1.setCell ⟨pc, i, none⟩ (.slice (some ⟨g, 0, none⟩) (n + 1) cap)) pc ps (updF val i (.slice (some ⟨g, 0, none⟩) (n + 1) cap)) (updF row i (row i ++ [u])) ∧
      Kp (fun b => T b = (0, 11) ∨ T b = (0, 11 + i)) w (w1.setCell ⟨pc, i, none⟩ (.slice (some ⟨g, 0, none⟩) (n + 1) cap)) := by
  subst hn
  have hpl : pc < w.heap.size := lt_of_heap h.blk
  have tr := retag_to w T (0, 11 + i)
  have hpv : ∀ j, 1 ≤ j → j ≤ 4 → some pc ≠ (val j).ownBlock := fun j j1 j4 e => by
    have := h.tv j j1 j4 pc e.symm
    rw [h.tp] at this
    simp at this
    omega
  have hk1 : Kp (fun b => T b = (0, 11) ∨ T b = (0, 11 + i)) w w1 := ((Kp.refl _ _).alloc x).grown grow1 (fun b hb _ => .inr (h.tv i h1 h4 b hb))
  have hk := hk1.setCell ⟨pc, i, none⟩ (.slice (some ⟨g, 0, none⟩) ((row i).length + 1) cap) (fun _ => .inl h.tp)
  have tg : retag w T (0, 11 + i) g = (0, 11 + i) := by
    rcases at1 with e | e
    · rw [tr g (own_lt (h.own i h1 h4) e)]; exact h.tv i h1 h4 g e
    · exact retag_new (by omega)
  have hgp : g ≠ pc := fun e => by
    rw [e, tr pc hpl, h.tp] at tg
    simp at tg
    omega
  have hp1 : w1.heap[pc]? = w.heap[pc]? := (grow1.block pc (by simp; omega) (hpv i h1 h4)).trans (Below.heap_alloc w x pc hpl)
  refine ⟨⟨?_, fun j j1 j4 => ?_, (tr pc hpl).trans h.tp, fun j j1 j4 b hb => ?_⟩, hk⟩
  · have := heap_setCell_same w1 pc i _ _ (.slice (some ⟨g, 0, none⟩) ((row i).length + 1) cap) (hp1.trans h.blk)
    rw [this]
    have hi : i = 1 ∨ i = 2 ∨ i = 3 ∨ i = 4 := by omega
    rcases hi with rfl | rfl | rfl | rfl <;> rfl
  · by_cases e : j = i
    · subst e
      simp only [updF, if_true]
      have := ownsRow_setCell_other own1 (a := ⟨pc, j, none⟩) (by simp [Value.ownBlock]; exact hgp) (.slice (some ⟨g, 0, none⟩) ((row j).length + 1) cap)
      simpa using this
    · simp only [updF, e, if_false]
      refine row_kp (h.own j j1 j4) hk (fun b hb hh => ?_)
      have := h.tv j j1 j4 b hb
      rw [this] at hh
      simp at hh
      omega
  · by_cases e : j = i
    · subst e
      simp only [updF, if_true, Value.ownBlock, Option.some.injEq] at hb
      subst hb
      exact tg
    · simp only [updF, e, if_false] at hb
      rw [tr b (own_lt (h.own j j1 j4) hb)]
      exact h.tv j j1 j4 b hb

/-- A list of the cast's: it can be read, and stays. -/
def capOk : Value → Prop
  | .slice _ n c => n ≤ c
  | _ => True

theorem OwI.cap {w : World} {v : Value} {xs : List Int} (h : OwI w v xs) : capOk v := by
  rcases h.2 with ⟨rfl, h0⟩ | ⟨g, cap, cur, rfl, _, hg, hn, hc, hs, ht⟩
  · exact Nat.le_refl _
  · exact hn

def RdT (T : Tags) (w : World) (v : Value) (xs : List Int) : Prop := RdI w v xs ∧ ∀ b, v.ownBlock = some b → b < w.heap.size ∧ ∃ k, (16 ≤ k ∧ capOk v) ∧ T b = (0, k)

theorem RdT.kp {T T' : Tags} {w w' : World} {v : Value} {xs : List Int} {Z : Nat → Prop} (h : RdT T w v xs) (ht : TagsTo w T T') (k : Kp Z w w') (hz : ∀ b i, b < w.heap.size → 16 ≤ i → T b = (0, i) → ¬ Z b) : RdT T' w' v xs :=
  ⟨h.1.kp k (fun b hb => by
    obtain ⟨h1, i, h2, h3⟩ := h.2 b hb
    exact hz b i h1 h2.1 h3), fun b hb => ⟨Nat.lt_of_lt_of_le (h.2 b hb).1 k.size, by rw [ht b (h.2 b hb).1]; exact (h.2 b hb).2⟩⟩

/-- The cast as plain data. -/
structure CAt (T : Tags) (w : World) (pc ps : Nat) (E : List CE) : Prop where
  mem : ∃ val row, CF T w pc ps val row ∧ row 1 = E.map (fun e => Value.int .i64 e.h) ∧ row 4 = E.map (fun e => Value.bool e.ro) ∧ (row 2).length = E.length ∧ (row 3).length = E.length ∧
    ∀ (i : Nat) (e : CE), E[i]? = some e → ∃ v u, (row 2)[i]? = some v ∧ (row 3)[i]? = some u ∧ RdT T w v e.shape ∧ RdT T w u e.ranks

theorem CAt.kp {T T' : Tags} {w w' : World} {pc ps : Nat} {E : List CE} {Z : Nat → Prop} (h : CAt T w pc ps E) (ht : TagsTo w T T') (k : Kp Z w w') (hz : ∀ b i, b < w.heap.size → 11 ≤ i → T b = (0, i) → ¬ Z b) : CAt T' w' pc ps E := by
  obtain ⟨val, row, h1, h2, h3, h4, h5, h6⟩ := h.mem
  have k' : Kp (fun b => b < w.heap.size ∧ Z b) w w' := k.mono (fun b hb e => ⟨hb, e⟩)
  refine ⟨val, row, (h1.tags ht).kp k' (fun b i hi e z => hz b (11 + i) z.1 (by omega) (by rw [← ht b z.1]; exact e) z.2), h2, h3, h4, h5, fun i e he => ?_⟩
  obtain ⟨v, u, g1, g2, g3, g4⟩ := h6 i e he
  exact ⟨v, u, g1, g2, g3.kp ht k (fun b i hb hi e => hz b i hb (by omega) e), g4.kp ht k (fun b i hb hi e => hz b i hb (by omega) e)⟩

/-- Beside memory that stays as it was in w0: a space of the owner 1, and the cast. -/
structure KI (w0 w : World) (T : Tags) (pc ps : Nat) (σ : Sp) (E : List CE) : Prop where
  rep : XRep T 1 w ps σ
  old : ∀ b, b < w0.heap.size → T b = (0, 0)
  keep : Kp0 w0 w
  cast : CAt T w pc ps E

theorem KI.goes {w0 w w' : World} {T T' : Tags} {pc ps : Nat} {σ σ' : Sp} {E : List CE} {Z : Nat → Prop} (h : KI w0 w T pc ps σ E) (ht : TagsTo w T T') (hr : XRep T' 1 w' ps σ') (k : Kp Z w w') (hz : ∀ b, b < w.heap.size → Z b → (T b).1 ≠ 0) : KI w0 w' T' pc ps σ' E :=
  ⟨hr, fun b hb => by rw [ht b (Nat.lt_of_lt_of_le hb h.keep.size)]; exact h.old b hb, Kp.trans h.keep k (fun i hi e => hz i (Nat.lt_of_lt_of_le hi h.keep.size) e (by rw [h.old i hi])),
    h.cast.kp ht k (fun b i hb _ e z => hz b hb z (by rw [e]))⟩

theorem KI.kp0 {w0 w w' : World} {T T' : Tags} {pc ps : Nat} {σ : Sp} {E : List CE} (h : KI w0 w T pc ps σ E) (ht : TagsTo w T T') (k : Kp0 w w') : KI w0 w' T' pc ps σ E :=
  h.goes ht ((h.rep.tags ht).kp k (fun _ _ e => e)) k (fun _ _ e => e.elim)

/-- What a call of the space leaves of it. -/
theorem KI.step {w0 w w' : World} {T : Tags} {pc ps : Nat} {σ σ' : Sp} {E : List CE} (h : KI w0 w T pc ps σ E) (hs : Step XRep T 1 w ps σ' w') : ∃ T', TagsTo w T T' ∧ KI w0 w' T' pc ps σ' E ∧ Kp (fun b => (T b).1 = 1) w w' := by
  obtain ⟨T', h1, h2, h3⟩ := hs
  exact ⟨T', h1, h.goes h1 h2 h3 (fun b _ e => by rw [e]; simp), h3⟩

theorem KI.ok {w0 w : World} {T : Tags} {pc ps : Nat} {σ : Sp} {E : List CE} (h : KI w0 w T pc ps σ E) : σ.ok := h.rep.1

theorem KI.cells {w0 w : World} {T : Tags} {pc ps : Nat} {σ : Sp} {E : List CE} (h : KI w0 w T pc ps σ E) :
    w.cell? ⟨pc, 0, none⟩ = some (.pointer (some ⟨ps, 0, none⟩)) ∧ ∃ g1 g2 g3 g4 c1 c2 c3 c4, (0 < E.length → w.cell? ⟨pc, 1, none⟩ = some (.slice (some ⟨g1, 0, none⟩) E.length c1) ∧ w.cell? ⟨pc, 2, none⟩ = some (.slice (some ⟨g2, 0, none⟩) E.length c2) ∧ w.cell? ⟨pc, 3, none⟩ = some (.slice (some ⟨g3, 0, none⟩) E.length c3) ∧ w.cell? ⟨pc, 4, none⟩ = some (.slice (some ⟨g4, 0, none⟩) E.length c4)) ∧
      (0 < E.length → (T pc).1 = 0 ∧ (T g1).1 = 0 ∧ (T g2).1 = 0 ∧ (T g3).1 = 0 ∧ (T g4).1 = 0) ∧
      ∀ (i : Nat) (e : CE), E[i]? = some e → w.cell? ⟨g1, i, none⟩ = some (.int .i64 e.h) ∧ w.cell? ⟨g4, i, none⟩ = some (.bool e.ro) ∧ ∃ a1 d1 a2 d2, w.cell? ⟨g2, i, none⟩ = some (.slice a1 e.shape.length d1) ∧ w.cell? ⟨g3, i, none⟩ = some (.slice a2 e.ranks.length d2) ∧ RdT T w (.slice a1 e.shape.length d1) e.shape ∧ RdT T w (.slice a2 e.ranks.length d2) e.ranks := by
  obtain ⟨val, row, h1, h2, h3, h4, h5, h6⟩ := h.cast.mem
  refine ⟨by simp [World.cell?, h1.blk], ?_⟩
  have hl1 : (row 1).length = E.length := by rw [h2]; simp
  have hl4 : (row 4).length = E.length := by rw [h3]; simp
  have key : ∀ i, 1 ≤ i → i ≤ 4 → (row i).length = E.length → ∃ g c, (0 < E.length → val i = .slice (some ⟨g, 0, none⟩) E.length c ∧ (T g).1 = 0) ∧ ∀ j, j < E.length → w.cell? ⟨g, j, none⟩ = (row i)[j]? := fun i i1 i4 hl => by
    have := h1.own i i1 i4
    rw [hl] at this
    rcases row_form this with ⟨_, h0⟩ | ⟨g, cap, hv, _, _, hc⟩
    · exact ⟨0, 0, fun h => by omega, fun j hj => by omega⟩
    · exact ⟨g, cap, fun _ => ⟨hv, by rw [h1.tv i i1 i4 g (by rw [hv]; rfl)]⟩, fun j hj => hc j (by omega)⟩
  obtain ⟨g1, c1, v1, q1⟩ := key 1 (by omega) (by omega) hl1
  obtain ⟨g2, c2, v2, q2⟩ := key 2 (by omega) (by omega) h4
  obtain ⟨g3, c3, v3, q3⟩ := key 3 (by omega) (by omega) h5
  obtain ⟨g4, c4, v4, q4⟩ := key 4 (by omega) (by omega) hl4
  refine ⟨g1, g2, g3, g4, c1, c2, c3, c4, fun hp => ?_, fun hp => ⟨by rw [h1.tp], (v1 hp).2, (v2 hp).2, (v3 hp).2, (v4 hp).2⟩, fun i e he => ?_⟩
  · rw [← (v1 hp).1, ← (v2 hp).1, ← (v3 hp).1, ← (v4 hp).1]
    simp [World.cell?, h1.blk]
  · have hi := (List.getElem?_eq_some_iff.1 he).1
    obtain ⟨v, u, r1, r2, r3, r4⟩ := h6 i e he
    obtain ⟨a1, d1, e1, _⟩ := r3.1
    obtain ⟨a2, d2, e2, _⟩ := r4.1
    refine ⟨by rw [q1 i hi, h2, List.getElem?_map, he]; rfl, by rw [q4 i hi, h3, List.getElem?_map, he]; rfl, a1, d1, a2, d2, by rw [q2 i hi, r1, e1], by rw [q3 i hi, r2, e2], by rw [← e1]; exact r3, by rw [← e2]; exact r4⟩

end Go.Proofs.YticbbncdcannlaaGreat

/- The cast in memory: put, walked. -/
namespace Go.Proofs.YticbbncdcannlaaGreat
open Go.RowKit

theorem cell_one_newW (w : World) (v : Value) (t : TypeId) (h : Nat) (e : w.heap.size = h) : ∀ j u, [v][j]? = some u → (w.alloc (.cells #[v] t)).cell? ((⟨h, 0, none⟩ : Addr).add j) = some u := by
  subst e
  exact cell_one_new w v t

theorem CF.cell {T : Tags} {w : World} {pc ps : Nat} {val : Nat → Value} {row : Nat → List Value} (h : CF T w pc ps val row) : w.cell? ⟨pc, 1, none⟩ = some (val 1) ∧ w.cell? ⟨pc, 2, none⟩ = some (val 2) ∧ w.cell? ⟨pc, 3, none⟩ = some (val 3) ∧ w.cell? ⟨pc, 4, none⟩ = some (val 4) := by
  simp [World.cell?, h.blk]

theorem CF.np {T : Tags} {w : World} {pc ps : Nat} {val : Nat → Value} {row : Nat → List Value} (h : CF T w pc ps val row) (i : Nat) (h1 : 1 ≤ i) (h4 : i ≤ 4) : some pc ≠ (val i).ownBlock := fun e => by
  have := h.tv i h1 h4 pc e.symm
  rw [h.tp] at this
  simp at this
  omega

set_option maxRecDepth 100000 in
set_option maxHeartbeats 4000000 in
theorem put_walk {T : Tags} {w : World} {pc ps : Nat} {val : Nat → Value} {row : Nat → List Value} (h : CF T w pc ps val row) (hd : Int) (sa ra : Option Addr) (sn sc rn rc : Nat) (ro : Bool) (n : Nat) (hn : n ≤ 1000) (hl : ∀ i, 1 ≤ i → i ≤ 4 → (row i).length = n) :
    Calls Tryz.prog 44 #[.pointer (some ⟨pc, 0, none⟩), .int .i64 hd, .slice sa sn sc, .slice ra rn rc, .bool ro] w fun e w' => e = .returned (.tuple #[]) ∧
      ∃ T' val' row', TagsTo w T T' ∧ CF T' w' pc ps val' row' ∧ row' 1 = row 1 ++ [.int .i64 hd] ∧ row' 2 = row 2 ++ [.slice sa sn sc] ∧ row' 3 = row 3 ++ [.slice ra rn rc] ∧ row' 4 = row 4 ++ [.bool ro] ∧ Kp (fun b => ∃ i, i ≤ 4 ∧ T b = (0, 11 + i)) w w' := by
  have HC0 := hid h
  have l1 := hl 1 (by omega) (by omega)
  have l2 := hl 2 (by omega) (by omega)
  have l3 := hl 3 (by omega) (by omega)
  have l4 := hl 4 (by omega) (by omega)
  obtain ⟨q1, q2, q3, q4⟩ := h.cell
  obtain ⟨v1, hv1⟩ : ∃ v, val 1 = v := ⟨_, rfl⟩
  obtain ⟨v2, hv2⟩ : ∃ v, val 2 = v := ⟨_, rfl⟩
  obtain ⟨v3, hv3⟩ : ∃ v, val 3 = v := ⟨_, rfl⟩
  obtain ⟨v4, hv4⟩ : ∃ v, val 4 = v := ⟨_, rfl⟩
  rw [hv1] at q1
  rw [hv2] at q2
  rw [hv3] at q3
  rw [hv4] at q4
  have f0 : ∀ j, w.frozen? ⟨pc, j, none⟩ = false := fun j => frozen_blk h.blk
  have f1 := f0 1
  have f2 := f0 2
  have f3 := f0 3
  have f4 := f0 4
  have hp0 : pc < w.heap.size := lt_of_heap h.blk
  have HV1 := hid hv1
  have HLN1 := hid l1
  have HV2 := hid hv2
  have HLN2 := hid l2
  have HV3 := hid hv3
  have HLN3 := hid l3
  have HV4 := hid hv4
  have HLN4 := hid l4
  obtain ⟨iinfoInt, hiinfoInt, hz0infoInt, hz1infoInt, hz2infoInt⟩ := info_parts Tryz.infoInt
  obtain ⟨iinfoSl, hiinfoSl, hz0infoSl, hz1infoSl, hz2infoSl⟩ := info_parts Tryz.infoSl
  obtain ⟨iinfoBool, hiinfoBool, hz0infoBool, hz1infoBool, hz2infoBool⟩ := info_parts Tryz.infoBool
  clear h hl f0 hv1 hv2 hv3 hv4 l1 l2 l3 l4
  have h63 : Hid (n + 1 ≤ maxLen) := hid (by unfold maxLen; omega)
  have hbytes : Hid ((n + 1) * 24 ≤ 140737488355328 ∧ (n + 1) * 8 ≤ 140737488355328 ∧ (n + 1) * 1 ≤ 140737488355328) := hid (by omega)
  go_enter Tryz.func44, Tryz.ntmps44
  have HO1 : Hid (w.ownsRow 0 3 1 v1 n (row 1)) := hid (by
    have := HC0.out.own 1 (by omega) (by omega)
    rw [show (row 1).length = n from HLN1.out] at this
    rw [← HV1.out]
    exact this)
  have HNP1 : Hid (some pc ≠ v1.ownBlock) := hid (by rw [← HV1.out]; exact HC0.out.np 1 (by omega) (by omega))
  go_wp2_with (at_builtin; refine wpList_append_lies _ rfl _ _ _ rfl 0 3 iinfoInt (.int .i64 0) 1 8 Tryz.underlying26 hiinfoInt hz0infoInt hz1infoInt hz2infoInt rfl (by omega) v1 n _ rfl (HO1.out.alloc _) ⟨w.heap.size, 0, none⟩ 1 1 [(.int .i64 hd)] rfl rfl (cell_one_newW _ _ _ _ (by simp)) (by intro u hu; simp at hu; subst hu; rfl) (by omega) h63.out (by have := hbytes.out; omega) (Nat.zero_le _) (w.heap.size + 1) (by simp) ?_)
  intro g1 cap1 x1 hown1 hgrow1 hat1 hlt1
  have hszw1 : w.heap.size = w.heap.size := by simp
  have hps1 : pc < w.heap.size := by rw [hszw1]; exact hp0
  have q1 : x1.cell? ⟨pc, 1, none⟩ = some v1 := hgrow1.cell (by rw [World.cell?_alloc_lt _ _ _ hps1]; exact q1) HNP1.out
  have f1 : x1.frozen? ⟨pc, 1, none⟩ = false := by
    rw [hgrow1.frozen_far _ (by simp; omega) HNP1.out, World.frozen?_alloc_past _ _ _ hps1]; exact f1
  have q2 : x1.cell? ⟨pc, 2, none⟩ = some v2 := hgrow1.cell (by rw [World.cell?_alloc_lt _ _ _ hps1]; exact q2) HNP1.out
  have f2 : x1.frozen? ⟨pc, 2, none⟩ = false := by
    rw [hgrow1.frozen_far _ (by simp; omega) HNP1.out, World.frozen?_alloc_past _ _ _ hps1]; exact f2
  have q3 : x1.cell? ⟨pc, 3, none⟩ = some v3 := hgrow1.cell (by rw [World.cell?_alloc_lt _ _ _ hps1]; exact q3) HNP1.out
  have f3 : x1.frozen? ⟨pc, 3, none⟩ = false := by
    rw [hgrow1.frozen_far _ (by simp; omega) HNP1.out, World.frozen?_alloc_past _ _ _ hps1]; exact f3
  have q4 : x1.cell? ⟨pc, 4, none⟩ = some v4 := hgrow1.cell (by rw [World.cell?_alloc_lt _ _ _ hps1]; exact q4) HNP1.out
  have f4 : x1.frozen? ⟨pc, 4, none⟩ = false := by
    rw [hgrow1.frozen_far _ (by simp; omega) HNP1.out, World.frozen?_alloc_past _ _ _ hps1]; exact f4
  have hp1 : pc < x1.heap.size := Nat.lt_of_lt_of_le (by simp; omega) hgrow1.size
  have hA1 := HC0.out.app 1 (by omega) (by omega) (show n = (row 1).length from HLN1.out.symm) hown1 (by show World.grownBy _ _ (val 1).ownBlock; rw [HV1.out]; exact hgrow1) (by show (val 1).ownBlock = _ ∨ _; rw [HV1.out, hszw1]; exact hat1)
  have HC1 := hid hA1.1
  have HK1 := hid hA1.2
  clear hown1 hgrow1 hat1 hlt1 hA1 hszw1 hps1
  have HO2 : Hid ((x1.setCell ⟨pc, 1, none⟩ (.slice (some ⟨g1, 0, none⟩) (n + 1) cap1)).ownsRow 0 26 1 v2 n ((updF row 1 (row 1 ++ [(.int .i64 hd)])) 2)) := hid (by
    have := HC1.out.own 2 (by omega) (by omega)
    rw [show ((updF row 1 (row 1 ++ [(.int .i64 hd)])) 2).length = n from HLN2.out] at this
    rw [← HV2.out]
    exact this)
  have HNP2 : Hid (some pc ≠ v2.ownBlock) := hid (by rw [← HV2.out]; exact HC1.out.np 2 (by omega) (by omega))
  go_wp2_with (at_builtin; refine wpList_append_lies _ rfl _ _ _ rfl 0 26 iinfoSl (.slice none 0 0) 1 24 Tryz.underlying25 hiinfoSl hz0infoSl hz1infoSl hz2infoSl rfl (by omega) v2 n _ rfl (HO2.out.alloc _) ⟨x1.heap.size, 0, none⟩ 1 1 [(.slice sa sn sc)] rfl rfl (cell_one_newW _ _ _ _ (by simp)) (by intro u hu; simp at hu; subst hu; rfl) (by omega) h63.out (by have := hbytes.out; omega) (Nat.zero_le _) (x1.heap.size + 1) (by simp) ?_)
  intro g2 cap2 x2 hown2 hgrow2 hat2 hlt2
  have hszw2 : (x1.setCell ⟨pc, 1, none⟩ (.slice (some ⟨g1, 0, none⟩) (n + 1) cap1)).heap.size = x1.heap.size := by simp
  have hps2 : pc < (x1.setCell ⟨pc, 1, none⟩ (.slice (some ⟨g1, 0, none⟩) (n + 1) cap1)).heap.size := by rw [hszw2]; exact hp1
  have q2 : x2.cell? ⟨pc, 2, none⟩ = some v2 := hgrow2.cell (by rw [World.cell?_alloc_lt _ _ _ hps2]; rw [World.cell?_setCell_other _ _ _ _ (by simp)]; exact q2) HNP2.out
  have f2 : x2.frozen? ⟨pc, 2, none⟩ = false := by
    rw [hgrow2.frozen_far _ (by simp; omega) HNP2.out, World.frozen?_alloc_past _ _ _ hps2]; simpa using f2
  have q3 : x2.cell? ⟨pc, 3, none⟩ = some v3 := hgrow2.cell (by rw [World.cell?_alloc_lt _ _ _ hps2]; rw [World.cell?_setCell_other _ _ _ _ (by simp)]; exact q3) HNP2.out
  have f3 : x2.frozen? ⟨pc, 3, none⟩ = false := by
    rw [hgrow2.frozen_far _ (by simp; omega) HNP2.out, World.frozen?_alloc_past _ _ _ hps2]; simpa using f3
  have q4 : x2.cell? ⟨pc, 4, none⟩ = some v4 := hgrow2.cell (by rw [World.cell?_alloc_lt _ _ _ hps2]; rw [World.cell?_setCell_other _ _ _ _ (by simp)]; exact q4) HNP2.out
  have f4 : x2.frozen? ⟨pc, 4, none⟩ = false := by
    rw [hgrow2.frozen_far _ (by simp; omega) HNP2.out, World.frozen?_alloc_past _ _ _ hps2]; simpa using f4
  have hp2 : pc < x2.heap.size := Nat.lt_of_lt_of_le (by simp; omega) hgrow2.size
  have hA2 := HC1.out.app 2 (by omega) (by omega) (show n = ((updF row 1 (row 1 ++ [(.int .i64 hd)])) 2).length from HLN2.out.symm) hown2 (by show World.grownBy _ _ (val 2).ownBlock; rw [HV2.out]; exact hgrow2) (by show (val 2).ownBlock = _ ∨ _; rw [HV2.out, hszw2]; exact hat2)
  have HC2 := hid hA2.1
  have HK2 := hid hA2.2
  clear hown2 hgrow2 hat2 hlt2 hA2 hszw2 hps2
  have HO3 : Hid ((x2.setCell ⟨pc, 2, none⟩ (.slice (some ⟨g2, 0, none⟩) (n + 1) cap2)).ownsRow 0 26 1 v3 n ((updF (updF row 1 (row 1 ++ [(.int .i64 hd)])) 2 ((updF row 1 (row 1 ++ [(.int .i64 hd)])) 2 ++ [(.slice sa sn sc)])) 3)) := hid (by
    have := HC2.out.own 3 (by omega) (by omega)
    rw [show ((updF (updF row 1 (row 1 ++ [(.int .i64 hd)])) 2 ((updF row 1 (row 1 ++ [(.int .i64 hd)])) 2 ++ [(.slice sa sn sc)])) 3).length = n from HLN3.out] at this
    rw [← HV3.out]
    exact this)
  have HNP3 : Hid (some pc ≠ v3.ownBlock) := hid (by rw [← HV3.out]; exact HC2.out.np 3 (by omega) (by omega))
  go_wp2_with (at_builtin; refine wpList_append_lies _ rfl _ _ _ rfl 0 26 iinfoSl (.slice none 0 0) 1 24 Tryz.underlying25 hiinfoSl hz0infoSl hz1infoSl hz2infoSl rfl (by omega) v3 n _ rfl (HO3.out.alloc _) ⟨x2.heap.size, 0, none⟩ 1 1 [(.slice ra rn rc)] rfl rfl (cell_one_newW _ _ _ _ (by simp)) (by intro u hu; simp at hu; subst hu; rfl) (by omega) h63.out (by have := hbytes.out; omega) (Nat.zero_le _) (x2.heap.size + 1) (by simp) ?_)
  intro g3 cap3 x3 hown3 hgrow3 hat3 hlt3
  have hszw3 : (x2.setCell ⟨pc, 2, none⟩ (.slice (some ⟨g2, 0, none⟩) (n + 1) cap2)).heap.size = x2.heap.size := by simp
  have hps3 : pc < (x2.setCell ⟨pc, 2, none⟩ (.slice (some ⟨g2, 0, none⟩) (n + 1) cap2)).heap.size := by rw [hszw3]; exact hp2
  have q3 : x3.cell? ⟨pc, 3, none⟩ = some v3 := hgrow3.cell (by rw [World.cell?_alloc_lt _ _ _ hps3]; rw [World.cell?_setCell_other _ _ _ _ (by simp)]; exact q3) HNP3.out
  have f3 : x3.frozen? ⟨pc, 3, none⟩ = false := by
    rw [hgrow3.frozen_far _ (by simp; omega) HNP3.out, World.frozen?_alloc_past _ _ _ hps3]; simpa using f3
  have q4 : x3.cell? ⟨pc, 4, none⟩ = some v4 := hgrow3.cell (by rw [World.cell?_alloc_lt _ _ _ hps3]; rw [World.cell?_setCell_other _ _ _ _ (by simp)]; exact q4) HNP3.out
  have f4 : x3.frozen? ⟨pc, 4, none⟩ = false := by
    rw [hgrow3.frozen_far _ (by simp; omega) HNP3.out, World.frozen?_alloc_past _ _ _ hps3]; simpa using f4
  have hp3 : pc < x3.heap.size := Nat.lt_of_lt_of_le (by simp; omega) hgrow3.size
  have hA3 := HC2.out.app 3 (by omega) (by omega) (show n = ((updF (updF row 1 (row 1 ++ [(.int .i64 hd)])) 2 ((updF row 1 (row 1 ++ [(.int .i64 hd)])) 2 ++ [(.slice sa sn sc)])) 3).length from HLN3.out.symm) hown3 (by show World.grownBy _ _ (val 3).ownBlock; rw [HV3.out]; exact hgrow3) (by show (val 3).ownBlock = _ ∨ _; rw [HV3.out, hszw3]; exact hat3)
  have HC3 := hid hA3.1
  have HK3 := hid hA3.2
  clear hown3 hgrow3 hat3 hlt3 hA3 hszw3 hps3
  have HO4 : Hid ((x3.setCell ⟨pc, 3, none⟩ (.slice (some ⟨g3, 0, none⟩) (n + 1) cap3)).ownsRow 0 4 1 v4 n ((updF (updF (updF row 1 (row 1 ++ [(.int .i64 hd)])) 2 ((updF row 1 (row 1 ++ [(.int .i64 hd)])) 2 ++ [(.slice sa sn sc)])) 3 ((updF (updF row 1 (row 1 ++ [(.int .i64 hd)])) 2 ((updF row 1 (row 1 ++ [(.int .i64 hd)])) 2 ++ [(.slice sa sn sc)])) 3 ++ [(.slice ra rn rc)])) 4)) := hid (by
    have := HC3.out.own 4 (by omega) (by omega)
    rw [show ((updF (updF (updF row 1 (row 1 ++ [(.int .i64 hd)])) 2 ((updF row 1 (row 1 ++ [(.int .i64 hd)])) 2 ++ [(.slice sa sn sc)])) 3 ((updF (updF row 1 (row 1 ++ [(.int .i64 hd)])) 2 ((updF row 1 (row 1 ++ [(.int .i64 hd)])) 2 ++ [(.slice sa sn sc)])) 3 ++ [(.slice ra rn rc)])) 4).length = n from HLN4.out] at this
    rw [← HV4.out]
    exact this)
  have HNP4 : Hid (some pc ≠ v4.ownBlock) := hid (by rw [← HV4.out]; exact HC3.out.np 4 (by omega) (by omega))
  go_wp2_with (at_builtin; refine wpList_append_lies _ rfl _ _ _ rfl 0 4 iinfoBool (.bool false) 1 1 Tryz.underlying39 hiinfoBool hz0infoBool hz1infoBool hz2infoBool rfl (by omega) v4 n _ rfl (HO4.out.alloc _) ⟨x3.heap.size, 0, none⟩ 1 1 [(.bool ro)] rfl rfl (cell_one_newW _ _ _ _ (by simp)) (by intro u hu; simp at hu; subst hu; rfl) (by omega) h63.out (by have := hbytes.out; omega) (Nat.zero_le _) (x3.heap.size + 1) (by simp) ?_)
  intro g4 cap4 x4 hown4 hgrow4 hat4 hlt4
  have hszw4 : (x3.setCell ⟨pc, 3, none⟩ (.slice (some ⟨g3, 0, none⟩) (n + 1) cap3)).heap.size = x3.heap.size := by simp
  have hps4 : pc < (x3.setCell ⟨pc, 3, none⟩ (.slice (some ⟨g3, 0, none⟩) (n + 1) cap3)).heap.size := by rw [hszw4]; exact hp3
  have q4 : x4.cell? ⟨pc, 4, none⟩ = some v4 := hgrow4.cell (by rw [World.cell?_alloc_lt _ _ _ hps4]; rw [World.cell?_setCell_other _ _ _ _ (by simp)]; exact q4) HNP4.out
  have f4 : x4.frozen? ⟨pc, 4, none⟩ = false := by
    rw [hgrow4.frozen_far _ (by simp; omega) HNP4.out, World.frozen?_alloc_past _ _ _ hps4]; simpa using f4
  have hp4 : pc < x4.heap.size := Nat.lt_of_lt_of_le (by simp; omega) hgrow4.size
  have hA4 := HC3.out.app 4 (by omega) (by omega) (show n = ((updF (updF (updF row 1 (row 1 ++ [(.int .i64 hd)])) 2 ((updF row 1 (row 1 ++ [(.int .i64 hd)])) 2 ++ [(.slice sa sn sc)])) 3 ((updF (updF row 1 (row 1 ++ [(.int .i64 hd)])) 2 ((updF row 1 (row 1 ++ [(.int .i64 hd)])) 2 ++ [(.slice sa sn sc)])) 3 ++ [(.slice ra rn rc)])) 4).length from HLN4.out.symm) hown4 (by show World.grownBy _ _ (val 4).ownBlock; rw [HV4.out]; exact hgrow4) (by show (val 4).ownBlock = _ ∨ _; rw [HV4.out, hszw4]; exact hat4)
  have HC4 := hid hA4.1
  have HK4 := hid hA4.2
  clear hown4 hgrow4 hat4 hlt4 hA4 hszw4 hps4
  go_wp2
  go_end0
  have t1 : ∀ b, b < w.heap.size → retag w T (0, 11 + 1) b = T b := fun b hb => retag_to w T _ b hb
  have s1 := HK1.out.size
  have s2 := HK2.out.size
  have s3 := HK3.out.size
  have t2 : ∀ b, b < w.heap.size → retag _ (retag w T (0, 11 + 1)) (0, 11 + 2) b = T b := fun b hb => (retag_to (x1.setCell ⟨pc, 1, none⟩ (.slice (some ⟨g1, 0, none⟩) (n + 1) cap1)) _ (0, 11 + 2) b (by omega)).trans (t1 b hb)
  have t3 : ∀ b, b < w.heap.size → retag _ (retag _ (retag w T (0, 11 + 1)) (0, 11 + 2)) (0, 11 + 3) b = T b := fun b hb => (retag_to (x2.setCell ⟨pc, 2, none⟩ (.slice (some ⟨g2, 0, none⟩) (n + 1) cap2)) _ (0, 11 + 3) b (by omega)).trans (t2 b hb)
  refine ⟨rfl, _, _, _, fun b hb => ?_, HC4.out, rfl, rfl, rfl, rfl, ?_⟩
  · exact (retag_to (x3.setCell ⟨pc, 3, none⟩ (.slice (some ⟨g3, 0, none⟩) (n + 1) cap3)) _ (0, 11 + 4) b (by omega)).trans (t3 b hb)
  · have k1 : Kp (fun b => ∃ i, i ≤ 4 ∧ T b = (0, 11 + i)) w _ := HK1.out.mono (fun b hb e => by
      rcases e with e | e
      · exact ⟨0, by omega, e⟩
      · exact ⟨1, by omega, e⟩)
    have k2 := k1.trans HK2.out (fun b hb e => by
      rw [t1 b hb] at e
      rcases e with e | e
      · exact ⟨0, by omega, e⟩
      · exact ⟨2, by omega, e⟩)
    have k3 := k2.trans HK3.out (fun b hb e => by
      rw [t2 b hb] at e
      rcases e with e | e
      · exact ⟨0, by omega, e⟩
      · exact ⟨3, by omega, e⟩)
    exact k3.trans HK4.out (fun b hb e => by
      rw [t3 b hb] at e
      rcases e with e | e
      · exact ⟨0, by omega, e⟩
      · exact ⟨4, by omega, e⟩)

/-- put: one more array. -/
theorem put_calls {w0 w : World} {T : Tags} {pc ps : Nat} {σ : Sp} {E : List CE} (h : KI w0 w T pc ps σ E) (hd : Int) (vs vr : Value) (s rk : List Int) (ro : Bool) (hs : RdT T w vs s) (hr : RdT T w vr rk) (hn : E.length ≤ 1000) :
    Calls Tryz.prog 44 #[.pointer (some ⟨pc, 0, none⟩), .int .i64 hd, vs, vr, .bool ro] w fun e w' => e = .returned (.tuple #[]) ∧
      ∃ T', TagsTo w T T' ∧ KI w0 w' T' pc ps σ (E ++ [⟨hd, s, rk, ro⟩]) ∧ Kp (fun b => ∃ i, i ≤ 4 ∧ T b = (0, 11 + i)) w w' := by
  obtain ⟨val, row, h1, h2, h3, h4, h5, h6⟩ := h.cast.mem
  obtain ⟨sa, sc, es, -⟩ := hs.1
  obtain ⟨ra, rc, er, -⟩ := hr.1
  have hl : ∀ i, 1 ≤ i → i ≤ 4 → (row i).length = E.length := fun i i1 i4 => by
    have hi : i = 1 ∨ i = 2 ∨ i = 3 ∨ i = 4 := by omega
    rcases hi with rfl | rfl | rfl | rfl
    · rw [h2]; simp
    · exact h4
    · exact h5
    · rw [h3]; simp
  subst es er
  refine (put_walk h1 hd sa ra s.length sc rk.length rc ro E.length hn hl).mono ?_
  rintro e w' ⟨rfl, T', val', row', ht, hC, r1, r2, r3, r4, hk⟩
  have no16 : ∀ b i, 16 ≤ i → T b = (0, i) → ¬ ∃ j, j ≤ 4 ∧ T b = (0, 11 + j) := fun b i hi e ⟨j, hj, e'⟩ => by
    rw [e] at e'
    simp at e'
    omega
  refine ⟨rfl, T', ht, ⟨(h.rep.tags ht).kp (hk.mono (fun b hb e => (show b < w.heap.size ∧ ∃ i, i ≤ 4 ∧ T b = (0, 11 + i) from ⟨hb, e⟩))) (fun b e z => ?_), fun b hb => by rw [ht b (Nat.lt_of_lt_of_le hb h.keep.size)]; exact h.old b hb, Kp.trans h.keep hk (fun b hb ⟨i, _, e⟩ => by rw [h.old b hb] at e; simp at e; omega), ⟨val', row', hC, ?_, ?_, ?_, ?_, fun i e he => ?_⟩⟩, hk⟩
  · obtain ⟨z1, i, _, z2⟩ := z
    rw [ht b z1, z2] at e
    simp at e
  · rw [r1, h2]; simp
  · rw [r4, h3]; simp
  · rw [r2]; simp [h4]
  · rw [r3]; simp [h5]
  · rcases snoc_get _ _ _ _ he with he' | ⟨rfl, rfl⟩
    · obtain ⟨v, u, g1, g2, g3, g4⟩ := h6 i e he'
      refine ⟨v, u, ?_, ?_, g3.kp ht hk (fun b i _ hi e => no16 b i hi e), g4.kp ht hk (fun b i _ hi e => no16 b i hi e)⟩
      · rw [r2, List.getElem?_append_left (List.getElem?_eq_some_iff.1 g1).1]; exact g1
      · rw [r3, List.getElem?_append_left (List.getElem?_eq_some_iff.1 g2).1]; exact g2
    · refine ⟨_, _, ?_, ?_, hs.kp ht hk (fun b i _ hi e => no16 b i hi e), hr.kp ht hk (fun b i _ hi e => no16 b i hi e)⟩
      · rw [r2, ← h4]; simp
      · rw [r3, ← h5]; simp

end Go.Proofs.YticbbncdcannlaaGreat

/- Views of one array: the space at its beginning. No program. -/
namespace Go.Proofs.YticbbncdcannlaaGreat

/-- A space of 2000 and 2000 with one array of ints; its first k values are set. -/
def bgM (s : List Int) (n : Nat) : Sp := (Sp.new 2000 2000).made 2 0 s n fun _ => 0
def bg (s : List Int) (n k : Nat) : Sp := (bgM s n).puts 2 0 (fun j => 100 + (j : Int)) k

theorem bg_make (s : List Int) (hs : okShape s) (n : Nat) (hn : (vol s).toNat = n) (h1 : 1 ≤ n) (h2 : n ≤ 125) : (Sp.new 2000 2000).make 2 s = (bgM s n, 1, 0) := by
  have ht : ∀ c, (Sp.new 2000 2000).taken 2 c = false := fun c => rfl
  have hp : (Sp.new 2000 2000).place 2 n = 0 := by
    have := placeIn_is ((Sp.new 2000 2000).taken 2) n h1 0 (fun c _ _ => ht c) (fun s' h => by omega) ((Sp.new 2000 2000).cap 2) 0 (by omega) (by show 0 + n ≤ 2000 + 0; omega)
    simpa [Sp.place] using this
  unfold Sp.make
  rw [if_neg (by omega), if_neg (by rw [(shapeB_iff s).2 hs]; simp), if_neg (show ¬ 40 ≤ (Sp.new 2000 2000).live from (by decide : ¬ 40 ≤ 0)), hn, hp, if_neg (by omega)]
  rfl

theorem bg_arrs (s : List Int) (n k : Nat) : (bg s n k).arrs = [some ⟨2, s, rng 0 n, false, 0⟩] ∧ (bg s n k).bufs = [⟨2, 0, n⟩] ∧ (bg s n k).n2 = 2000 := by
  obtain ⟨a1, a2, -, a4, -⟩ := puts_arrs (bgM s n) 2 0 (fun j => 100 + (j : Int)) k
  obtain ⟨b1, b2, -, b4, -⟩ := puts_arrs ((Sp.new 2000 2000).more ⟨2, 0, n⟩) 2 0 (fun _ => 0) n
  refine ⟨a1.trans ?_, a2.trans ?_, a4.trans ?_⟩
  · show (Sp.puts _ _ _ _ _).arrs ++ _ = _
    rw [b1]
    rfl
  · show (Sp.puts _ _ _ _ _).bufs = _
    rw [b2]
    rfl
  · show (Sp.puts _ _ _ _ _).n2 = _
    rw [b4]
    rfl

theorem bg_find (s : List Int) (n k : Nat) : (bg s n k).find 1 = some ⟨2, s, rng 0 n, false, 0⟩ := by
  unfold Sp.find
  rw [if_pos (by omega), (bg_arrs s n k).1]
  rfl

theorem bg_set (s : List Int) (hs : okShape s) (n : Nat) (hn : (vol s).toNat = n) (k : Nat) (hk : k < n) : (bg s n k).set 1 (100 + (k : Int)) (idx s k) = (bg s n (k + 1), 0) := by
  have hr : rank s (idx s k) = k := rank_idx s k hs.2.1 (by omega) (by omega)
  unfold Sp.set
  rw [bg_find]
  simp only
  rw [if_neg (by simp), hr, if_neg (by omega)]
  congr 1
  rw [Int.toNat_natCast, rng_nth 0 n k hk]
  rfl

theorem bg_km (s : List Int) (hs : okShape s) (n : Nat) (hn : (vol s).toNat = n) (h2 : n ≤ 125) (hok : (bg s n n).ok) : KM (bg s n n) [⟨1, s, rng 0 n, false⟩] n (rng 100 n) 1 := by
  have hv := vol_whole hs
  obtain ⟨b1, b2, b3⟩ := bg_arrs s n n
  have one : ∀ (i : Nat) (e : CE), ([⟨1, s, rng 0 n, false⟩] : List CE)[i]? = some e → i = 0 ∧ e = ⟨1, s, rng 0 n, false⟩ := fun i e he => by
    cases i with
    | zero => simp at he; exact ⟨rfl, he.symm⟩
    | succ i => simp at he
  refine { ok := hok, cap := b3, n1 := by omega, n2 := h2, ent := fun i e he => ?_, live := ?_, buf := ?_, one := fun i a ha => ?_, vals := fun j hj => ?_, len := rng_length _ _, inc := fun i j e f hij he hf => ?_, fst := ⟨_, rfl, rfl, rfl⟩, many := ?_, bufs := ?_, inj := fun i e he _ => by obtain ⟨rfl, rfl⟩ := one i e he; exact Once.rng 0 n }
  · obtain ⟨rfl, rfl⟩ := one i e he
    refine ⟨by show (1 : Int) ≤ 1; omega, ?_, by show vol s ≤ 400; omega, fun j hj => ?_⟩
    · rw [b1]; rfl
    · simp only [rng_length] at hj
      show nth (rng 0 n) j < n
      rw [rng_nth 0 n j hj]
      omega
  · simp [Sp.live, b1]
  · rw [b2]; rfl
  · rw [b1] at ha
    cases i with
    | zero => simp at ha; rw [← ha]
    | succ i => simp at ha
  · have hvl : ((bgM s n).vals 2).length = 2000 := by
      have e1 := puts_vals ((Sp.new 2000 2000).more ⟨2, 0, n⟩) 2 0 (fun _ => 0) n 2
      show ((((Sp.new 2000 2000).more ⟨2, 0, n⟩).puts 2 0 (fun _ => 0) n).vals 2).length = 2000
      rw [e1]
      show (List.replicate 2000 (0 : Int)).length = 2000
      rw [List.length_replicate]
    have := kputs_nth (bgM s n) 2 0 (fun j => 100 + (j : Int)) n (by omega) (by omega) j
    rw [if_pos (by omega)] at this
    rw [rng_nth 100 n j hj]
    show nth ((bg s n n).vals 2) j = _
    exact this.trans (by simp)
  · obtain ⟨rfl, -⟩ := one i e he
    obtain ⟨rfl, -⟩ := one j f hf
    omega
  · rw [b1]; simp
  · rw [b2]; simp

end Go.Proofs.YticbbncdcannlaaGreat

/- The keeping statements' head, walked: began. -/
namespace Go.Proofs.YticbbncdcannlaaGreat
open Go.RowKit

/-- A cast that is empty. -/
theorem CF.empty {T : Tags} {w : World} {ps : Nat} : CF (retag w T (0, 11)) (w.alloc (.cells #[.pointer (some ⟨ps, 0, none⟩), .slice none 0 0, .slice none 0 0, .slice none 0 0, .slice none 0 0] 41)) w.heap.size ps (fun _ => .slice none 0 0) (fun _ => []) :=
  ⟨heap_alloc_new _ _, fun _ _ _ => World.ownsRow_nil _ _ _ _, retag_new (Nat.le_refl _), fun _ _ _ b hb => by simp [Value.ownBlock] at hb⟩

theorem CF.at0 {T : Tags} {w : World} {pc ps : Nat} (h : CF T w pc ps (fun _ => .slice none 0 0) (fun _ => [])) : CAt T w pc ps [] :=
  ⟨_, _, h, rfl, rfl, rfl, rfl, fun i e he => by simp at he⟩

/-- An empty cast, beside a list that grows. -/
structure K0I (w0 w : World) (T : Tags) (pc ps : Nat) (σ : Sp) (vl : Value) (l : List Int) (vr : Value) (r : List Int) : Prop where
  rep : XRep T 1 w ps σ
  old : ∀ b, b < w0.heap.size → T b = (0, 0)
  keep : Kp0 w0 w
  cast : CF T w pc ps (fun _ => .slice none 0 0) (fun _ => [])
  lst : RdI w vl l
  ltag : ∀ b, vl.ownBlock = some b → b < w.heap.size ∧ T b = (0, 16)
  row : OwI w vr r
  rtag : ∀ b, vr.ownBlock = some b → T b = (0, 17)
  lcap : capOk vl

theorem K0I.goes {w0 w w' : World} {T T' : Tags} {pc ps : Nat} {σ σ' : Sp} {vl vr : Value} {l r : List Int} {Z : Nat → Prop} (h : K0I w0 w T pc ps σ vl l vr r) (ht : TagsTo w T T') (hr : XRep T' 1 w' ps σ') (k : Kp Z w w') (hz : ∀ b, b < w.heap.size → Z b → (T b).1 ≠ 0) : K0I w0 w' T' pc ps σ' vl l vr r :=
  have k' : Kp (fun b => b < w.heap.size ∧ Z b) w w' := k.mono (fun b hb e => ⟨hb, e⟩)
  ⟨hr, fun b hb => by rw [ht b (Nat.lt_of_lt_of_le hb h.keep.size)]; exact h.old b hb, Kp.trans h.keep k (fun i hi e => hz i (Nat.lt_of_lt_of_le hi h.keep.size) e (by rw [h.old i hi])),
    (h.cast.tags ht).kp k' (fun b i _ e z => hz b z.1 z.2 (by rw [← ht b z.1, e])), h.lst.kp k (fun b hb z => hz b (h.ltag b hb).1 z (by rw [(h.ltag b hb).2])), fun b hb => ⟨Nat.lt_of_lt_of_le (h.ltag b hb).1 k.size, by rw [ht b (h.ltag b hb).1]; exact (h.ltag b hb).2⟩,
    h.row.kp k (fun b hb z => hz b (own_lt h.row hb) z (by rw [h.rtag b hb])), fun b hb => by rw [ht b (own_lt h.row hb)]; exact h.rtag b hb, h.lcap⟩

theorem K0I.kp0 {w0 w w' : World} {T T' : Tags} {pc ps : Nat} {σ : Sp} {vl vr : Value} {l r : List Int} (h : K0I w0 w T pc ps σ vl l vr r) (ht : TagsTo w T T') (k : Kp0 w w') : K0I w0 w' T' pc ps σ vl l vr r :=
  h.goes ht ((h.rep.tags ht).kp k (fun _ _ e => e)) k (fun _ _ e => e.elim)

/-- The list has grown. -/
theorem K0I.app {w0 w w' : World} {T : Tags} {pc ps : Nat} {σ : Sp} {vl : Value} {l r r' : List Int} {ao ao' : Option Addr} {n n' c c' : Nat} {O : Obj} (h : K0I w0 w T pc ps σ vl l (.slice ao n c) r) (hg : (w.alloc O).grownBy w' (Value.slice ao n c).ownBlock) (ho : OwI w' (.slice ao' n' c') r')
    (hb : ∀ b, (Value.slice ao' n' c').ownBlock = some b → (Value.slice ao n c).ownBlock = some b ∨ b = w.heap.size + 1) : K0I w0 w' (retag w T (0, 17)) pc ps σ vl l (.slice ao' n' c') r' := by
  have ht := retag_to w T (0, 17)
  have kk : Kp (fun b => (Value.slice ao n c).ownBlock = some b) w w' := ((Kp.refl _ w).alloc O).grown hg (fun b e _ => e)
  have kt : Kp (fun b => b < w.heap.size ∧ T b = (0, 17)) w w' := kk.mono (fun b hb e => ⟨hb, h.rtag b e⟩)
  refine ⟨(h.rep.tags ht).kp kt (fun b e z => ?_), fun b hb => by rw [ht b (Nat.lt_of_lt_of_le hb h.keep.size)]; exact h.old b hb, Kp.trans h.keep kt (fun b hb z => by have := h.old b hb; rw [z.2] at this; simp at this), (h.cast.tags ht).kp kt (fun b i hi e z => ?_), h.lst.kp kt (fun b hb z => ?_), fun b hb => ?_, ho, fun b hb' => ?_, h.lcap⟩
  · rw [ht b z.1, z.2] at e; simp at e
  · rw [ht b z.1, z.2] at e; simp at e; omega
  · have := (h.ltag b hb).2; rw [z.2] at this; simp at this
  · exact ⟨Nat.lt_of_lt_of_le (h.ltag b hb).1 kt.size, by rw [ht b (h.ltag b hb).1]; exact (h.ltag b hb).2⟩
  · rcases hb b hb' with e | e
    · rw [ht b (own_lt h.row e)]; exact h.rtag b e
    · exact retag_new (by omega)

theorem K0I.step {w0 w w' : World} {T : Tags} {pc ps : Nat} {σ σ' : Sp} {vl vr : Value} {l r : List Int} (h : K0I w0 w T pc ps σ vl l vr r) (hs : Step XRep T 1 w ps σ' w') : ∃ T', TagsTo w T T' ∧ K0I w0 w' T' pc ps σ' vl l vr r := by
  obtain ⟨T', h1, h2, h3⟩ := hs
  exact ⟨T', h1, h.goes h1 h2 h3 (fun b _ e => by rw [e]; simp)⟩

theorem K0I.ki {w0 w : World} {T : Tags} {pc ps : Nat} {σ : Sp} {vl vr : Value} {l r : List Int} (h : K0I w0 w T pc ps σ vl l vr r) : KI w0 w T pc ps σ [] ∧ RdT T w vl l ∧ RdT T w vr r :=
  ⟨⟨h.rep, h.old, h.keep, h.cast.at0⟩, ⟨h.lst, fun b hb => ⟨(h.ltag b hb).1, 16, ⟨by omega, h.lcap⟩, (h.ltag b hb).2⟩⟩, ⟨h.row.rd, fun b hb => ⟨own_lt h.row hb, 17, ⟨by omega, h.row.cap⟩, h.rtag b hb⟩⟩⟩

set_option maxRecDepth 100000 in
set_option maxHeartbeats 4000000 in
theorem began_calls (w : World) (va : Value) (raw : List Int) (hr : RdI w va raw) (hb : raw.length ≤ 1000000000) (hwf : ∀ j, j < raw.length → IntKind.i64.wrap (nth raw j) = nth raw j) (n : Nat) (hn : (vol (sizesOf raw)).toNat = n) :
    Calls Tryz.prog 14 #[va, .int .i64 2] w fun e w' => ∃ pc ps T, e = .returned (.tuple #[.pointer (some ⟨pc, 0, none⟩), .bool true]) ∧ KI w w' T pc ps (bg (sizesOf raw) n n) [⟨1, sizesOf raw, rng 0 n, false⟩] := by
  obtain ⟨hs, hv125⟩ := sizesOf_shape raw
  have hv1 := vol_whole hs
  obtain ⟨s, hse⟩ : ∃ s, sizesOf raw = s := ⟨_, rfl⟩
  have HSE := hid hse
  rw [hse] at hs hv125 hv1 hn ⊢
  have hn1 : 1 ≤ n := by omega
  have hn2 : n ≤ 125 := by omega
  have HS := hid hs
  have HR := hid hr
  have HB := hid hb
  have HWF := hid hwf
  have HMK := hid (bg_make s hs n hn hn1 hn2)
  have HST := hid (bg_set s hs n hn)
  have HVOL : Hid (vol s = (n : Int)) := hid (by omega)
  clear hs hr hb hwf hn hse hv1 hv125
  go_enter Tryz.func14, Tryz.ntmps14
  go_wp2_with fail
  refine (sure_calls w).mono ?_
  rintro e w1 ⟨rfl, hk1⟩
  have HK1 := hid hk1
  clear hk1
  go_wp2_with fail
  refine (sim_new 2000 2000 w1 (by omega) (by omega)).mono ?_
  rintro e w2 ⟨ps, T2, rfl, hS2⟩
  have HS2 := hid hS2
  clear hS2
  go_wp2_with fail
  refine (sizes_calls va raw w2 (HR.out.kp0 (HK1.out.trans HS2.out.kp)) HB.out HWF.out).mono ?_
  rintro e w3 ⟨al, cl, rfl, hO3, hk3, hb3⟩
  rw [HSE.out] at hO3 hb3 ⊢
  have HO3 := hid hO3
  have HK3 := hid hk3
  have HB3 := hid hb3
  clear hO3 hk3 hb3
  have tg3 := retag_to w2 T2 (0, 16)
  have HX3 := hid ((HS2.out.rep.tags tg3).kp HK3.out (fun _ _ e => e))
  go_wp2_with fail
  refine (xc_make 2 _ s HX3.out HO3.out.rd (by decide) (by decide)).mono ?_
  rintro e w4 ⟨rfl, hs4⟩
  rw [HMK.out] at hs4 ⊢
  simp only at hs4 ⊢
  obtain ⟨T4, ht4, hr4, hk4⟩ := hs4
  have s2 := HS2.out.kp.size
  have s1 := HK1.out.size
  have s3 := HK3.out.size
  have s4 := hk4.size
  have HI5 : Hid (K0I w (w4.alloc (.cells #[.pointer (some ⟨ps, 0, none⟩), .slice none 0 0, .slice none 0 0, .slice none 0 0, .slice none 0 0] 41)) (retag w4 T4 (0, 11)) w4.heap.size ps (bg s n 0) (.slice al s.length cl) s (.slice none 0 0) []) := hid (by
    have tg := retag_to w4 T4 (0, 11)
    have t34 : ∀ b, b < w3.heap.size → retag w4 T4 (0, 11) b = retag w2 T2 (0, 16) b := fun b hb => by rw [tg b (by omega), ht4 b hb]
    have told : ∀ b, b < w.heap.size → retag w4 T4 (0, 11) b = (0, 0) := fun b hb => by rw [t34 b (by omega), tg3 b (by omega)]; exact HS2.out.old b (by omega)
    have tl : ∀ b, (Value.slice al s.length cl).ownBlock = some b → b < w3.heap.size ∧ retag w2 T2 (0, 16) b = (0, 16) := fun b hb => ⟨own_lt HO3.out hb, retag_new (HB3.out b hb)⟩
    refine ⟨(hr4.tags tg).kp (Kp.alloc (Kp.refl (fun _ => False) w4) _) (fun _ _ e => e), told, ?_, CF.empty, ?_, fun b hb => ?_, OwI.nil _, fun b hb => by simp [Value.ownBlock] at hb, HO3.out.cap⟩
    · refine Kp.alloc ?_ _
      have k3 : Kp0 w w3 := (HK1.out.trans HS2.out.kp).trans HK3.out
      exact Kp.trans k3 hk4 (fun b hb e => by
        rw [tg3 b (by omega), HS2.out.old b (by omega)] at e
        simp at e)
    · refine (HO3.out.rd.kp hk4 (fun b hb e => ?_)).kp0 (Kp.alloc (Kp.refl _ _) _)
      rw [(tl b hb).2] at e
      simp at e
    · have := tl b hb
      exact ⟨by simp; omega, by rw [t34 b this.1]; exact this.2⟩)
  generalize hsl : s.length = sl at *
  have HSL := hid hsl
  clear hr4 hk4 ht4 tg3 s1 s2 s3 s4 HX3 HO3 HB3 HK3 HK1 HS2 hsl
  go_wp2
  generalize w4.alloc (.cells #[.pointer (some ⟨ps, 0, none⟩), .slice none 0 0, .slice none 0 0, .slice none 0 0, .slice none 0 0] 41) = w5 at *
  generalize retag w4 T4 (0, 11) = T5 at *
  generalize w4.heap.size = pc at *
  go_loopw [13, 14] (fun l t w' => ∃ k : Nat, k ≤ n ∧ t = .int .i64 k ∧ ∃ ao c T', l = .slice ao k c ∧ K0I w w' T' pc ps (bg s n k) (.slice al sl cl) s (.slice ao k c) (rng 0 k)) (fun _ t _ => n - (intOf t).toNat)
  case atStart => exact ⟨0, Nat.zero_le _, rfl, none, 0, T5, rfl, HI5.out⟩
  case round =>
    clear HI5
    obtain ⟨k, hk, rfl, ao, c, T6, rfl, hI⟩ := hrel
    have HI := hid hI
    clear hI
    go_wp2_with fail
    refine (kvolume_calls _ s _ HI.out.lst HS.out.2.1 HS.out.1).mono ?_
    rintro e w' ⟨rfl, hw⟩
    obtain rfl := hw.symm
    rw [HVOL.out]
    by_cases hlt : k < n
    · have i1 : (k : Int) < (n : Int) := by omega
      have HBN : Hid (k + [(k : Int)].length ≤ 1000000000000) := hid (by simp; omega)
      go_wp2_with (at_builtin; refine wpList_app (by rfl) _ _ (by rfl) ao k c (rng 0 k) [(k : Int)] _ (by rfl) (by rfl) (HI.out.row.alloc _) (RdI.one _ _) HBN.out (wr.heap.size + 1) (by simp) ?_)
      intro ao' c' w7 hC7 hG7 hB7
      have HI7 : Hid (K0I w w7 (retag wr T6 (0, 17)) pc ps (bg s n k) (.slice al sl cl) s (.slice ao' (k + 1) c') (rng 0 (k + 1))) := hid (HI.out.app hG7 (by rw [rng_succ, Int.zero_add]; exact hC7) hB7)
      clear hC7 hG7 hB7 HI
      generalize retag wr T6 (0, 17) = T7 at *
      go_wp2_with fail
      refine (kindex_calls _ s k w7 HI7.out.lst HS.out.2.1 HS.out.1 (by omega) (by omega)).mono ?_
      rintro e w8 ⟨rfl, hk8, hg8⟩
      have HI8 := hid (HI7.out.kp0 (retag_to w7 T7 (0, 18)) hk8)
      have HR8 : Hid (RdI w8 (.slice (some ⟨w7.heap.size, 0, none⟩) s.length s.length) (idx s k)) := hid (rd_of_blk hg8 (idx_length _ _))
      clear hk8 hg8 HI7
      generalize retag w7 T7 (0, 18) = T8 at *
      go_wp2_with fail
      refine (xc_set 1 (100 + (k : Int)) _ (idx s k) HI8.out.rep HR8.out (bd_wf (by omega))).mono ?_
      rintro e w9 ⟨rfl, hs9⟩
      rw [HST.out k hlt] at hs9 ⊢
      simp only at hs9 ⊢
      obtain ⟨T9, -, hI9⟩ := HI8.out.step hs9
      have HI9 := hid hI9
      clear hs9 hI9 HI8 HR8
      go_wp2
      go_roundw
      case rel => exact ⟨k + 1, by omega, by go_num, ao', c', T9, rfl, HI9.out⟩
      case measure => simp [intOf]; omega
    · have hkn : k = n := by omega
      have i1 : ¬ (k : Int) < (n : Int) := by omega
      have HI6 : Hid (K0I w wr T6 pc ps (bg s n n) (.slice al sl cl) s (.slice ao k c) (rng 0 n)) := hid (by have := HI.out; rw [hkn] at this ⊢; exact this)
      clear HI hkn
      obtain ⟨h1, h2, h3⟩ := HI6.out.ki
      have HKI := hid h1
      have HR2 := hid h2
      have HR3 := hid h3
      clear h1 h2 h3 HI6
      go_wp2_with fail
      refine (put_calls HKI.out 1 _ _ s (rng 0 n) false HR2.out HR3.out (by simp)).mono ?_
      rintro e w9 ⟨rfl, T9, -, hI9, -⟩
      have HI9 := hid hI9
      clear hI9
      go_wp2
      go_ret2
      exact ⟨pc, ps, T9, rfl, HI9.out⟩

end Go.Proofs.YticbbncdcannlaaGreat

/- Views of one array: the numbers that a cut is made of. No program. -/
namespace Go.Proofs.YticbbncdcannlaaGreat

theorem pick_small {c n : Int} (h : 1 ≤ n) : 0 ≤ pickN c n ∧ pickN c n < n := pickN_bd c n h

/-- Of a cut: the room behind its start, its step, its count. -/
def cutRoom (sz st sp : Int) (back : Bool) : Int := if back = true then st / sp else (sz - 1 - st) / sp
def cutStep (sp : Int) (back : Bool) : Int := if back = true then -sp else sp

theorem cut_room {sz st sp : Int} (back : Bool) (h1 : 0 ≤ st) (h2 : st < sz) (h60 : sz ≤ 60) (hsp : sp = 1 ∨ sp = 2) : 0 ≤ cutRoom sz st sp back ∧ cutRoom sz st sp back < 60 := by
  unfold cutRoom
  split
  · rcases hsp with rfl | rfl <;> omega
  · rcases hsp with rfl | rfl <;> omega

theorem cut_fits {sz st sp : Int} (back : Bool) (h1 : 0 ≤ st) (h2 : st < sz) (hsp : sp = 1 ∨ sp = 2) (cn : Nat) (hc : (cn : Int) ≤ cutRoom sz st sp back + 1) (i : Nat) (hi : i < cn) : 0 ≤ st + (i : Int) * cutStep sp back ∧ st + (i : Int) * cutStep sp back < sz := by
  unfold cutRoom at hc
  unfold cutStep
  cases back
  · simp only [Bool.false_eq_true, if_false] at hc ⊢
    rcases hsp with rfl | rfl <;> omega
  · simp only [if_true] at hc ⊢
    rcases hsp with rfl | rfl <;> omega

/-- The index that a cut's index means, as one reckons it. -/
theorem cutL_eq {s l : List Int} {k cn : Nat} {st sp : Int} (hk : k < s.length) (hc : 1 ≤ cn) (hl : inB (s.set k (cn : Int)) l) : l.set k (st + nth l k * sp) = cutL l k st cn sp := by
  unfold cutL
  by_cases h : (1 : Int) < (cn : Int)
  · rw [if_pos h]
  · rw [if_neg h]
    have := hl.2 k (by simpa using hk)
    rw [nth_setN s k k _ hk, if_pos rfl] at this
    have h0 : nth l k = 0 := by omega
    rw [h0]
    simp

end Go.Proofs.YticbbncdcannlaaGreat

/- Views of one array: the axes that a turn takes. No program. -/
namespace Go.Proofs.YticbbncdcannlaaGreat

/-- The axes go round by so many, and are turned about. -/
def axAt (n by' : Int) (odd : Bool) (i : Nat) : Int := if odd = true then n - 1 - ((i : Int) + by') % n else ((i : Int) + by') % n
def axT (n by' : Nat) (odd : Bool) : List Int := (List.range n).map (axAt n by' odd)
theorem axT_length (n by' : Nat) (odd : Bool) : (axT n by' odd).length = n := by simp [axT]
theorem axT_nth (n by' : Nat) (odd : Bool) (i : Nat) (h : i < n) : nth (axT n by' odd) i = axAt n by' odd i := by
  rw [nth_lt (by rw [axT_length]; exact h)]
  simp [axT]
theorem axT_take (n by' : Nat) (odd : Bool) (i : Nat) (h : i < n) : (axT n by' odd).take (i + 1) = (axT n by' odd).take i ++ [axAt n by' odd i] := by
  rw [take_snoc _ i (by rw [axT_length]; exact h), axT_nth n by' odd i h]

theorem axT_ok (n by' : Nat) (odd : Bool) (h1 : 1 ≤ n) (h4 : n ≤ 4) (hb : by' < n) : axesTo n (axT n by' odd) n := by
  have key : turnB n (axT n by' odd) = true := by
    have hn : n = 1 ∨ n = 2 ∨ n = 3 ∨ n = 4 := by omega
    have hb' : by' = 0 ∨ by' = 1 ∨ by' = 2 ∨ by' = 3 := by omega
    rcases hn with rfl | rfl | rfl | rfl <;> rcases hb' with rfl | rfl | rfl | rfl <;> first | omega | (cases odd <;> rfl)
  exact ((turnB_iff _ _).1 key).2

theorem axAt_bd (n by' : Nat) (odd : Bool) (h1 : 1 ≤ n) (h4 : n ≤ 4) (hb : by' < n) (i : Nat) (hi : i < n) : 0 ≤ axAt n by' odd i ∧ axAt n by' odd i < n := by
  have := (axT_ok n by' odd h1 h4 hb i hi).1
  rw [axT_nth n by' odd i hi] at this
  exact this

end Go.Proofs.YticbbncdcannlaaGreat

/- Views of one array: the shape that a stretch makes. No program. -/
namespace Go.Proofs.YticbbncdcannlaaGreat

/-- An axis more in front, and axes of 1 made longer. -/
def strPre (gap : Bool) (b : Int) : List Int := if gap = true then [b] else []
def strG (gap : Bool) : Nat := if gap = true then 1 else 0
def strN (x c : Int) : Int := if x = 1 then c else x
def strS (l : List Int) (gap : Bool) (b c : Int) : List Int := strPre gap b ++ l.map fun x => strN x c

theorem strPre_length (gap : Bool) (b : Int) : (strPre gap b).length = strG gap := by cases gap <;> rfl
theorem strS_length (l : List Int) (gap : Bool) (b c : Int) : (strS l gap b c).length = strG gap + l.length := by simp [strS, strPre_length]
theorem strS_nth (l : List Int) (gap : Bool) (b c : Int) (j : Nat) (h : j < l.length) : nth (strS l gap b c) (strG gap + j) = strN (nth l j) c := by
  unfold strS
  rw [nth_append_right (by rw [strPre_length]; omega), strPre_length, show strG gap + j - strG gap = j by omega, nth_lt (by simpa using h), nth_lt h]
  simp
theorem strS_take (l : List Int) (gap : Bool) (b c : Int) (j : Nat) (h : j < l.length) : (strS l gap b c).take (strG gap + (j + 1)) = (strS l gap b c).take (strG gap + j) ++ [strN (nth l j) c] := by
  rw [← Nat.add_assoc, take_snoc _ _ (by rw [strS_length]; omega), strS_nth l gap b c j h]
theorem strS_pre (l : List Int) (gap : Bool) (b c : Int) : (strS l gap b c).take (strG gap + 0) = strPre gap b := by
  unfold strS
  rw [Nat.add_zero, ← strPre_length gap b, List.take_left]
theorem strN_bd {x c : Int} (hx : 1 ≤ x ∧ x ≤ 60) (hc : 1 ≤ c ∧ c ≤ 3) : 1 ≤ strN x c ∧ strN x c ≤ 60 := by
  unfold strN
  split <;> omega

theorem strS_sized {l : List Int} (hs : okShape l) {gap : Bool} {b c : Int} (hb : 1 ≤ b ∧ b ≤ 3) (hc : 1 ≤ c ∧ c ≤ 3) : sized (strS l gap b c) := by
  intro j hj
  rw [strS_length] at hj
  rcases Nat.lt_or_ge j (strG gap) with h | h
  · cases gap
    · simp [strG] at h
    · have : j = 0 := by simp [strG] at h; exact h
      subst this
      show 1 ≤ nth (b :: _) 0 ∧ nth (b :: _) 0 ≤ 60
      simp [nth, List.getD]
      omega
  · obtain ⟨i, rfl⟩ : ∃ i, j = strG gap + i := ⟨j - strG gap, by omega⟩
    rw [strS_nth l gap b c i (by omega)]
    exact strN_bd (hs.2.1 i (by omega)) hc

theorem strS_fits {l : List Int} (hs : okShape l) {gap : Bool} {b c : Int} : stretchB l (strS l gap b c) = true := by
  rw [stretchB_iff]
  refine ⟨by rw [strS_length]; omega, fun j hj => ?_⟩
  rw [strS_length, show strG gap + l.length - l.length + j = strG gap + j by omega, strS_nth l gap b c j hj]
  unfold strN
  have := hs.2.1 j hj
  by_cases h : nth l j = 1
  · exact .inr h
  · rw [if_neg h]; exact .inl rfl

end Go.Proofs.YticbbncdcannlaaGreat

/- The program's space, walked: Stretch. -/
namespace Go.Proofs.YticbbncdcannlaaGreat
open Go.RowKit Go.Maps Go.ChangeMaps Go.MapKept

set_option maxRecDepth 100000 in
set_option maxHeartbeats 1000000 in
theorem xStretch_none {T : Tags} {o : Nat} {w : World} {p : Nat} {L : XL} {X : XS} (h : XAt T o w p L X) (hd : Int) (va : Value) (hA : X.A hd = none) :
    Calls Tryz.prog 83 #[.pointer (some ⟨p, 0, none⟩), .int .i64 hd, va] w fun e w' => e = .returned (.tuple #[.int .i64 0, .int .i64 2]) ∧ Kp0 w w' := by
  have HF := hid (xfind_none h hd hA)
  unfold xaZ at HF
  clear h hA
  go_enter Tryz.func83, Tryz.ntmps83
  go_wp2_with fail
  refine HF.out.mono ?_
  rintro e w2 ⟨rfl, hw⟩
  have HK := hid hw
  clear hw
  go_wp2
  go_ret2
  exact ⟨rfl, HK.out.alloc _⟩

set_option maxRecDepth 100000 in
set_option maxHeartbeats 1000000 in
theorem xStretch_shape {T : Tags} {o : Nat} {w : World} {p : Nat} {L : XL} {X : XS} (h : XAt T o w p L X) (hd : Int) (va : Value) (x : XA) (hA : X.A hd = some x) (hk : x.kind = 1 ∨ x.kind = 2)
    (HG : Hid (∀ W, Kp0 w W → Calls Tryz.prog 56 #[va] W fun e w' => e = .returned (.tuple #[.agg (shC []).toArray, .bool false]) ∧ Kp0 W w')) :
    Calls Tryz.prog 83 #[.pointer (some ⟨p, 0, none⟩), .int .i64 hd, va] w fun e w' => e = .returned (.tuple #[.int .i64 0, .int .i64 4]) ∧ Kp0 w w' := by
  have HF := hid (xfind_some h hd x hA hk)
  generalize L.inV x.kind = I at *
  unfold XA.cs at HF
  unfold shC at HG
  generalize x.l.length = n at *
  clear h hA hk
  go_enter Tryz.func83, Tryz.ntmps83
  go_wp2_with fail
  refine HF.out.mono ?_
  rintro e w2 ⟨rfl, hw⟩
  have HK := hid hw
  clear hw
  go_wp2_with fail
  refine (HG.out _ (HK.out.alloc _)).mono ?_
  rintro e w3 ⟨rfl, hw⟩
  have HK3 : Hid (Kp0 w w3) := Kp0.trans (HK.out.alloc _) hw
  clear hw
  go_wp2
  go_ret2
  exact ⟨rfl, HK3.out.alloc _⟩

set_option maxRecDepth 100000 in
set_option maxHeartbeats 2000000 in
theorem xStretch_no {T : Tags} {o : Nat} {w : World} {p : Nat} {L : XL} {X : XS} (h : XAt T o w p L X) (hd : Int) (va : Value) (x : XA) (s : List Int) (hA : X.A hd = some x) (hk : x.kind = 1 ∨ x.kind = 2)
    (HS : Hid (∀ W, Kp0 w W → Calls Tryz.prog 56 #[va] W fun e w' => e = .returned (.tuple #[.agg (shC s).toArray, .bool true]) ∧ Kp0 W w'))
    (HG : Hid (∀ W, Kp0 w W → Calls Tryz.prog 127 #[.agg (grC x.l x.t x.f).toArray, .agg (shC s).toArray] W fun e w' => e = .returned (.tuple #[.agg zG, .bool false]) ∧ Kp0 W w')) :
    Calls Tryz.prog 83 #[.pointer (some ⟨p, 0, none⟩), .int .i64 hd, va] w fun e w' => e = .returned (.tuple #[.int .i64 0, .int .i64 4]) ∧ Kp0 w w' := by
  have HF := hid (xfind_some h hd x hA hk)
  generalize L.inV x.kind = I at *
  unfold XA.cs at HF
  unfold shC at HS HG
  unfold grC zG at HG
  generalize x.l.length = n at *
  generalize s.length = m at *
  clear h hA hk
  go_enter Tryz.func83, Tryz.ntmps83
  go_wp2_with fail
  refine HF.out.mono ?_
  rintro e w2 ⟨rfl, hw⟩
  have HK := hid hw
  have HB2 : Hid ((w2.alloc (.cells #[.int .i64 x.kind, .int .i64 x.buf, .int .i64 (nth x.l 0), .int .i64 (nth x.l 1), .int .i64 (nth x.l 2), .int .i64 (nth x.l 3), .int .i64 (n : Int), .int .i64 x.f, .int .i64 (nth x.t 0), .int .i64 (nth x.t 1), .int .i64 (nth x.t 2), .int .i64 (nth x.t 3), .bool x.ro] 109)).heap[w2.heap.size]? = some (.cells #[.int .i64 x.kind, .int .i64 x.buf, .int .i64 (nth x.l 0), .int .i64 (nth x.l 1), .int .i64 (nth x.l 2), .int .i64 (nth x.l 3), .int .i64 (n : Int), .int .i64 x.f, .int .i64 (nth x.t 0), .int .i64 (nth x.t 1), .int .i64 (nth x.t 2), .int .i64 (nth x.t 3), .bool x.ro] 109 (0, 0))) := heap_alloc_new w2 _
  clear hw
  go_wp2_with fail
  refine (HS.out _ (HK.out.alloc _)).mono ?_
  rintro e w3 ⟨rfl, hw⟩
  have HB3 := hid (hw.heap HB2.out)
  have HK3 : Hid (Kp0 w w3) := Kp0.trans (HK.out.alloc _) hw
  have hlt : w2.heap.size < w3.heap.size := lt_of_heap HB3.out
  clear hw HB2
  generalize w2.heap.size = b0 at *
  obtain ⟨y0, y1, y2, y3, y4, y5, y6, y7, y8, y9, y10, y11, y12⟩ := cells13 HB3.out
  go_wp2_with fail
  refine (HG.out _ (HK3.out.alloc _)).mono ?_
  rintro e w4 ⟨rfl, hw⟩
  have HK4 : Hid (Kp0 w w4) := Kp0.trans (HK3.out.alloc _) hw
  clear hw
  go_wp2
  go_ret2
  exact ⟨rfl, HK4.out.alloc _⟩

set_option maxRecDepth 100000 in
set_option maxHeartbeats 4000000 in
theorem xStretch_yes {T : Tags} {o : Nat} {w : World} {p : Nat} {L : XL} {X : XS} (h : XAt T o w p L X) (hd : Int) (va : Value) (x : XA) (s : List Int) (hA : X.A hd = some x) (hk : x.kind = 1 ∨ x.kind = 2) (l t : List Int) (f : Int) {R : Int → Int → World → Prop}
    (HS : Hid (∀ W, Kp0 w W → Calls Tryz.prog 56 #[va] W fun e w' => e = .returned (.tuple #[.agg (shC s).toArray, .bool true]) ∧ Kp0 W w'))
    (HG : Hid (∀ W, Kp0 w W → Calls Tryz.prog 127 #[.agg (grC x.l x.t x.f).toArray, .agg (shC s).toArray] W fun e w' => e = .returned (.tuple #[.agg (grC l t f).toArray, .bool true]) ∧ Kp0 W w'))
    (HV : Hid (∀ W, Kp0 w W → Calls Tryz.prog 54 #[.pointer (some ⟨p, 0, none⟩), .agg ({ x with ro := true } : XA).cs, .agg (grC l t f).toArray] W fun e w' => ∃ a b, e = .returned (.tuple #[.int .i64 a, .int .i64 b]) ∧ R a b w')) :
    Calls Tryz.prog 83 #[.pointer (some ⟨p, 0, none⟩), .int .i64 hd, va] w fun e w' => ∃ a b, e = .returned (.tuple #[.int .i64 a, .int .i64 b]) ∧ R a b w' := by
  have HF := hid (xfind_some h hd x hA hk)
  generalize L.inV x.kind = I at *
  unfold XA.cs at HF HV
  unfold shC at HS HG
  unfold grC at HG HV
  simp only at HV
  generalize x.l.length = n at *
  generalize s.length = m at *
  generalize l.length = m2 at *
  clear h hA hk
  go_enter Tryz.func83, Tryz.ntmps83
  go_wp2_with fail
  refine HF.out.mono ?_
  rintro e w2 ⟨rfl, hw⟩
  have HK := hid hw
  have HB2 : Hid ((w2.alloc (.cells #[.int .i64 x.kind, .int .i64 x.buf, .int .i64 (nth x.l 0), .int .i64 (nth x.l 1), .int .i64 (nth x.l 2), .int .i64 (nth x.l 3), .int .i64 (n : Int), .int .i64 x.f, .int .i64 (nth x.t 0), .int .i64 (nth x.t 1), .int .i64 (nth x.t 2), .int .i64 (nth x.t 3), .bool x.ro] 109)).heap[w2.heap.size]? = some (.cells #[.int .i64 x.kind, .int .i64 x.buf, .int .i64 (nth x.l 0), .int .i64 (nth x.l 1), .int .i64 (nth x.l 2), .int .i64 (nth x.l 3), .int .i64 (n : Int), .int .i64 x.f, .int .i64 (nth x.t 0), .int .i64 (nth x.t 1), .int .i64 (nth x.t 2), .int .i64 (nth x.t 3), .bool x.ro] 109 (0, 0))) := heap_alloc_new w2 _
  have HSZ : Hid (w.heap.size ≤ w2.heap.size) := hid hw.size
  clear hw
  go_wp2_with fail
  refine (HS.out _ (HK.out.alloc _)).mono ?_
  rintro e w3 ⟨rfl, hw⟩
  have HB3 := hid (hw.heap HB2.out)
  have HK3 : Hid (Kp0 w w3) := Kp0.trans (HK.out.alloc _) hw
  have hlt : w2.heap.size < w3.heap.size := lt_of_heap HB3.out
  clear hw HB2
  generalize w2.heap.size = b0 at *
  obtain ⟨y0, y1, y2, y3, y4, y5, y6, y7, y8, y9, y10, y11, y12⟩ := cells13 HB3.out
  go_wp2_with fail
  refine (HG.out _ (HK3.out.alloc _)).mono ?_
  rintro e w4 ⟨rfl, hw⟩
  have HB4 := hid (hw.heap (heap_alloc_keeps HB3.out _))
  have HK4 : Hid (Kp0 w w4) := Kp0.trans (HK3.out.alloc _) hw
  have hlt4 : b0 < w4.heap.size := lt_of_heap HB4.out
  clear hw y0 y1 y2 y3 y4 y5 y6 y7 y8 y9 y10 y11 y12 HB3 HK3
  have HKS : Hid (∀ O : Obj, Kp0 w ((w4.setCell ⟨b0, 12, none⟩ (.bool true)).alloc O)) := hid (fun O => Kp.alloc (Kp.setCell HK4.out ⟨b0, 12, none⟩ _ (fun h => by have := HSZ.out; change b0 < _ at h; omega)) O)
  obtain ⟨z0, z1, z2, z3, z4, z5, z6, z7, z8, z9, z10, z11, z12⟩ := cells13 HB4.out
  have f12 := frozen_of_row _ b0 12 _ _ HB4.out
  go_wp2_with fail
  refine (HV.out _ (HKS.out _)).mono ?_
  rintro e w5 ⟨a, b, rfl, hR⟩
  have HR := hid hR
  clear hR
  go_wp2
  go_ret2
  exact ⟨a, b, rfl, HR.out⟩

theorem xc_stretch {T : Tags} {o : Nat} {w : World} {p : Nat} {σ : Sp} (h : Int) (va : Value) (s : List Int) (hr : RdI w va s) (hR : XRep T o w p σ) (hm : σ.arrs.length + 1 ≤ 100000000) :
    Calls Tryz.prog 83 #[.pointer (some ⟨p, 0, none⟩), .int .i64 h, va] w fun e w' => e = .returned (.tuple #[.int .i64 (σ.stretch h s).2.1, .int .i64 (σ.stretch h s).2.2]) ∧ Step XRep T o w p (σ.stretch h s).1 w' := by
  have hR' := hR
  obtain ⟨hok, L, X, hX, hT⟩ := hR
  cases hf : σ.find h with
  | none =>
    have hres : σ.stretch h s = (σ, 0, 2) := by simp [Sp.stretch, hf]
    rw [hres]
    refine (xStretch_none hX h va (hT.non h hf)).mono ?_
    rintro e w' ⟨rfl, hk⟩
    exact ⟨rfl, hR'.stay hk⟩
  | some a =>
    obtain ⟨x, hA, hx⟩ := hT.som h a hf
    have ha := kind_of hok hf
    have hkd : x.kind = 1 ∨ x.kind = 2 := by rw [hx.kind]; exact ha.kind
    have hl := hx.l
    cases hsb : shapeB s with
    | false =>
      have hres : σ.stretch h s = (σ, 0, 4) := by simp [Sp.stretch, hf, hsb]
      rw [hres]
      refine (xStretch_shape hX h va x hA hkd (hid (fun W k => by have := xshape_calls va s W (hr.kp0 k); rw [hsb] at this; exact this))).mono ?_
      rintro e w' ⟨rfl, hk⟩
      exact ⟨rfl, hR'.stay hk⟩
    | true =>
      have hs : okShape s := (shapeB_iff s).1 hsb
      have HS : Hid (∀ W, Kp0 w W → Calls Tryz.prog 56 #[va] W fun e w' => e = .returned (.tuple #[.agg (shC s).toArray, .bool true]) ∧ Kp0 W w') := hid (fun W k => by have := xshape_calls va s W (hr.kp0 k); rw [hsb] at this; exact this)
      cases hst : stretchB a.shape s with
      | false =>
        have hres : σ.stretch h s = (σ, 0, 4) := by simp [Sp.stretch, hf, hsb, hst]
        rw [hres]
        refine (xStretch_no hX h va x s hA hkd HS (hid (fun W _ => (xgstr_calls x.l x.t s x.f W hx.g.shape.1 hs.1).mono ?_))).mono ?_
        · rintro e w' ⟨h1 | h1, hk⟩
          · rw [hl, hst] at h1; exact absurd h1.1 (by simp)
          · exact ⟨h1.2, hk⟩
        · rintro e w' ⟨rfl, hk⟩
          exact ⟨rfl, hR'.stay hk⟩
      | true =>
        have hres : σ.stretch h s = σ.derive a s (meant a.shape s) true := by simp [Sp.stretch, hf, hsb, hst]
        obtain ⟨f1, f2⟩ := (stretchB_iff _ _).1 hst
        have hV := xc_view hok hX hT hf hx s (strT a.shape x.t s) x.f hs (by unfold strT; rw [mkL_length]; exact Nat.le_refl _) (fun k hk hk1 => by
            have hg := (str_okB (hl ▸ hx.g : GOk a.shape x.t x.f _) hs hst).unit
            exact hg k hk hk1) (meantOf a.shape s) (fun i hi => meantOf_in a.shape s i ha.shape.2.1 f1 f2 hi) (fun i hi => by
            rw [str_dot f1 (by rw [← hl]; exact hx.g.unit) ha.shape.2.1 i]) true { x with ro := true } (by simp) hm _ hres
        have hG : Hid (∀ W, Kp0 w W → Calls Tryz.prog 127 #[.agg (grC x.l x.t x.f).toArray, .agg (shC s).toArray] W fun e w' => e = .returned (.tuple #[.agg (grC s (strT a.shape x.t s) x.f).toArray, .bool true]) ∧ Kp0 W w') := hid (fun W _ => (xgstr_calls x.l x.t s x.f W hx.g.shape.1 hs.1).mono (by
          rintro e w' ⟨h1 | h1, hk⟩
          · rw [hl] at h1; exact ⟨h1.2, hk⟩
          · rw [hl, hst] at h1; exact absurd h1.1 (by simp)))
        refine (xStretch_yes hX h va x s hA hkd _ _ _ HS hG (hid hV)).mono ?_
        rintro e w' ⟨r1, r2, rfl, ⟨rfl, rfl⟩, hst⟩
        exact ⟨rfl, hst⟩

end Go.Proofs.YticbbncdcannlaaGreat
