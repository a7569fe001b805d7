/- The document's answer, walked: fresh. -/
import Derived.Test.YticbbncdcannlaaGreatG02

namespace Go.Proofs.YticbbncdcannlaaGreat
open Go.RowKit

theorem RdI.kpne {S : Nat → Prop} {w w' : World} {v : Value} {xs : List Int} (h : RdI w v xs) (k : Kp S w w') (hs : xs ≠ [] → ∀ b, v.ownBlock = some b → ¬ S b) : RdI w' v xs := by
  by_cases e : xs = []
  · obtain ⟨a, cap, rfl, _⟩ := h
    exact ⟨a, cap, rfl, fun hne => absurd e hne⟩
  · exact h.kp k (hs e)

theorem Tryz.infoBuf : (Tryz.prog.info? 213).map (fun i => (i.zero, i.size, i.bytes)) = some (some (.agg #[.int .i64 0, .int .i64 0, .int .i64 0]), 3, 24) := by kernel_rfl

/-- Blocks of a space that may be written. -/
def Mut (o : Nat) (t : Nat × Nat) : Prop := t.1 = o ∧ 1 ≤ t.2 ∧ t.2 ≤ 5

/-- k numbers from a on. -/
def rng (a : Int) (k : Nat) : List Int := (List.range k).map fun i : Nat => a + i
theorem rng_succ (a : Int) (k : Nat) : rng a (k + 1) = rng a k ++ [a + k] := by simp [rng, List.range_succ]
theorem rng_length (a : Int) (k : Nat) : (rng a k).length = k := by simp [rng]

set_option maxRecDepth 100000 in
set_option maxHeartbeats 400000 in
theorem yfresh_many {T : Tags} {o : Nat} {w : World} {p : Nat} {L : YL} {σ : Sp} (hy : YAt T o w p L σ) (hok : σ.ok) (kind : Int) (vs vv : Value) (hl : 40 ≤ σ.live) :
    Calls Tryz.prog 138 #[.pointer (some ⟨p, 0, none⟩), .int .i64 kind, vs, vv] w fun e w' => e = .returned (.tuple #[.int .i64 0, .int .i64 7]) ∧ w' = w := by
  have HY := hid hy
  have HO := hid hok
  clear hy hok
  go_enter Tryz.func138, Tryz.ntmps138
  go_wp2_with fail
  refine (ylive_calls HY.out HO.out).mono ?_
  rintro e w' ⟨rfl, hw⟩
  obtain rfl := hw.symm
  go_wp2
  go_ret2
  exact ⟨rfl, rfl⟩

set_option maxRecDepth 100000 in
set_option maxHeartbeats 1000000 in
theorem yfresh_full {T : Tags} {o : Nat} {w : World} {p : Nat} {L : YL} {σ : Sp} (hy : YAt T o w p L σ) (hok : σ.ok) (kind : Int) (hk : kind = 1 ∨ kind = 2) (vs vv : Value) (s : List Int) (hs : okShape s) (hr : RdI w vs s) (hl : σ.live < 40) (hp : σ.place kind (vol s).toNat < 0) :
    Calls Tryz.prog 138 #[.pointer (some ⟨p, 0, none⟩), .int .i64 kind, vs, vv] w fun e w' => e = .returned (.tuple #[.int .i64 0, .int .i64 8]) ∧ Kp0 w w' := by
  have HY := hid hy
  have HO := hid hok
  have HR := hid hr
  have HS := hid hs
  have HK := hid hk
  have HV : Hid ((((vol s).toNat : Nat) : Int) = vol s) := hid (by
    have := vol_bd s hs.2.1 hs.1 s.length (Nat.le_refl _)
    rw [List.take_length] at this
    omega)
  have hvs : (vol s).toNat ≤ 3600 := by have := hs.2.2; omega
  clear hy hok hr hs hk
  go_enter Tryz.func138, Tryz.ntmps138
  go_wp2_with fail
  refine (ylive_calls HY.out HO.out).mono ?_
  rintro e w' ⟨rfl, hw⟩
  obtain rfl := hw.symm
  go_wp2_with fail
  refine (volume_calls _ _ _ HR.out HS.out.2.1 HS.out.1).mono ?_
  rintro e w' ⟨rfl, hw⟩
  obtain rfl := hw.symm
  go_wp2_with fail
  rw [← HV.out]
  refine (yplace_calls HY.out HO.out kind HK.out _ hvs).mono ?_
  rintro e w1 ⟨rfl, hK⟩
  have HK1 := hid hK
  clear hK
  go_wp2
  go_ret2
  exact ⟨rfl, HK1.out⟩

theorem placeIn_bd (t : Int → Bool) (size f i : Nat) (h : 0 ≤ placeIn t size f i) : placeIn t size f i + size ≤ (f : Int) + i := by
  induction f generalizing i with
  | zero => simp [placeIn] at h
  | succ f ih =>
    simp only [placeIn] at *
    split at h
    · rename_i he
      rw [if_pos he]
      omega
    · rename_i he
      rw [if_neg he]
      have := ih (i + 1) h
      omega

theorem place_bd (σ : Sp) (kind : Int) (size : Nat) (h : 0 ≤ σ.place kind size) : σ.place kind size + size ≤ σ.cap kind := by
  have := placeIn_bd (σ.taken kind) size (σ.cap kind) 0 h
  simpa [Sp.place] using this

/-- k cells written, from a on. -/
def Sp.puts (σ : Sp) (kind a : Int) (f : Nat → Int) : Nat → Sp
  | 0 => σ
  | k + 1 => (σ.puts kind a f k).put kind (a + k).toNat (f k)

theorem puts_cap (σ : Sp) (kind a : Int) (f : Nat → Int) (k : Nat) (j : Int) : (σ.puts kind a f k).cap j = σ.cap j := by
  induction k with
  | zero => rfl
  | succ k ih =>
    rw [← ih]
    simp only [Sp.puts, Sp.put, Sp.cap]
    by_cases hk : kind = 1
    · rw [if_pos hk]
    · rw [if_neg hk]
theorem puts_arrs (σ : Sp) (kind a : Int) (f : Nat → Int) (k : Nat) : (σ.puts kind a f k).arrs = σ.arrs ∧ (σ.puts kind a f k).bufs = σ.bufs ∧ (σ.puts kind a f k).n1 = σ.n1 ∧ (σ.puts kind a f k).n2 = σ.n2 ∧ (σ.puts kind a f k).v1.length = σ.v1.length ∧ (σ.puts kind a f k).v2.length = σ.v2.length := by
  induction k with
  | zero => exact ⟨rfl, rfl, rfl, rfl, rfl, rfl⟩
  | succ k ih =>
    obtain ⟨h1, h2, h3, h4, h5, h6⟩ := ih
    simp only [Sp.puts, Sp.put]
    split
    · exact ⟨h1, h2, h3, h4, by simp [h5], h6⟩
    · exact ⟨h1, h2, h3, h4, h5, by simp [h6]⟩

theorem puts_vals (σ : Sp) (kind a : Int) (f : Nat → Int) (k : Nat) (j : Int) : ((σ.puts kind a f k).vals j).length = (σ.vals j).length := by
  obtain ⟨-, -, -, -, h5, h6⟩ := puts_arrs σ kind a f k
  unfold Sp.vals
  split
  · exact h5
  · exact h6

theorem YAt.vthere {T : Tags} {o : Nat} {w : World} {p : Nat} {L : YL} {σ : Sp} (hy : YAt T o w p L σ) (kind : Int) (hk : kind = 1 ∨ kind = 2) (c : Nat) (hc : c < (σ.vals kind).length) : w.cell? ⟨L.gk kind, c, none⟩ = some (.int .i64 (nth (σ.vals kind) c)) := by
  rw [cell_of_row w _ _ _ _ _ (hy.vblk kind hk)]
  have := ints_get (xs := σ.vals kind) (j := c) hc
  simpa using this

/-- A new array with a buffer of its own. -/
def Sp.made (σ : Sp) (kind a : Int) (s : List Int) (m : Nat) (f : Nat → Int) : Sp :=
  ((σ.more ⟨kind, a, m⟩).puts kind a f m).lay ⟨kind, s, rng a m, false, σ.bufs.length⟩

theorem arr_ok_of {a : Arr} {σ σ' : Sp} (h : a.ok σ) (hc : ∀ j, σ'.cap j = σ.cap j) (hb : ∀ (i : Nat) (b : Buf), σ.bufs[i]? = some b → ∃ b', σ'.bufs[i]? = some b') : a.ok σ' :=
  ⟨h.kind, h.shape, h.length, fun j hj => by rw [hc]; exact h.inside j hj, by
    obtain ⟨b, hb'⟩ := h.buf
    exact hb _ b hb'⟩

theorem more_ok {σ : Sp} (h : σ.ok) (b : Buf) (hk : b.kind = 1 ∨ b.kind = 2) (h0 : 0 ≤ b.at') (h1 : 1 ≤ b.size) (h2 : b.size ≤ 3600) (h3 : b.at' + b.size ≤ σ.cap b.kind) (hm : σ.bufs.length + 1 ≤ 100000000) : (σ.more b).ok := by
  refine ⟨h.n1, h.n2, h.v1, h.v2, fun i a ha => ?_, fun i c hc => ?_, h.many, by simpa [Sp.more] using hm⟩
  · refine arr_ok_of (h.arr i a ha) (fun _ => rfl) (fun i b' hb' => ⟨b', ?_⟩)
    simp only [Sp.more]
    rw [List.getElem?_append_left (by
      rcases Nat.lt_or_ge i σ.bufs.length with h' | h'
      · exact h'
      · rw [List.getElem?_eq_none h'] at hb'; cases hb')]
    exact hb'
  · simp only [Sp.more] at hc
    rw [List.getElem?_append] at hc
    split at hc
    · exact h.buf i c hc
    · cases hj : i - σ.bufs.length with
      | zero =>
        rw [hj] at hc
        simp at hc
        subst hc
        exact ⟨hk, h0, h1, h2, h3⟩
      | succ j => rw [hj] at hc; simp at hc

theorem puts_ok {σ : Sp} (h : σ.ok) (kind a : Int) (f : Nat → Int) (k : Nat) : (σ.puts kind a f k).ok := by
  obtain ⟨h1, h2, h3, h4, h5, h6⟩ := puts_arrs σ kind a f k
  refine ⟨by rw [h3]; exact h.n1, by rw [h4]; exact h.n2, by rw [h5, h3]; exact h.v1, by rw [h6, h4]; exact h.v2, fun i b hb => ?_, fun i c hc => ?_, by rw [h1]; exact h.many, by rw [h2]; exact h.bufs⟩
  · rw [h1] at hb
    exact arr_ok_of (h.arr i b hb) (fun j => puts_cap σ kind a f k j) (fun i b' hb' => ⟨b', by rw [h2]; exact hb'⟩)
  · rw [h2] at hc
    rw [puts_cap]
    exact h.buf i c hc

set_option maxRecDepth 100000 in
set_option maxHeartbeats 4000000 in
theorem yfresh_ok {T : Tags} {o : Nat} {w : World} {p : Nat} {L : YL} {σ : Sp} (hy : YAt T o w p L σ) (hok : σ.ok) (kind : Int) (hk : kind = 1 ∨ kind = 2) (vs : Value) (s : List Int) (hs : okShape s) (hr : RdI w vs s) (hl : σ.live < 40) (hmb : σ.bufs.length + 1 ≤ 100000000) (at' : Int) (hat : σ.place kind (vol s).toNat = at') (h0 : 0 ≤ at')
    (hts : s ≠ [] → ∀ b, vs.ownBlock = some b → ¬ Mut o (T b)) :
    Calls Tryz.prog 138 #[.pointer (some ⟨p, 0, none⟩), .int .i64 kind, vs, .slice none 0 0] w fun e w' => e = .returned (.tuple #[.int .i64 ((σ.arrs.length : Int) + 1), .int .i64 0]) ∧
      ∃ T' L', TagsTo w T T' ∧ YAt T' o w' p L' (σ.made kind at' s (vol s).toNat fun _ => 0) ∧ Kp (fun b => Mut o (T b)) w w' := by
  have HY := hid hy
  have HO := hid hok
  have HR := hid hr
  have HS := hid hs
  have HK := hid hk
  obtain ⟨m, hm⟩ : ∃ m, (vol s).toNat = m := ⟨_, rfl⟩
  rw [hm] at hat
  have HV : Hid (vol s = (m : Int)) := hid (by
    have := vol_bd s hs.2.1 hs.1 s.length (Nat.le_refl _)
    rw [List.take_length] at this
    omega)
  have hvs : m ≤ 3600 := by have := hs.2.2; omega
  have HAT := hid hat
  have HM := hid hm
  have hn := hok.bufs
  obtain ⟨-, -, -, -, -, -, q7⟩ := hy.cells
  have f7 : w.frozen? ⟨p, 7, none⟩ = false := frozen_blk hy.blk
  have hp : p < w.heap.size := lt_of_heap hy.blk
  have HNE : Hid (some p ≠ L.vb.ownBlock) := hid (fun e => by
    have := hy.tb p e.symm
    rw [hy.tp] at this
    simp at this)
  have HVB := hid hy.vb
  have hneq := fun W => run_neq_slice_nil_any (P := Tryz.prog) W 26 3 none 0 0 0 0 Tryz.underlying26
  simp only [Option.isNone_none, Bool.not_true] at hneq
  have HOM : Hid ((σ.more (Buf.mk kind at' m)).ok) := hid (by
    have hb := place_bd σ kind m (by rw [hat]; exact h0)
    rw [hat] at hb
    have hv := vol_bd s hs.2.1 hs.1 s.length (Nat.le_refl _)
    rw [List.take_length] at hv
    exact more_ok hok _ hk h0 (by show (1 : Int) ≤ (m : Int); omega) (by show (m : Int) ≤ 3600; omega) hb hmb)
  have HLV := hid hl
  have HCAP : Hid (at' + m ≤ σ.cap kind ∧ σ.cap kind ≤ 10000) := hid (by
    have h := place_bd σ kind m (by rw [hat]; exact h0)
    rw [hat] at h
    exact ⟨h, hok.cap kind⟩)
  have HTS := hid hts
  have HSL : Hid (0 + s.length ≤ 1000000000000) := hid (by have := hs.1; omega)
  obtain ⟨i, hi, hz0, hz1, hz2⟩ := info_parts Tryz.infoBuf
  clear hy hok hr hs hk hat hm hts
  generalize hnb : σ.bufs.length = nb at *
  have HNB := hid hnb
  clear hnb
  have d40 : decide ((40 : Int) ≤ (σ.live : Int)) = false := by simp; omega
  have dat : decide (at' < 0) = false := by simp; omega
  have h63 : Hid (nb + 1 ≤ maxLen) := hid (by unfold maxLen; omega)
  have hbytes : Hid ((nb + 1) * 24 ≤ 140737488355328) := hid (by omega)
  have h1 : Hid (∀ u ∈ (Buf.mk kind at' m).row, u.oneCell' = true) := hid (by intro u hu; simp [Buf.row] at hu; rcases hu with rfl | rfl | rfl <;> rfl)
  go_enter Tryz.func138, Tryz.ntmps138
  go_wp2_with fail
  refine (ylive_calls HY.out HO.out).mono ?_
  rintro e w' ⟨rfl, hw⟩
  obtain rfl := hw.symm
  go_wp2_with fail
  refine (volume_calls _ _ _ HR.out HS.out.2.1 HS.out.1).mono ?_
  rintro e w' ⟨rfl, hw⟩
  obtain rfl := hw.symm
  go_wp2_with fail
  rw [HV.out]
  refine (yplace_calls HY.out HO.out kind HK.out _ hvs).mono ?_
  rintro e w1 ⟨rfl, hK⟩
  rw [HAT.out]
  have q7' := hK.cell q7
  have f7' : w1.frozen? ⟨p, 7, none⟩ = false := (World.frozen?_of_block (hK.block p hp (fun e => e))).trans f7
  have hp1 : p < w1.heap.size := Nat.lt_of_lt_of_le hp hK.size
  have HVB1 := hid (row_kp HVB.out hK (fun _ _ e => e))
  have HK1 := hid hK
  clear hK
  go_wp2_with (at_builtin; refine wpList_append_lies _ rfl _ _ _ rfl 0 213 i (.agg #[.int .i64 0, .int .i64 0, .int .i64 0]) 3 24 Tryz.underlying151 hi hz0 hz1 hz2 rfl (by omega) L.vb nb _ rfl (HVB1.out.alloc _) ⟨w1.heap.size, 0, none⟩ 1 1 (Buf.mk kind at' m).row rfl rfl (World.news_of_block (heap_alloc_new _ _)) h1.out (by omega) h63.out hbytes.out (Nat.zero_le _) (w1.heap.size + 1) (by simp) ?_)
  intro g cap w2 hown hgrow hat2 hlt2
  have hp2 : p < w2.heap.size := Nat.lt_of_lt_of_le (by simp; omega) hgrow.size
  have c7 : w2.cell? ⟨p, 7, none⟩ = some L.vb := hgrow.cell (by rw [World.cell?_alloc_lt _ _ _ hp1]; exact q7') HNE.out
  have e7 : w2.frozen? ⟨p, 7, none⟩ = false := by
    rw [hgrow.frozen_far _ (by simp; omega) HNE.out, World.frozen?_alloc_past _ _ _ hp1]; exact f7'
  have hY := HY.out.kp0 HK1.out
  have hmore := hY.more _ (Buf.mk kind at' m) g cap (by rw [HNB.out]; exact hown) hgrow hat2
  rw [HNB.out] at hmore
  obtain ⟨hY2, hKm⟩ := hmore
  have hKw : Kp (fun b => Mut o (T b)) w (w2.setCell ⟨p, 7, none⟩ (.slice (some ⟨g, 0, none⟩) (nb + 1) cap)) :=
    (Kp.of0 HK1.out).trans hKm (fun i hi h => by
      rcases h with h | h <;> rw [h] <;> simp [Mut])
  have hRS : ∀ y, RdI ((w2.setCell ⟨p, 7, none⟩ (.slice (some ⟨g, 0, none⟩) (nb + 1) cap)).alloc y) vs s := fun y =>
    HR.out.kpne (hKw.alloc y) (fun hx b hb => HTS.out hx b hb)
  have HRS := hid hRS
  have HY2 := hid hY2
  have HKw := hid hKw
  clear hown hgrow hat2 hlt2 hY hY2 hKm hKw hRS
  go_wp2_with (at_builtin; refine wpList_app rfl _ _ rfl none 0 0 [] s vs rfl rfl (OwI.nil _) (HRS.out _) HSL.out (w2.heap.size + 1) (by simp) ?_)
  intro ao c w4 hownS hgrowS hatS
  generalize hW2 : w2.setCell ⟨p, 7, none⟩ (.slice (some ⟨g, 0, none⟩) (nb + 1) cap) = W2 at *
  have hWs : W2.heap.size = w2.heap.size := by rw [← hW2]; simp
  have HWS := hid hWs
  have HW2 := hid hW2
  clear hW2
  have hA4 : w4.heap[w2.heap.size]? = some (.cells #[.int .i64 kind, .slice none 0 0, .slice none 0 0, .bool false, .int .i64 (nb : Int)] 181 (0, 0)) := by
    rw [hgrowS.block _ (by simp; omega) (by simp [Value.ownBlock]), ← hWs]
    exact heap_alloc_new _ _
  have hK4 : Kp0 W2 w4 := ((Kp.refl _ _).alloc _).grown hgrowS (by simp [Value.ownBlock])
  have hao : ∀ b, (Value.slice ao s.length c).ownBlock = some b → b = w2.heap.size + 1 := fun b hb => (hatS b hb).resolve_left (by simp [Value.ownBlock])
  have cA : w4.cell? ⟨w2.heap.size, 1, none⟩ = some (.slice none 0 0) := by simp [World.cell?, hA4]
  have fA : w4.frozen? ⟨w2.heap.size, 1, none⟩ = false := frozen_blk hA4
  have hS5 : OwI (w4.setCell ⟨w2.heap.size, 1, none⟩ (.slice ao s.length c)) (.slice ao s.length c) s := hownS.setCell _ (fun e => by
    have := hao _ e
    simp at this)
  have hK5 : Kp0 W2 (w4.setCell ⟨w2.heap.size, 1, none⟩ (.slice ao s.length c)) := Kp.setCell hK4 _ _ (fun h => by simp at h; omega)
  have hA5 : (w4.setCell ⟨w2.heap.size, 1, none⟩ (.slice ao s.length c)).heap[w2.heap.size]? = some (.cells #[.int .i64 kind, .slice ao s.length c, .slice none 0 0, .bool false, .int .i64 (nb : Int)] 181 (0, 0)) := by
    rw [heap_setCell_same _ _ _ _ _ _ hA4]
    rfl
  have HA4 := hid hA4
  have HAO := hid hao
  have HS5 := hid hS5
  have HK5 := hid hK5
  have HA5 := hid hA5
  clear hWs hgrowS hatS hownS hA4 hK4 hao hS5 hK5 hA5 HRS q7 f7 q7' f7' c7 e7
  go_wp2
  go_loopw [14] (fun t w' => ∃ k : Nat, k ≤ m ∧ t = .int .i64 k ∧ ∃ ac cc, Kp0 W2 w' ∧ w'.heap[w2.heap.size]? = some (.cells #[.int .i64 kind, .slice ao s.length c, .slice ac k cc, .bool false, .int .i64 (nb : Int)] 181 (0, 0)) ∧
      OwI w' (.slice ao s.length c) s ∧ OwI w' (.slice ac k cc) (rng at' k) ∧ (∀ b, (Value.slice ac k cc).ownBlock = some b → w2.heap.size < b ∧ (Value.slice ao s.length c).ownBlock ≠ some b)) (fun t _ => m - (intOf t).toNat)
  case atStart => exact ⟨0, Nat.zero_le _, rfl, none, 0, HK5.out, HA5.out, HS5.out, OwI.nil _, fun b hb => by simp [Value.ownBlock] at hb⟩
  case round =>
    obtain ⟨k, hk, rfl, ac, cc, hK6, hA6, hS6, hC6, hB6⟩ := hrel
    by_cases hlt : k < m
    · have cA : wr.cell? ⟨w2.heap.size, 2, none⟩ = some (.slice ac k cc) := by simp [World.cell?, hA6]
      have hAlt : w2.heap.size < wr.heap.size := lt_of_heap hA6
      have HAT0 : Hid (k + [at' + (k : Int)].length ≤ 1000000000000) := hid (by simp; omega)
      have HK6 := hid hK6
      have HA6 := hid hA6
      have HS6 := hid hS6
      have HC6 := hid hC6
      have HB6 := hid hB6
      have hcap := HCAP.out
      clear hK6 hA6 hS6 hC6 hB6
      go_wp2_with (at_builtin; refine wpList_app rfl _ _ rfl ac k cc (rng at' k) [at' + (k : Int)] _ rfl rfl (HC6.out.alloc _) (RdI.one _ _) HAT0.out (wr.heap.size + 1) (by simp) ?_)
      intro ac' cc' w7 hC7 hG7 hB7
      have hne : ∀ b, (Value.slice ac k cc).ownBlock = some b → w2.heap.size < b := fun b hb => (HB6.out b hb).1
      have hA7 := grown_heap HA6.out hG7 (fun e => by have := hne _ e.symm; omega)
      have hS7 : OwI w7 (.slice ao s.length c) s := (HS6.out.alloc _).grown hG7 (fun b hb e => (HB6.out b e.symm).2 hb)
      have hK7 : Kp0 W2 w7 := (Kp.alloc HK6.out _).grown hG7 (fun b hb h => by have := hne b hb; have := HWS.out; omega)
      have hB7' : ∀ b, (Value.slice ac' (k + 1) cc').ownBlock = some b → w2.heap.size < b ∧ (Value.slice ao s.length c).ownBlock ≠ some b := by
        intro b hb
        rcases hB7 b hb with h | h
        · exact HB6.out b h
        · refine ⟨by omega, fun e => ?_⟩
          have := HS6.out.lt e
          omega
      have cA7 : w7.cell? ⟨w2.heap.size, 2, none⟩ = some (.slice ac k cc) := by simp [World.cell?, hA7]
      have fA7 : w7.frozen? ⟨w2.heap.size, 2, none⟩ = false := frozen_blk hA7
      have HA7 := hid hA7
      have HS7 := hid hS7
      have HK7 := hid hK7
      have HB7 := hid hB7'
      have HC7 := hid hC7
      clear hne hA7 hS7 hK7 hB7 hB7' hC7 hG7
      go_wp2
      go_roundw
      case rel =>
        refine ⟨k + 1, by omega, by go_num, ac', cc', Kp.setCell HK7.out _ _ (fun h => by have := HWS.out; simp at h; omega), ?_, HS7.out.setCell _ (fun e => ?_), ?_, HB7.out⟩
        · rw [heap_setCell_same _ _ _ _ _ _ HA7.out]
          rfl
        · have := HAO.out _ e
          simp at this
        · rw [rng_succ]
          exact HC7.out.setCell _ (fun e => by have := (HB7.out _ e).1; simp at this)
      case measure => simp [intOf]; omega
    · have hkm : k = m := by omega
      have HKM := hid hkm
      have hy3 : YAt (retag W2 (retag w1 T (o, 5)) (o, 6)) o wr p { L with vb := .slice (some ⟨g, 0, none⟩) (nb + 1) cap } (σ.more (Buf.mk kind at' m)) := (HY2.out.tags (retag_to W2 _ _)).kp0 hK6
      have ha3 : YArr (retag W2 (retag w1 T (o, 5)) (o, 6)) o wr w2.heap.size (.slice ao s.length c) (.slice ac k cc) ⟨kind, s, rng at' m, false, nb⟩ := by
        have hw := HWS.out
        refine ⟨hA6, hS6, by rw [← hkm]; exact hC6, retag_new (by omega), fun b hb => retag_new ?_, fun b hb => retag_new ?_⟩
        · have := HAO.out b hb; omega
        · have := (hB6 b hb).1; omega
      have HK6 := hid hK6
      generalize hL2 : ({ L with vb := .slice (some ⟨g, 0, none⟩) (nb + 1) cap } : YL) = L2 at *
      clear hL2
      generalize hT3 : retag W2 (retag w1 T (o, 5)) (o, 6) = T3 at *
      have HT3 := hid hT3
      have HY3 := hid hy3
      have HA3 := hid ha3
      clear hK6 hA6 hS6 hC6 hB6 hT3 hy3 ha3 hkm
      go_wp2
      obtain ⟨w8, hw8⟩ : ∃ w8 : World, w8 = wr := ⟨_, rfl⟩
      have HW8 := hid hw8
      clear hw8
      go_loopw [15] (fun t w' => ∃ j : Nat, j ≤ m ∧ t = .int .i64 j ∧ YAt T3 o w' p L2 ((σ.more (Buf.mk kind at' m)).puts kind at' (fun _ => 0) j) ∧ YArr T3 o w' w2.heap.size (.slice ao s.length c) (.slice ac k cc) ⟨kind, s, rng at' m, false, nb⟩ ∧
          Kp (fun b => T3 b = (o, 2) ∨ T3 b = (o, 3)) w8 w') (fun t _ => m - (intOf t).toNat)
      case atStart => exact ⟨0, Nat.zero_le _, rfl, HY3.out, HA3.out, by rw [HW8.out]; exact Kp.refl _ _⟩
      case round =>
        obtain ⟨j, hj, rfl, hy9, ha9, hk9⟩ := hrel
        have HY9 := hid hy9
        have HA9 := hid ha9
        have HK9 := hid hk9
        clear hy9 ha9 hk9
        by_cases hjm : j < m
        · have hvc := HY9.out.vcell kind HK.out
          rw [puts_cap] at hvc
          have hcp : at' + m ≤ σ.cap kind ∧ σ.cap kind ≤ 10000 := HCAP.out
          have hcell := HY9.out.vthere kind HK.out (at' + j).toNat (by
            rw [puts_vals]
            show _ < (σ.vals kind).length
            rw [HO.out.vals kind]
            omega)
          have hfz : wr.frozen? ⟨L2.gk kind, (at' + j).toNat, none⟩ = false := frozen_blk (HY9.out.vblk kind HK.out)
          have hkk : 1 ≤ kind ∧ kind ≤ 2 := by have := HK.out; omega
          have HP := hid (HY9.out.put kind HK.out (at' + j).toNat 0)
          change wr.cell? _ = some (.slice (some ⟨L2.gk kind, 0, none⟩) (σ.cap kind) (σ.cap kind)) at hvc
          generalize σ.cap kind = n at *
          go_wp2
          go_roundw
          case rel => exact ⟨j + 1, by omega, by go_num, HP.out.1, HA9.out.kp HP.out.2 (fun b hb h => by rw [hb] at h; simp at h), HK9.out.trans HP.out.2 (fun _ _ h => h)⟩
          case measure => simp [intOf]; omega
        · have HJM : Hid (j = m) := hid (by omega)
          have HL40 : Hid (((σ.more (Buf.mk kind at' m)).puts kind at' (fun _ => 0) j).live < 40) := hid (by
            unfold Sp.live
            rw [(puts_arrs _ kind at' _ j).1]
            exact HLV.out)
          have HOJ := hid (puts_ok HOM.out kind at' (fun _ => 0) j)
          have HLEN : Hid (((σ.more (Buf.mk kind at' m)).puts kind at' (fun _ => 0) j).arrs.length = σ.arrs.length) := hid (by
            rw [(puts_arrs _ kind at' _ j).1]; rfl)
          go_wp2_with fail
          refine (ylay_calls HY9.out HOJ.out _ _ _ _ HA9.out HL40.out).mono ?_
          rintro e w10 ⟨rfl, hex⟩
          have HEX := hid hex
          clear hex
          go_wp2
          go_ret2
          refine ⟨by rw [HLEN.out]; rfl, ?_⟩
          obtain ⟨T', L', ht, hy10, hk10⟩ := HEX.out
          have t3 : ∀ b, b < w.heap.size → T3 b = T b := by
            intro b hb
            have s1 := HK1.out.size
            have s2 := HKw.out.size
            rw [← HT3.out, retag_to W2 _ _ b (by omega), retag_to w1 _ _ b (by omega)]
          have s3 : w.heap.size ≤ wr.heap.size := by
            have := HK9.out.size
            have := HK6.out.size
            have := HKw.out.size
            rw [HW8.out] at *
            omega
          refine ⟨T', L', fun b hb => by rw [ht b (by omega), t3 b hb], ?_, ?_⟩
          · unfold Sp.made
            rw [HNB.out, HM.out, ← HJM.out]
            rw [← HJM.out] at hy10
            exact hy10
          · have k1 : Kp (fun b => Mut o (T b)) w w8 := HKw.out.trans0 (by rw [HW8.out]; exact HK6.out)
            have k2 : Kp (fun b => Mut o (T b)) w wr := k1.trans HK9.out (fun i hi h => by
              rw [t3 i hi] at h
              rcases h with h | h <;> rw [h] <;> simp [Mut])
            exact k2.trans hk10 (fun i hi h => by
              rw [t3 i hi] at h
              rcases h with h | h <;> rw [h] <;> simp [Mut])

end Go.Proofs.YticbbncdcannlaaGreat

/- The document's answer, walked: Make, Free, Get. -/
namespace Go.Proofs.YticbbncdcannlaaGreat
open Go.RowKit

/-- The document's answer's space, wherever its parts lie. -/
def YRep (T : Tags) (o : Nat) (w : World) (p : Nat) (σ : Sp) : Prop := σ.ok ∧ ∃ L, YAt T o w p L σ

/-- What a call on a space of owner o leaves: the space σ'; all else as it was. -/
def YStep (T : Tags) (o : Nat) (w : World) (p : Nat) (σ' : Sp) (w' : World) : Prop :=
  ∃ T', TagsTo w T T' ∧ YRep T' o w' p σ' ∧ Kp (fun b => Mut o (T b)) w w'

theorem YStep.same {T : Tags} {o : Nat} {w w' : World} {p : Nat} {σ : Sp} (h : YRep T o w p σ) (k : Kp0 w w') : YStep T o w p σ w' := by
  obtain ⟨hok, L, hy⟩ := h
  exact ⟨T, fun _ _ => rfl, ⟨hok, L, hy.kp0 k⟩, Kp.of0 k⟩

theorem lay_ok {σ : Sp} (h : σ.ok) (a : Arr) (ha : a.ok σ) (hm : σ.arrs.length + 1 ≤ 100000000) : (σ.lay a).ok := by
  refine ⟨h.n1, h.n2, h.v1, h.v2, fun i b hb => ?_, h.buf, by simpa [Sp.lay] using hm, h.bufs⟩
  simp only [Sp.lay] at hb
  rw [List.getElem?_append] at hb
  split at hb
  · exact arr_ok_of (h.arr i b hb) (fun _ => rfl) (fun i b' hb' => ⟨b', hb'⟩)
  · cases hj : i - σ.arrs.length with
    | zero =>
      rw [hj] at hb
      simp at hb
      subst hb
      exact arr_ok_of ha (fun _ => rfl) (fun i b' hb' => ⟨b', hb'⟩)
    | succ j => rw [hj] at hb; simp at hb

theorem nth_rng (a : Int) (k j : Nat) (h : j < k) : nth (rng a k) j = a + j := by
  rw [nth_lt (by rw [rng_length]; exact h)]
  simp [rng]

theorem made_ok {σ : Sp} (h : σ.ok) (kind a : Int) (s : List Int) (f : Nat → Int) (hk : kind = 1 ∨ kind = 2) (hs : okShape s) (h0 : 0 ≤ a) (hc : a + (vol s).toNat ≤ σ.cap kind) (hm : σ.arrs.length + 1 ≤ 100000000) (hb : σ.bufs.length + 1 ≤ 100000000) :
    (σ.made kind a s (vol s).toNat f).ok := by
  have hv := vol_bd s hs.2.1 hs.1 s.length (Nat.le_refl _)
  rw [List.take_length] at hv
  have h1 := more_ok h ⟨kind, a, ((vol s).toNat : Nat)⟩ hk h0 (by show (1 : Int) ≤ (((vol s).toNat : Nat) : Int); omega) (by show (((vol s).toNat : Nat) : Int) ≤ 3600; have := hs.2.2; omega) hc hb
  have h2 := puts_ok h1 kind a f (vol s).toNat
  obtain ⟨e1, e2, -⟩ := puts_arrs (σ.more ⟨kind, a, ((vol s).toNat : Nat)⟩) kind a f (vol s).toNat
  refine lay_ok h2 _ ⟨hk, hs, ?_, fun j hj => ?_, ⟨⟨kind, a, ((vol s).toNat : Nat)⟩, ?_⟩⟩ (by rw [e1]; exact hm)
  · show ((rng a (vol s).toNat).length : Int) = vol s
    rw [rng_length]
    omega
  · have hj' : j < (vol s).toNat := by
      have : (rng a (vol s).toNat).length = (vol s).toNat := rng_length _ _
      rw [← this]; exact hj
    show 0 ≤ nth (rng a (vol s).toNat) j ∧ nth (rng a (vol s).toNat) j < _
    rw [nth_rng _ _ _ hj', puts_cap]
    constructor
    · omega
    · show a + j < (σ.cap kind : Int)
      omega
  · show _ = _
    rw [e2]
    simp [Sp.more]

/-- Make: the state behind it, the handle, the error. -/
def Sp.make (σ : Sp) (kind : Int) (s : List Int) : Sp × Int × Int :=
  if kind ≠ 1 ∧ kind ≠ 2 then (σ, 0, 3)
  else if shapeB s = false then (σ, 0, 4)
  else if 40 ≤ σ.live then (σ, 0, 7)
  else if σ.place kind (vol s).toNat < 0 then (σ, 0, 8)
  else (σ.made kind (σ.place kind (vol s).toNat) s (vol s).toNat fun _ => 0, (σ.arrs.length : Int) + 1, 0)

set_option maxRecDepth 100000 in
set_option maxHeartbeats 1000000 in
theorem ymake_calls {T : Tags} {o : Nat} {w : World} {p : Nat} {σ : Sp} (hy : YRep T o w p σ) (kind : Int) (vs : Value) (s : List Int) (hr : RdI w vs s) (hts : s ≠ [] → ∀ b, vs.ownBlock = some b → ¬ Mut o (T b))
    (hm : σ.arrs.length + 1 ≤ 100000000) (hb : σ.bufs.length + 1 ≤ 100000000) :
    Calls Tryz.prog 106 #[.pointer (some ⟨p, 0, none⟩), .int .i64 kind, vs] w fun e w' => e = .returned (.tuple #[.int .i64 (σ.make kind s).2.1, .int .i64 (σ.make kind s).2.2]) ∧ YStep T o w p (σ.make kind s).1 w' := by
  have HYR := hid hy
  obtain ⟨hok, L, hy⟩ := hy
  have HY := hid hy
  have HO := hid hok
  have HR := hid hr
  have HT := hid hts
  clear hy hok hr hts
  by_cases hk : kind = 1 ∨ kind = 2
  · have HK := hid hk
    have hd : ((kind != 1) && (kind != 2)) = false := by rcases hk with rfl | rfl <;> rfl
    by_cases hs : shapeB s = true
    · have HS := hid hs
      by_cases hl : 40 ≤ σ.live
      · have HF : Hid (σ.make kind s = (σ, 0, 7)) := hid <| by
          unfold Sp.make
          rw [if_neg (by omega), if_neg (by simp [hs]), if_pos hl]
        rcases hk with rfl | rfl
        all_goals
          clear hd
          go_enter Tryz.func106, Tryz.ntmps106
          go_wp2_with fail
          refine (shape_calls _ _ _ HR.out).mono ?_
          rintro e w' ⟨rfl, hw⟩
          obtain rfl := hw.symm
          go_wp2_with fail
          refine (yfresh_many HY.out HO.out _ _ _ hl).mono ?_
          rintro e w' ⟨rfl, hw⟩
          obtain rfl := hw.symm
          go_wp2
          go_ret2
          rw [HF.out]
          exact ⟨rfl, YStep.same HYR.out (Kp0.refl _)⟩
      · by_cases hp : σ.place kind (vol s).toNat < 0
        · have HF : Hid (σ.make kind s = (σ, 0, 8)) := hid <| by
            unfold Sp.make
            rw [if_neg (by omega), if_neg (by simp [hs]), if_neg hl, if_pos hp]
          have HP := hid hp
          clear hp
          rcases hk with rfl | rfl
          all_goals
            clear hd
            go_enter Tryz.func106, Tryz.ntmps106
            go_wp2_with fail
            refine (shape_calls _ _ _ HR.out).mono ?_
            rintro e w' ⟨rfl, hw⟩
            obtain rfl := hw.symm
            go_wp2_with fail
            refine (yfresh_full HY.out HO.out _ (by omega) _ _ s ((shapeB_iff s).1 HS.out) HR.out (by omega) HP.out).mono ?_
            rintro e w' ⟨rfl, hw⟩
            have HW := hid hw
            clear hw
            go_wp2
            go_ret2
            rw [HF.out]
            exact ⟨rfl, YStep.same HYR.out HW.out⟩
        · have HF : Hid (σ.make kind s = (σ.made kind (σ.place kind (vol s).toNat) s (vol s).toNat fun _ => 0, (σ.arrs.length : Int) + 1, 0)) := hid <| by
            unfold Sp.make
            rw [if_neg (by omega), if_neg (by simp [hs]), if_neg hl, if_neg hp]
          have HP := hid hp
          clear hp
          rcases hk with rfl | rfl
          all_goals
            clear hd
            go_enter Tryz.func106, Tryz.ntmps106
            go_wp2_with fail
            refine (shape_calls _ _ _ HR.out).mono ?_
            rintro e w' ⟨rfl, hw⟩
            obtain rfl := hw.symm
            go_wp2_with fail
            refine (yfresh_ok HY.out HO.out _ (by omega) _ s ((shapeB_iff s).1 HS.out) HR.out (by omega) hb _ rfl (by have := HP.out; omega) HT.out).mono ?_
            rintro e w' ⟨rfl, hw⟩
            have HW := hid hw
            clear hw
            go_wp2
            go_ret2
            rw [HF.out]
            refine ⟨rfl, ?_⟩
            obtain ⟨T', L', h1, h2, h3⟩ := HW.out
            exact ⟨T', h1, ⟨made_ok HO.out _ _ s _ (by omega) ((shapeB_iff s).1 HS.out) (by have := HP.out; omega) (place_bd σ _ _ (by have := HP.out; omega)) hm hb, L', h2⟩, h3⟩
    · have hs' : shapeB s = false := by simpa using hs
      have HF : Hid (σ.make kind s = (σ, 0, 4)) := hid <| by
        unfold Sp.make
        rw [if_neg (by omega), if_pos hs']
      clear hs
      rcases hk with rfl | rfl
      all_goals
        clear hd
        go_enter Tryz.func106, Tryz.ntmps106
        go_wp2_with fail
        refine (shape_calls _ _ _ HR.out).mono ?_
        rintro e w' ⟨rfl, hw⟩
        obtain rfl := hw.symm
        go_wp2
        go_ret2
        rw [HF.out]
        exact ⟨rfl, YStep.same HYR.out (Kp0.refl _)⟩
  · have d1 : (kind != 1) = true := by rw [bne_iff_ne]; omega
    have d2 : (kind != 2) = true := by rw [bne_iff_ne]; omega
    have HF : Hid (σ.make kind s = (σ, 0, 3)) := hid <| by
      unfold Sp.make
      rw [if_pos (by omega)]
    clear hk
    go_enter Tryz.func106, Tryz.ntmps106
    go_wp2
    go_ret2
    rw [HF.out]
    exact ⟨rfl, YStep.same HYR.out (Kp0.refl _)⟩

end Go.Proofs.YticbbncdcannlaaGreat

/- The document's answer, walked: Free. -/
namespace Go.Proofs.YticbbncdcannlaaGreat
open Go.RowKit

/-- Free: the state behind it, the error. -/
def Sp.free (σ : Sp) (h : Int) : Sp × Int := match σ.find h with
  | none => (σ, 2)
  | some _ => ({ σ with arrs := σ.arrs.set (ix h) none }, 0)

theorem free_ok {σ : Sp} (h : σ.ok) (d : Int) : (σ.free d).1.ok := by
  unfold Sp.free
  split
  · exact h
  · refine ⟨h.n1, h.n2, h.v1, h.v2, fun i b hb => ?_, h.buf, by simpa using h.many, h.bufs⟩
    simp only [List.getElem?_set] at hb
    split at hb
    · split at hb <;> simp at hb
    · exact arr_ok_of (h.arr i b hb) (fun _ => rfl) (fun i b' hb' => ⟨b', hb'⟩)

theorem YAt.drop {T : Tags} {o : Nat} {w : World} {p : Nat} {L : YL} {σ : Sp} (hy : YAt T o w p L σ) (g cap j : Nat) (hv : L.va = .slice (some ⟨g, 0, none⟩) σ.arrs.length cap) :
    YAt T o (w.setCell ⟨g, j, none⟩ (.pointer none)) p { L with ps := L.ps.set j none } { σ with arrs := σ.arrs.set j none } ∧ Kp (fun b => T b = (o, 4)) w (w.setCell ⟨g, j, none⟩ (.pointer none)) := by
  have tg : T g = (o, 4) := hy.ta g (by rw [hv]; rfl)
  have hk : Kp (fun b => T b = (o, 4)) w (w.setCell ⟨g, j, none⟩ (.pointer none)) := (Kp.refl _ _).setCell _ _ (fun _ => tg)
  have no : ∀ (b t : Nat), t ≠ 4 → T b = (o, t) → ¬ (T b = (o, 4)) := by
    intro b t h1 ht h
    rw [ht] at h
    simp at h
    omega
  refine ⟨?_, hk⟩
  exact {
    blk := by
      have := hk.heap hy.blk (no p 1 (by omega) hy.tp)
      simpa using this
    c1 := hk.heap hy.c1 (no _ 2 (by omega) hy.t1)
    c2 := hk.heap hy.c2 (no _ 3 (by omega) hy.t2)
    va := by
      have h := hy.va
      rw [hv] at h
      have := h.stored j (.pointer none)
      rw [List.length_set]
      show World.ownsRow _ 0 _ 1 L.va _ _
      rw [hv]
      have e : (L.ps.map ptr).set j (.pointer none) = (L.ps.set j none).map ptr := by rw [List.map_set]; rfl
      rw [← e]
      exact this.1
    vb := row_kp hy.vb hk (fun b hb => no b 5 (by omega) (hy.tb b hb))
    len := by simp [hy.len]
    non := by
      intro i hi
      simp only [List.getElem?_set] at hi ⊢
      by_cases hj : j = i
      · subst hj
        simp only [if_true] at hi ⊢
        rw [hy.len]
        split at hi
        · rename_i hlt; rw [if_pos hlt]
        · simp at hi
      · simp only [hj, if_false] at hi ⊢
        exact hy.non i hi
    som := by
      intro i a hi
      simp only [List.getElem?_set] at hi ⊢
      by_cases hj : j = i
      · subst hj
        simp only [if_true] at hi
        split at hi <;> simp at hi
      · simp only [hj, if_false] at hi ⊢
        obtain ⟨q, vs, vc, h1, h2⟩ := hy.som i a hi
        exact ⟨q, vs, vc, h1, h2.kp hk (fun b hb => no b 6 (by omega) hb)⟩
    tp := hy.tp
    t1 := hy.t1
    t2 := hy.t2
    ta := hy.ta
    tb := hy.tb }

set_option maxRecDepth 100000 in
set_option maxHeartbeats 1000000 in
theorem yfree_calls {T : Tags} {o : Nat} {w : World} {p : Nat} {σ : Sp} (hy : YRep T o w p σ) (h : Int) :
    Calls Tryz.prog 110 #[.pointer (some ⟨p, 0, none⟩), .int .i64 h] w fun e w' => e = .returned (.int .i64 (σ.free h).2) ∧ YStep T o w p (σ.free h).1 w' := by
  have HYR := hid hy
  obtain ⟨hok, L, hy⟩ := hy
  have HO := hid hok
  have HFO := hid (free_ok hok h)
  have hm := hok.many
  obtain ⟨-, -, -, -, -, q6, -⟩ := hy.cells
  rcases hy.find h with ⟨hf, hl⟩ | ⟨a, q, vs, vc, hf, hl, hya, hat, h1⟩
  · have HF : Hid (σ.free h = (σ, 2)) := hid (by unfold Sp.free; rw [hf])
    have HY := hid hy
    have HL := hid hl
    clear hy hok hf hl
    go_enter Tryz.func110, Tryz.ntmps110
    go_wp2_with fail
    refine (yfind_calls HY.out HO.out h).mono ?_
    rintro e w' ⟨rfl, hw⟩
    obtain rfl := hw.symm
    rw [HL.out]
    simp only [ptr]
    go_wp2
    go_ret
    rw [HF.out]
    exact ⟨rfl, YStep.same HYR.out (Kp0.refl _)⟩
  · have HF : Hid (σ.free h = ({ σ with arrs := σ.arrs.set (ix h) none }, 0)) := hid (by unfold Sp.free; rw [hf])
    have hlt : ix h < σ.arrs.length := by
      rcases Nat.lt_or_ge (ix h) σ.arrs.length with h' | h'
      · exact h'
      · rw [List.getElem?_eq_none h'] at hat; cases hat
    rcases hy.ptrs with ⟨hv, hn⟩ | ⟨g, cap, hv, hc⟩
    · omega
    · rw [hv] at q6
      have hcell := hc (ix h) hlt
      have hpp : L.ps.getD (ix h) none = some q := by
        unfold YL.at at hl
        rw [if_pos h1] at hl
        exact hl
      rw [hpp] at hcell
      simp only [ptr] at hcell
      have hfz : w.frozen? ⟨g, h.toNat - 1, none⟩ = false := by
        have := hy.va
        rw [hv] at this
        exact this.frozenAt _
      have HD := hid (hy.drop g cap (ix h) hv)
      have hix : h ≤ σ.arrs.length := by unfold ix at hlt; omega
      change w.cell? ⟨g, h.toNat - 1, none⟩ = _ at hcell
      have HY := hid hy
      have HL := hid hl
      clear hy hok hf hl hya hat hc hpp hlt hv
      go_enter Tryz.func110, Tryz.ntmps110
      go_wp2_with fail
      refine (yfind_calls HY.out HO.out h).mono ?_
      rintro e w' ⟨rfl, hw⟩
      obtain rfl := hw.symm
      rw [HL.out]
      simp only [ptr]
      go_wp2
      go_ret
      have hfo := HFO.out
      rw [HF.out] at hfo ⊢
      refine ⟨rfl, T, fun _ _ => rfl, ⟨hfo, _, HD.out.1⟩, HD.out.2.mono (fun i _ e => by rw [e]; simp [Mut])⟩

end Go.Proofs.YticbbncdcannlaaGreat

/- The document's answer, walked: Get, Set. -/
namespace Go.Proofs.YticbbncdcannlaaGreat
open Go.RowKit

/-- Get: the value, the error. -/
def Sp.get (σ : Sp) (h : Int) (i : List Int) : Int × Int := match σ.find h with
  | none => (0, 2)
  | some a => if rank a.shape i < 0 then (0, 5) else (nth (σ.vals a.kind) (nth a.cells (rank a.shape i).toNat).toNat, 0)

/-- What an array's block and its cells hold. -/
theorem YArr.parts {T : Tags} {o : Nat} {w : World} {q : Nat} {vs vc : Value} {a : Arr} (h : YArr T o w q vs vc a) :
    w.cell? ⟨q, 0, none⟩ = some (.int .i64 a.kind) ∧ w.cell? ⟨q, 1, none⟩ = some vs ∧ w.cell? ⟨q, 2, none⟩ = some vc ∧ w.cell? ⟨q, 3, none⟩ = some (.bool a.ro) ∧ w.cell? ⟨q, 4, none⟩ = some (.int .i64 (a.buf : Int)) := by
  simp [World.cell?, h.blk]

theorem OwI.slice {w : World} {v : Value} {xs : List Int} (h : OwI w v xs) (hne : 0 < xs.length) :
    ∃ g cap, v = .slice (some ⟨g, 0, none⟩) xs.length cap ∧ xs.length ≤ cap ∧ g < w.heap.size ∧ (∀ j, j < xs.length → w.cell? ⟨g, j, none⟩ = some (.int .i64 (nth xs j))) := by
  rcases row_form h with ⟨_, h0⟩ | ⟨g, cap, hv, hn, hg, hc⟩
  · omega
  · refine ⟨g, cap, hv, hn, hg, fun j hj => ?_⟩
    rw [hc j (by omega)]
    exact ints_get hj

theorem rank_cases (s i : List Int) (hs : sized s) : rank s i = -1 ∨ (0 ≤ rank s i ∧ rank s i < vol s) := by
  unfold rank
  split
  · rename_i h
    right
    have := rank_bd s i hs ((inBb_iff s i).1 h).2 s.length (Nat.le_refl _)
    rw [List.take_length] at this
    exact this
  · exact .inl rfl

theorem find_ok {σ : Sp} (h : σ.ok) {d : Int} {a : Arr} (hat : σ.arrs[ix d]? = some (some a)) : a.ok σ := h.arr _ _ hat

set_option maxRecDepth 100000 in
set_option maxHeartbeats 1000000 in
theorem yget_calls {T : Tags} {o : Nat} {w : World} {p : Nat} {σ : Sp} (hy : YRep T o w p σ) (h : Int) (vi : Value) (i : List Int) (hr : RdI w vi i) :
    Calls Tryz.prog 108 #[.pointer (some ⟨p, 0, none⟩), .int .i64 h, vi] w fun e w' => e = .returned (.tuple #[.int .i64 (σ.get h i).1, .int .i64 (σ.get h i).2]) ∧ Kp0 w w' := by
  obtain ⟨hok, L, hy⟩ := hy
  have HO := hid hok
  have HR := hid hr
  rcases hy.find h with ⟨hf, hl⟩ | ⟨a, q, vs, vc, hf, hl, hya, hat, h1⟩
  · have HF : Hid (σ.get h i = (0, 2)) := hid (by unfold Sp.get; rw [hf])
    have HY := hid hy
    have HL := hid hl
    clear hy hok hf hl hr
    go_enter Tryz.func108, Tryz.ntmps108
    go_wp2_with fail
    refine (yfind_calls HY.out HO.out h).mono ?_
    rintro e w' ⟨rfl, hw⟩
    obtain rfl := hw.symm
    rw [HL.out]
    simp only [ptr]
    go_wp2
    go_ret2
    rw [HF.out]
    exact ⟨rfl, Kp0.refl _⟩
  · have hao := find_ok hok hat
    obtain ⟨z0, z1, z2, -, -⟩ := hya.parts
    have hsh := hao.shape
    have HRK := hid (fun (W : World) (k : Kp0 w W) => rank_calls vs vi a.shape i W (hya.shape.rd.kp0 k) (hr.kp0 k) hsh.2.1 hsh.1)
    have hlen := hao.length
    have hv := vol_bd a.shape hsh.2.1 hsh.1 a.shape.length (Nat.le_refl _)
    rw [List.take_length] at hv
    obtain ⟨gc, cap, rfl, hcap, hgc, hcc⟩ := hya.cells.slice (by omega)
    have HY := hid hy
    have HL := hid hl
    rcases rank_cases a.shape i hsh.2.1 with hneg | ⟨hr0, hr1⟩
    · have HF : Hid (σ.get h i = (0, 5)) := hid (by unfold Sp.get; rw [hf]; simp [hneg])
      have HN := hid hneg
      clear hy hok hf hl hr hao hsh hlen hv hcc hya hat hneg
      go_enter Tryz.func108, Tryz.ntmps108
      go_wp2_with fail
      refine (yfind_calls HY.out HO.out h).mono ?_
      rintro e w' ⟨rfl, hw⟩
      obtain rfl := hw.symm
      rw [HL.out]
      simp only [ptr]
      go_wp2_with fail
      refine (HRK.out _ (Kp0.refl _)).mono ?_
      rintro e w1 ⟨rfl, hk⟩
      have HK := hid hk
      clear hk
      rw [HN.out]
      go_wp2
      go_ret2
      rw [HF.out]
      exact ⟨rfl, HK.out⟩
    · have hc := hcc (rank a.shape i).toNat (by omega)
      have hin := hao.inside (rank a.shape i).toNat (by omega)
      have hkd := hao.kind
      have hvc := hy.vcell a.kind hkd
      have hvt := hy.vat hok a.kind hkd (nth a.cells (rank a.shape i).toNat).toNat (by omega)
      have HF : Hid (σ.get h i = (nth (σ.vals a.kind) (nth a.cells (rank a.shape i).toNat).toNat, 0)) := hid (by unfold Sp.get; rw [hf]; simp only; rw [if_neg (by omega)])
      have hkb : 1 ≤ a.kind ∧ a.kind ≤ 2 := by omega
      have hcpm := hok.cap a.kind
      have hrl : rank a.shape i < (a.cells.length : Int) := by omega
      have hrn : rank a.shape i < 3601 := by have := hsh.2.2; omega
      clear hy hok hf hl hr hao hsh hlen hv hcc hya hat hkd
      generalize a.cells.length = n at *
      generalize hrr : rank a.shape i = r at *
      generalize nth a.cells r.toNat = c at *
      generalize nth (σ.vals a.kind) c.toNat = x at *
      generalize a.kind = kd at *
      generalize σ.cap kd = cp at *
      clear hrr
      go_enter Tryz.func108, Tryz.ntmps108
      go_wp2_with fail
      refine (yfind_calls HY.out HO.out h).mono ?_
      rintro e w' ⟨rfl, hw⟩
      obtain rfl := hw.symm
      rw [HL.out]
      simp only [ptr]
      go_wp2_with fail
      refine (HRK.out _ (Kp0.refl _)).mono ?_
      rintro e w1 ⟨rfl, hk⟩
      have y0 := hk.cell z0
      have y2 := hk.cell z2
      have yc := hk.cell hc
      have yv := hk.cell hvc
      have yt := hk.cell hvt
      have HK := hid hk
      clear hk z0 z1 z2 hc hvc hvt
      go_wp2
      go_quiet (fail)
      go_wp2
      go_ret2
      rw [HF.out]
      exact ⟨rfl, HK.out.trans ((Kp.refl _ _).drewN _)⟩

end Go.Proofs.YticbbncdcannlaaGreat
