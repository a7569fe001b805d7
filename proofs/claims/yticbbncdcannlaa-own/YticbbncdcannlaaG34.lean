/- The law Own, walked. -/
import Derived.Test.YticbbncdcannlaaG33
import Derived.Deep.QuietTactic
import Derived.BigQuiet

namespace Go.Proofs.Yticbbncdcannlaa
open Go.RowKit

/-- The law's state at the head of its loop. -/
structure OwnS (w W : World) (p m : Nat) (vh vz : Value) (u : Int) (k : Nat) : Prop where
  ex : ∃ T σ hs sz, Sim w W T p σ ∧ Ls w W T 1 vh hs ∧ Ls w W T 2 vz sz ∧ OwnI σ m hs sz ∧ u = cntTo (σ.taken 1) m ∧ σ.arrs.length ≤ k ∧ σ.bufs.length ≤ k

theorem tdiv_wf {x d : Int} (h : IntKind.i64.wrap x = x) (hd : 2 ≤ d) : IntKind.i64.wrap (x.tdiv d) = x.tdiv d := by
  have hb := wf_bd h
  have h1 : (x.tdiv d).natAbs ≤ x.natAbs / 2 := by rw [Int.natAbs_tdiv]; exact Nat.div_le_div_left (by omega) (by omega)
  exact bd_wf (by omega)

/-- A block more that is the caller's. -/
theorem Sim.alloc0 {w W : World} {T : Tags} {p : Nat} {σ : Sp} (h : Sim w W T p σ) (O : Obj) (k : Nat) : ∃ T', TagsTo W T T' ∧ T' W.heap.size = (0, k) ∧ Sim w (W.alloc O) T' p σ :=
  ⟨retag W T (0, k), retag_to W T (0, k), retag_new (Nat.le_refl _), ⟨(h.rep.tags (retag_to W T (0, k))).kp ((Kp.refl (fun _ => False) W).alloc O) (fun _ _ e => e), fun b hb => by rw [retag_to W T (0, k) b (Nat.lt_of_lt_of_le hb h.kp.size)]; exact h.old b hb, h.kp.alloc O⟩⟩

theorem own_shape (a b : Int) (ha : 1 ≤ a ∧ a ≤ 12) (hb : 1 ≤ b ∧ b ≤ 6) : okShape [a, b] ∧ vol [a, b] = a * b ∧ 1 ≤ a * b ∧ a * b ≤ 72 := by
  have hm := mul_bd ha.1 ha.2 hb.1 hb.2
  have hv : vol [a, b] = a * b := by simp [vol]
  refine ⟨⟨by simp, fun j hj => ?_, by omega⟩, hv, hm.1, hm.2⟩
  have : j = 0 ∨ j = 1 := by simp at hj; omega
  rcases this with rfl | rfl
  · simp [nth]; omega
  · simp [nth]; omega

theorem own_many {σ : Sp} {m : Nat} {hs sz : List Int} (h : OwnI σ m hs sz) {s : List Int} (hs' : okShape s) (hm : 40 ≤ hs.length) : σ.make 1 s = (σ, 0, 7) := by
  unfold Sp.make
  rw [if_neg (by omega), if_neg (by rw [(shapeB_iff s).2 hs']; simp), if_pos (by rw [h.live]; exact hm)]
theorem own_full {σ : Sp} {m : Nat} {hs sz : List Int} (h : OwnI σ m hs sz) {s : List Int} (hs' : okShape s) (hm : ¬ 40 ≤ hs.length) (hp : σ.place 1 (vol s).toNat < 0) : σ.make 1 s = (σ, 0, 8) := by
  unfold Sp.make
  rw [if_neg (by omega), if_neg (by rw [(shapeB_iff s).2 hs']; simp), if_neg (by rw [h.live]; exact hm), if_pos hp]
theorem own_ok {σ : Sp} {m : Nat} {hs sz : List Int} (h : OwnI σ m hs sz) {s : List Int} (hs' : okShape s) (hm : ¬ 40 ≤ hs.length) (hp : ¬ σ.place 1 (vol s).toNat < 0) : σ.make 1 s = (σ.made 1 (σ.place 1 (vol s).toNat) s (vol s).toNat fun _ => 0, (σ.arrs.length : Int) + 1, 0) := by
  unfold Sp.make
  rw [if_neg (by omega), if_neg (by rw [(shapeB_iff s).2 hs']; simp), if_neg (by rw [h.live]; exact hm), if_neg hp]

/-- An array made and filled with its handle. -/
theorem own_make {σ : Sp} {m : Nat} {hs sz : List Int} (h : OwnI σ m hs sz) (hok : σ.ok) {s : List Int} (hs' : okShape s) (hm : ¬ 40 ≤ hs.length) (hp : ¬ σ.place 1 (vol s).toNat < 0) (σ1 : Sp) (h1 : σ1 = (σ.make 1 s).1) :
    (σ1.fill ((σ.arrs.length : Int) + 1) ((σ.arrs.length : Int) + 1)).2 = 0 ∧ OwnI (σ1.fill ((σ.arrs.length : Int) + 1) ((σ.arrs.length : Int) + 1)).1 m (hs ++ [(σ.arrs.length : Int) + 1]) (sz ++ [vol s]) ∧
      (cntTo ((σ1.fill ((σ.arrs.length : Int) + 1) ((σ.arrs.length : Int) + 1)).1.taken 1) m : Int) = cntTo (σ.taken 1) m + vol s ∧ (σ1.fill ((σ.arrs.length : Int) + 1) ((σ.arrs.length : Int) + 1)).1.arrs.length = σ.arrs.length + 1 ∧ (σ1.fill ((σ.arrs.length : Int) + 1) ((σ.arrs.length : Int) + 1)).1.bufs.length = σ.bufs.length + 1 := by
  rw [own_ok h hs' hm hp] at h1
  have hv := vol_pos_of hs'.2.1
  obtain ⟨z, hz⟩ : ∃ z : Nat, (vol s).toNat = z := ⟨_, rfl⟩
  have hz2 : vol s = (z : Int) := by omega
  rw [hz] at h1 hp
  have hbd := place_bd σ 1 z (by omega)
  have hcap : (σ.cap 1 : Int) = σ.n1 := by simp [Sp.cap]
  have hfr : freeAt (σ.taken 1) z (σ.place 1 z) := placeIn_free (σ.taken 1) z (by omega) _ 0 (by unfold Sp.place at hp; omega)
  have hmd := made_made hok 1 (σ.place 1 z) s z (by omega) (by omega)
  have hmk := h.make hok s (σ.place 1 z) z (by omega) (by omega) (by omega) (by omega) hfr
  obtain ⟨w1, w2, -⟩ := writes_same (σ.made 1 (σ.place 1 z) s z fun _ => 0) 1 (rng (σ.place 1 z) z) (fun _ => ((σ.arrs.length : Int) + 1) % 256) z
  have hfill : σ1.fill ((σ.arrs.length : Int) + 1) ((σ.arrs.length : Int) + 1) = ((σ.made 1 (σ.place 1 z) s z fun _ => 0).writes 1 (rng (σ.place 1 z) z) (fun _ => ((σ.arrs.length : Int) + 1) % 256) z, 0) := by
    unfold Sp.fill
    rw [h1]
    simp only [hmd.find, if_true, rng_length]
    simp [asK]
  rw [hfill, hz2]
  refine ⟨rfl, hmk.1, ?_, ?_, ?_⟩
  · have := hmk.2
    rw [h.n1] at this
    show (cntTo ((Sp.writes _ _ _ _ _).taken 1) m : Int) = _
    rw [this]
    omega
  · show (Sp.writes _ _ _ _ _).arrs.length = _
    rw [w1, hmd.arrs]; simp
  · show (Sp.writes _ _ _ _ _).bufs.length = _
    rw [w2, hmd.bufs]; simp

/-- Where such a list lies. -/
theorem Ls.parts {w W : World} {T : Tags} {k : Nat} {ao : Option Addr} {n c : Nat} {xs : List Int} (h : Ls w W T k (.slice ao n c) xs) (hn : 0 < n) : ∃ g, ao = some ⟨g, 0, none⟩ ∧ T g = (0, k) ∧ w.heap.size ≤ g ∧ g < W.heap.size ∧ (∀ j, j < n → W.cell? ⟨g, j, none⟩ = some (.int .i64 (nth xs j))) ∧ ∀ j, W.frozen? ⟨g, j, none⟩ = false := by
  obtain ⟨h1, h2⟩ := h.own.form
  rcases h.own.2 with ⟨e, h0⟩ | ⟨g, cap, cur, e, hb, hg, hnc, hc, hs, ht⟩
  · simp at e; omega
  · simp at e
    obtain ⟨rfl, e1, rfl⟩ := e
    have ht' := h.tag g rfl
    refine ⟨g, rfl, ht'.1, ht'.2, lt_of_heap hg, fun j hj => ?_, fun j => frozen_of_row W g j _ _ hg⟩
    obtain ⟨a, cc, e, hr⟩ := h.own.rd
    obtain ⟨g', o', e2, hc'⟩ := hr (by intro e; rw [e] at h1; simp at h1; omega)
    simp at e
    rw [← e.1] at e2
    simp at e2
    have := hc' j (by omega)
    rw [← e2.1, ← e2.2] at this
    simpa using this

/-- Two numbers put into two such lists, and both cut. -/
theorem own_drop {w W : World} {T : Tags} {p : Nat} {σ : Sp} {g1 g2 n c1 c2 j l : Nat} {hs sz : List Int} (hS : Sim w W T p σ) (h1 : Ls w W T 1 (.slice (some ⟨g1, 0, none⟩) n c1) hs) (h2 : Ls w W T 2 (.slice (some ⟨g2, 0, none⟩) n c2) sz) (hj : j < n) (hl : n = l + 1) :
    Sim w ((W.setCell ⟨g1, j, none⟩ (.int .i64 (nth hs l))).setCell ⟨g2, j, none⟩ (.int .i64 (nth sz l))) T p σ ∧ Ls w ((W.setCell ⟨g1, j, none⟩ (.int .i64 (nth hs l))).setCell ⟨g2, j, none⟩ (.int .i64 (nth sz l))) T 1 (.slice (some ⟨g1, 0, none⟩) l c1) (dropL hs j) ∧ Ls w ((W.setCell ⟨g1, j, none⟩ (.int .i64 (nth hs l))).setCell ⟨g2, j, none⟩ (.int .i64 (nth sz l))) T 2 (.slice (some ⟨g2, 0, none⟩) l c2) (dropL sz j) := by
  have t1 := (h1.tag g1 rfl).1
  have t2 := (h2.tag g2 rfl).1
  have hne : g1 ≠ g2 := fun e => by rw [e, t2] at t1; cases t1
  obtain ⟨e1, -⟩ := h1.own.form
  obtain ⟨e2, -⟩ := h2.own.form
  have k1 : Kp (fun b => b = g1 ∨ b = g2) W ((W.setCell ⟨g1, j, none⟩ (.int .i64 (nth hs l))).setCell ⟨g2, j, none⟩ (.int .i64 (nth sz l))) := ((Kp.refl _ W).setCell ⟨g1, j, none⟩ _ (fun _ => .inl rfl)).setCell ⟨g2, j, none⟩ _ (fun _ => .inr rfl)
  refine ⟨hS.goes (fun _ _ => rfl) (hS.rep.kp k1 (fun b e z => ?_)) k1 (fun b e e' => ?_), ⟨?_, h1.tag⟩, ⟨?_, h2.tag⟩⟩
  · rcases z with rfl | rfl
    · rw [t1] at e; cases e
    · rw [t2] at e; cases e
  · rcases e with rfl | rfl
    · rw [t1] at e'; cases e'
    · rw [t2] at e'; cases e'
  · have := ((h1.own.set j hj (nth hs l)).setCell (a := ⟨g2, j, none⟩) (.int .i64 (nth sz l)) (by simp [Value.ownBlock]; exact hne)).cut (m := l) (by omega)
    unfold dropL
    rw [show hs.length - 1 = l by omega]
    exact this
  · have := ((h2.own.setCell (a := ⟨g1, j, none⟩) (.int .i64 (nth hs l)) (by simp [Value.ownBlock]; exact fun e => hne e.symm)).set j hj (nth sz l)).cut (m := l) (by omega)
    unfold dropL
    rw [show sz.length - 1 = l by omega]
    exact this

/-- An array freed. -/
theorem own_free {σ : Sp} {m : Nat} {hs sz : List Int} (h : OwnI σ m hs sz) (hok : σ.ok) (hap : BApart σ) (j : Nat) (hj : j < hs.length) :
    σ.free (nth hs j) = (σ.without (nth hs j), 0) ∧ OwnI (σ.without (nth hs j)) m (dropL hs j) (dropL sz j) ∧ (cntTo ((σ.without (nth hs j)).taken 1) m : Int) = cntTo (σ.taken 1) m - nth sz j ∧ 0 ≤ nth sz j ∧ nth sz j ≤ 3600 ∧ (σ.without (nth hs j)).arrs.length = σ.arrs.length := by
  obtain ⟨a, b, q1, q2, q3, q4, q5, q6, q7, q8⟩ := h.arr j hj
  have hc := cnt_gone hok hap q1 q3 q4 h.own
  rw [h.n1] at hc
  obtain ⟨-, -, -, b3, -⟩ := hok.buf _ b q3
  refine ⟨?_, h.free j hj, by rw [hc, ← q7]; omega, by omega, by omega, by simp [Sp.without]⟩
  unfold Sp.free
  rw [q1]
  rfl

theorem own_vals {σ : Sp} {m : Nat} {hs sz : List Int} (h : OwnI σ m hs sz) (hok : σ.ok) (j : Nat) (hj : j < hs.length) : σ.values (nth hs j) = (List.replicate (nth sz j).toNat (nth hs j % 256), 0) ∧ 0 ≤ nth sz j ∧ nth sz j ≤ 3600 := by
  obtain ⟨a, b, q1, q2, q3, q4, q5, q6, q7, q8⟩ := h.arr j hj
  refine ⟨?_, by omega, by have := (hok.buf _ b q3).2.2.2.1; omega⟩
  unfold Sp.values
  rw [q1]
  show (σ.valuesOf a, (0 : Int)) = _
  have : σ.valuesOf a = List.replicate (nth sz j).toNat (nth hs j % 256) := by
    unfold Sp.valuesOf
    rw [q2, q5, ← q7]
    refine List.ext_getElem (by simp [rng]) (fun i i1 i2 => ?_)
    simp only [List.length_map, rng_length] at i1
    simp only [List.getElem_map, List.getElem_replicate]
    have e : (rng b.at' b.size.toNat)[i]'(by rw [rng_length]; exact i1) = b.at' + (i : Int) := by simp [rng]
    rw [e]
    rcases Int.lt_or_le (b.at' + (i : Int)) 0 with hlt | hge
    · have := (hok.buf _ b q3).2.1
      omega
    · exact q8 (b.at' + (i : Int)).toNat (by omega) (by omega)
  rw [this]

set_option maxRecDepth 100000 in
set_option maxHeartbeats 8000000 in
theorem own_calls (bytes : Int) (a : Option Addr) (n c : Nat) (S : List Int) (w : World) (hby : IntKind.i64.wrap bytes = bytes) (hn : S.length = n) (hb : n ≤ 9223372036854775807)
    (hS : 0 < n → ∃ g o, a = some ⟨g, o, none⟩ ∧ ∀ j, j < n → w.cell? ⟨g, o + j, none⟩ = some (.int .i64 (nth S j))) (hw : ∀ j, j < n → IntKind.i64.wrap (nth S j) = nth S j) :
    Calls Try.prog 3 #[.int .i64 bytes, .slice a n c] w fun e w' => e = .returned (.bool true) ∧ Kp0 w w' := by
  have HSU := hid (sure_calls w)
  have HPK := hid (fun W => pick_calls bytes 400 W hby (by omega))
  obtain ⟨k0, k1⟩ := pickN_bd bytes 400 (by omega)
  obtain ⟨m, hm⟩ : ∃ m : Nat, pickN bytes 400 = (m : Int) := ⟨(pickN bytes 400).toNat, by omega⟩
  rw [hm] at HPK k0 k1
  have HM : Hid (m < 400) := hid (by omega)
  have HSS := hid hS
  have HW := hid hw
  clear hm k0 k1 hby hS hw
  go_enter Try.func3, Try.ntmps3
  go_wp2_with fail
  refine HSU.out.mono ?_
  rintro e w0 ⟨rfl, hk⟩
  have HK0 := hid hk
  clear hk HSU
  go_wp2_with fail
  refine (HPK.out _).mono ?_
  rintro e w1 ⟨rfl, hw⟩
  obtain rfl := hw.symm
  clear hw HPK
  go_wp2_with fail
  refine (sim_new m 0 w0 (by have := HM.out; omega) (by omega)).mono ?_
  rintro e w1 ⟨p, T1, rfl, hS⟩
  have HO : Hid (OwnS w0 w1 p m (.slice none 0 0) (.slice none 0 0) 0 0) := ⟨T1, Sp.new m 0, [], [], hS, Ls.nil _ _ _ _, Ls.nil _ _ _ _, OwnI.new m, by
    have : ∀ c, (Sp.new m 0).taken 1 c = false := fun c => by rw [← Bool.not_eq_true, taken_iff]; rintro ⟨i, b, h, -⟩; simp [Sp.new] at h
    have h0 : ∀ j, cntTo ((Sp.new m 0).taken 1) j = 0 := fun j => by
      induction j with
      | zero => rfl
      | succ j ih => simp [cntTo, ih, this]
    rw [h0]; rfl, by simp [Sp.new], by simp [Sp.new]⟩
  clear hS
  go_wp2
  go_loopw [9, 10, 11, 12] (fun vh vz u i w' => ∃ (k : Nat) (z : Int), k ≤ n ∧ k ≤ 5000 ∧ i = .int .i64 k ∧ u = .int .i64 z ∧ (∃ a1 n1 c1 a2 n2 c2, vh = .slice a1 n1 c1 ∧ vz = .slice a2 n2 c2) ∧ Hid (OwnS w0 w' p m vh vz z k)) (fun _ _ _ i _ => n - (intOf i).toNat)
  case atStart => exact ⟨0, 0, Nat.zero_le _, by omega, rfl, rfl, ⟨none, 0, 0, none, 0, 0, rfl, rfl⟩, HO⟩
  case round =>
    clear HO
    obtain ⟨k, z, hk, hk5, rfl, rfl, ⟨a1, n1, c1, a2, n2, c2, rfl, rfl⟩, HO⟩ := hrel
    by_cases hlt : k < n ∧ k < 5000
    · obtain ⟨h1, h2⟩ := hlt
      obtain ⟨g, o, rfl, hc⟩ := HSS.out (by omega)
      obtain ⟨T, σ, hs, sz, hS, hL1, hL2, hI, hu, har, hbf⟩ := HO.out.ex
      have x00 := HK0.out.cell (hc k h1)
      have xw := HW.out k h1
      clear hc HO
      obtain ⟨e1, -⟩ := hL1.own.form
      obtain ⟨e2, -⟩ := hL2.own.form
      have HS := hid hS
      have HL1 := hid hL1
      have HL2 := hid hL2
      have HI := hid hI
      obtain ⟨top, htop⟩ : ∃ top, top = topTo (σ.taken 1) m := ⟨_, rfl⟩
      have HTOP := hid htop
      have HU := hid hu
      have t1 : z ≤ (top : Int) := by rw [hu, htop]; have := cnt_top (σ.taken 1) m; omega
      have t2 : (top : Int) ≤ (m : Int) := by rw [htop]; have := topTo_le (σ.taken 1) m; omega
      have d1 : decide ((top : Int) < z) = false := by simp; omega
      have d2 : ¬ m < top := by omega
      have d2k : (k : Int) < 5000 := by omega
      have HST : Hid (σ.store 1 = ((m : Int), z, (top : Int), 0)) := hid (by
        unfold Sp.store
        rw [if_neg (by omega)]
        have : σ.cap 1 = m := by rw [← hI.n1]; simp [Sp.cap]
        rw [this, hu, htop])
      have HAR := hid har
      have HBF := hid hbf
      have HE1 := hid e1
      have HE2 := hid (e2.trans (hI.len.trans e1.symm))
      obtain rfl := HE2.out
      have hn40 : n2 ≤ 40 := by rw [e1]; exact hI.few
      clear hS hL1 hL2 hI htop hu har hbf e1 e2 HE2
      generalize nth S k = x at *
      have HX0 := hid x00
      have HXW := hid xw
      have HZ0 : Hid (0 ≤ z) := hid (by rw [HU.out]; omega)
      have HPC := hid (fun W => pick_calls x 3 W xw (by omega))
      obtain ⟨pk, hpk⟩ : ∃ pk, pk = pickN x 3 := ⟨_, rfl⟩
      rw [← hpk] at HPC
      clear hpk
      go_wp2_with fail
      refine (xc_store 1 HS.out.rep).mono ?_
      rintro e w2 ⟨rfl, hs2⟩
      rw [HST.out]
      obtain ⟨T2, hS2, ht2, hk2⟩ := HS.out.step hs2
      have x2 := hS2.kp.cell HX0.out
      have g2 : g < w2.heap.size := block_lt_of_cell x2
      have hL12 := HL1.out.step ht2 hk2
      have hL22 := HL2.out.step ht2 hk2
      obtain ⟨T3, ht3, htb, hS3⟩ := hS2.alloc0 (.cells #[.int .i64 (m : Int), .int .i64 z, .int .i64 (top : Int)] 30) 3
      have k3 : Kp0 w2 (w2.alloc (.cells #[.int .i64 (m : Int), .int .i64 z, .int .i64 (top : Int)] 30)) := (Kp.refl _ w2).alloc _
      have HL13 := hid (hL12.kp ht3 k3 (fun _ e => e.elim))
      have HL23 := hid (hL22.kp ht3 k3 (fun _ e => e.elim))
      have HS3 := hid hS3
      have HTB := hid htb
      have hbb := heap_alloc_new w2 (.cells #[.int .i64 (m : Int), .int .i64 z, .int .i64 (top : Int)] 30)
      have HB3 : Hid ((w2.alloc (.cells #[.int .i64 (m : Int), .int .i64 z, .int .i64 (top : Int)] 30)).cell? ⟨w2.heap.size, 0, none⟩ = some (.int .i64 (m : Int)) ∧ (w2.alloc (.cells #[.int .i64 (m : Int), .int .i64 z, .int .i64 (top : Int)] 30)).cell? ⟨w2.heap.size, 1, none⟩ = some (.int .i64 z) ∧ (w2.alloc (.cells #[.int .i64 (m : Int), .int .i64 z, .int .i64 (top : Int)] 30)).cell? ⟨w2.heap.size, 2, none⟩ = some (.int .i64 (top : Int))) := ⟨cell_of_row _ _ 0 _ _ _ hbb, cell_of_row _ _ 1 _ _ _ hbb, cell_of_row _ _ 2 _ _ _ hbb⟩
      clear hs2 hS2 ht2 hk2 hL12 hL22 ht3 htb hS3 k3 HS HL1 HL2 HST hbb
      have x0 := HS3.out.kp.cell HX0.out
      have q3 : IntKind.i64.wrap (x.tdiv 3) = x.tdiv 3 := tdiv_wf xw (by omega)
      have q36 : IntKind.i64.wrap (x.tdiv 36) = x.tdiv 36 := tdiv_wf xw (by omega)
      have HW3 : ∃ W3, w2.alloc (.cells #[.int .i64 (m : Int), .int .i64 z, .int .i64 (top : Int)] 30) = W3 := ⟨_, rfl⟩
      have HB2 : Hid (∃ b2, w2.heap.size = b2) := ⟨_, rfl⟩
      rcases Nat.eq_zero_or_pos n2 with hz | hz
      · have d3 : decide ((n2 : Int) > 0) = false := by simp; omega
        have HZ := hid hz
        have d3n : ¬ 0 < n2 := by omega
        clear hz
        go_wp2_with fail
        obtain ⟨W3, hW3⟩ := HW3
        rw [hW3] at HB3 HL13 HL23 HS3 x0 ⊢
        clear hW3 x2 g2
        obtain ⟨b2, hb2⟩ := HB2.out
        rw [hb2] at HB3 HTB ⊢
        clear hb2 HB2
        refine (pick_calls (x.tdiv 3) 12 _ (tdiv_wf HXW.out (by omega)) (by omega)).mono ?_
        rintro e w5 ⟨rfl, hw⟩
        obtain rfl := hw.symm
        clear hw
        obtain ⟨pa, hpa⟩ : ∃ pa, pa = pickN (x.tdiv 3) 12 := ⟨_, rfl⟩
        have HPA := hid (pickN_bd (x.tdiv 3) 12 (by omega))
        rw [← hpa] at HPA ⊢
        have e3 : IntKind.i64.wrap (1 + pa) = 1 + pa := bd_wf (by have := HPA.out; omega)
        clear hpa
        go_wp2_with fail
        refine (pick_calls (x.tdiv 36) 6 _ (tdiv_wf HXW.out (by omega)) (by omega)).mono ?_
        rintro e w5 ⟨rfl, hw⟩
        obtain rfl := hw.symm
        clear hw
        obtain ⟨pb, hpb⟩ : ∃ pb, pb = pickN (x.tdiv 36) 6 := ⟨_, rfl⟩
        have HPB := hid (pickN_bd (x.tdiv 36) 6 (by omega))
        rw [← hpb] at HPB ⊢
        have e4 : IntKind.i64.wrap (1 + pb) = 1 + pb := bd_wf (by have := HPB.out; omega)
        clear hpb
        have HSH := hid (own_shape (1 + pa) (1 + pb) (by have := HPA.out; omega) (by have := HPB.out; omega))
        have e5 : IntKind.i64.wrap ((1 + pa) * (1 + pb)) = (1 + pa) * (1 + pb) := bd_wf (by have := HSH.out; omega)
        have e6 : IntKind.i64.wrap ((top : Int) + (1 + pa) * (1 + pb)) = (top : Int) + (1 + pa) * (1 + pb) := bd_wf (by have := HSH.out; have := HM.out; omega)
        have e7 : IntKind.i64.wrap (z + (1 + pa) * (1 + pb)) = z + (1 + pa) * (1 + pb) := bd_wf (by have := HSH.out; have := HM.out; have := HZ0.out; omega)
        have HRD : Hid (RdI (W3.alloc (.cells #[.int .i64 (1 + pa), .int .i64 (1 + pb)] 3)) (.slice (some ⟨W3.heap.size, 0, none⟩) 2 2) [1 + pa, 1 + pb]) := rd_built W3 [1 + pa, 1 + pb] _ rfl
        generalize 1 + pa = A at *
        obtain ⟨B, hB⟩ : ∃ B, 1 + pb = B := ⟨_, rfl⟩
        rw [hB] at HSH e5 e6 e7 HRD
        have e8 : IntKind.i64.wrap (1 + pb) = B := e4.trans hB
        clear hB
        have HVOL : Hid (A * B = vol [A, B]) := hid HSH.out.2.1.symm
        have HPOS : Hid (1 ≤ A * B) := hid HSH.out.2.2.1
        obtain ⟨ab, hab⟩ : ∃ ab, A * B = ab := ⟨_, rfl⟩
        rw [hab] at HVOL HPOS e6 e7
        have e9 : IntKind.i64.wrap (A * B) = ab := e5.trans hab
        clear hab e5
        clear e3 e4 HPA HPB
        go_wp2_with fail
        have HS4 := hid (HS3.out.kp0 ((Kp.refl _ W3).alloc (.cells #[.int .i64 A, .int .i64 B] 3)))
        refine (xc_make 1 _ [A, B] HS4.out.rep HRD.out (by have := HAR.out; omega) (by have := HBF.out; omega)).mono ?_
        rintro e w5 ⟨rfl, hs5⟩
        obtain ⟨T5, hS5, ht5, hk5'⟩ := HS4.out.step hs5
        have htt : TagsTo W3 T3 T5 := fun b hb => ht5 b (by simp; omega)
        have HKK : Hid (Kp (fun b => (T3 b).1 = 1) W3 w5) := hid (Kp.trans (Kp.of0 ((Kp.refl _ W3).alloc _)) hk5' (fun _ _ e => e))
        have HS5 := hid hS5
        have HL15 := hid (HL13.out.step htt HKK.out)
        have HL25 := hid (HL23.out.step htt HKK.out)
        have y2 := HKK.out.cell (HB3.out.2.2) (by rw [HTB.out]; simp)
        clear hs5 hS5 ht5 hk5' htt HRD
        
        have hmany : ¬ 40 ≤ n2 := by have := HZ.out; omega
        have d4 : decide ((n2 : Int) ≥ 40) = false := by simp; omega
        by_cases hfull : σ.place 1 (vol [A, B]).toNat < 0
        · have HMK := hid (own_full HI.out HSH.out.1 (by rw [← HE1.out]; exact hmany) hfull)
          rw [HMK.out] at HS5 ⊢
          have d5 : decide ((top : Int) + ab ≤ (m : Int)) = false := by
            simp
            have h3 := HVOL.out
            have h4 := HPOS.out
            rcases Int.lt_or_le (m : Int) ((top : Int) + ab) with h | h
            · exact h
            · exfalso
              have := top_place (σ.taken 1) (vol [A, B]).toNat m (by omega) (by rw [← HTOP.out]; omega)
              have hcap : σ.cap 1 = m := by rw [← HI.out.n1]; simp [Sp.cap]
              unfold Sp.place at hfull
              rw [hcap] at hfull
              omega
          have d5n : ¬ ((top : Int) + ab ≤ (m : Int)) := of_decide_eq_false d5
          clear hfull
          go_wp2
          go_roundw
          case rel => exact ⟨k + 1, z, by omega, by omega, by go_num, rfl, ⟨_, _, _, _, _, _, rfl, rfl⟩, hid ⟨T5, σ, hs, sz, HS5.out, HL15.out, HL25.out, HI.out, HU.out, by have := HAR.out; omega, by have := HBF.out; omega⟩⟩
          case measure => simp [intOf]; omega
        · have HOM := hid (own_make HI.out HS3.out.rep.1 HSH.out.1 (by rw [← HE1.out]; exact hmany) hfull _ rfl)
          have HMK := hid (congrArg Prod.snd (own_ok HI.out HSH.out.1 (by rw [← HE1.out]; exact hmany) hfull))
          rw [HMK.out]
          clear hfull HMK y2
          generalize hσ1 : (σ.make 1 [A, B]).1 = σ1 at *
          clear hσ1
          obtain ⟨hd, hhd⟩ : ∃ hd, hd = (σ.arrs.length : Int) + 1 := ⟨_, rfl⟩
          rw [← hhd] at HOM ⊢
          have HHB : Hid (1 ≤ hd ∧ hd ≤ 5001) := hid (by have := HAR.out; omega)
          clear hhd
          go_wp2_with fail
          refine (xc_fill hd hd HS5.out.rep (bd_wf (by have := HHB.out; omega))).mono ?_
          rintro e w6 ⟨rfl, hs6⟩
          rw [HOM.out.1]
          obtain ⟨T6, hS6, ht6, hk6⟩ := HS5.out.step hs6
          have HS6 := hid hS6
          have HL16 := hid (HL15.out.step ht6 hk6)
          have HL26 := hid (HL25.out.step ht6 hk6)
          have HOM2 := hid HOM.out.2
          generalize (σ1.fill hd hd).1 = σ6 at *
          clear hs6 hS6 ht6 hk6 HS5 HL15 HL25 HOM
          have HBN : Hid (n2 + [hd].length ≤ 1000000000000) := hid (by simp; omega)
          go_wp2_with (at_builtin; refine wpList_app (by rfl) _ _ (by rfl) a1 n2 c1 hs [hd] _ (by rfl) (by rfl) (HL16.out.own.alloc _) (RdI.one _ _) HBN.out (w6.heap.size + 1) (by simp) ?_)
          intro a1' c1' w7 ho7 hg7 hb7
          obtain ⟨T7, ht7, hS7, hL17, hk7⟩ := HS6.out.app (by omega) HL16.out hg7 ho7 hb7 rfl
          have HS7 := hid hS7
          have HL17 := hid hL17
          have HL27 := hid (HL26.out.kp ht7 hk7 (fun b e e' => by rw [e] at e'; cases e'))
          clear ho7 hg7 hb7 ht7 hS7 hL17 hk7 HS6 HL16 HL26 HBN
          have HBN2 : Hid (n2 + [ab].length ≤ 1000000000000) := hid (by simp; omega)
          go_wp2_with (at_builtin; refine wpList_app (by rfl) _ _ (by rfl) a2 n2 c2 sz [ab] _ (by rfl) (by rfl) (HL27.out.own.alloc _) (RdI.one _ _) HBN2.out (w7.heap.size + 1) (by simp) ?_)
          intro a2' c2' w8 ho8 hg8 hb8
          obtain ⟨T8, ht8, hS8, hL28, hk8⟩ := HS7.out.app (by omega) HL27.out hg8 ho8 hb8 rfl
          have HS8 := hid hS8
          have HL28 := hid hL28
          have HL18 := hid (HL17.out.kp ht8 hk8 (fun b e e' => by rw [e] at e'; cases e'))
          clear ho8 hg8 hb8 ht8 hS8 hL28 hk8 HS7 HL17 HL27 HBN2
          go_wp2
          go_roundw
          case rel => exact ⟨k + 1, z + ab, by omega, by omega, by go_num, rfl, ⟨_, _, _, _, _, _, rfl, rfl⟩, hid ⟨T8, σ6, hs ++ [hd], sz ++ [ab], HS8.out, HL18.out, HL28.out, by rw [HVOL.out]; exact HOM2.out.1, by rw [HU.out, HVOL.out]; exact HOM2.out.2.1.symm, by have := HOM2.out.2.2.1; have := HAR.out; omega, by have := HOM2.out.2.2.2; have := HBF.out; omega⟩⟩
          case measure => simp [intOf]; omega
      · have d3 : decide ((n2 : Int) > 0) = true := by simp; omega
        by_cases hpk0 : pk = 0
        · subst hpk0
          go_wp2_with fail
          obtain ⟨W3, hW3⟩ := HW3
          rw [hW3] at HB3 HL13 HL23 HS3 x0 ⊢
          clear hW3 x2 g2
          obtain ⟨b2, hb2⟩ := HB2.out
          rw [hb2] at HB3 HTB ⊢
          clear hb2 HB2
          refine (HPC.out _).mono ?_
          rintro e w5 ⟨rfl, hw⟩
          obtain rfl := hw.symm
          clear hw
          obtain ⟨g1, rfl, t1', b1', l1', y1, -⟩ := HL13.out.parts hz
          obtain ⟨g2, rfl, t2', b2', l2', -, -⟩ := HL23.out.parts hz
          have HGN : Hid (g1 ≠ g2) := hid (fun e => by rw [e, t2'] at t1'; cases t1')
          obtain ⟨l, hl⟩ : ∃ l, n2 = l + 1 := ⟨n2 - 1, by omega⟩
          have el : IntKind.i64.wrap ((n2 : Int) - 1) = (l : Int) := by rw [hl]; exact (bd_wf (by omega)).trans (by omega)
          have HL := hid hl
          have HY1 := hid y1
          clear t1' b1' l1' t2' b2' l2' hl y1
          go_wp2_with fail
          refine (pick_calls (x.tdiv 3) (n2 : Int) _ q3 (by omega)).mono ?_
          rintro e w5 ⟨rfl, hw⟩
          obtain rfl := hw.symm
          clear hw
          obtain ⟨j, hj⟩ : ∃ j : Nat, pickN (x.tdiv 3) (n2 : Int) = (j : Int) := ⟨(pickN (x.tdiv 3) (n2 : Int)).toNat, by have := pickN_bd (x.tdiv 3) (n2 : Int) (by omega); omega⟩
          have hjn : j < n2 := by have := pickN_bd (x.tdiv 3) (n2 : Int) (by omega); omega
          rw [hj]
          clear hj
          have y1 := HY1.out j hjn
          have HF := hid (own_free HI.out HS3.out.rep.1 (by obtain ⟨_, _, _, _, hT⟩ := HS3.out.rep; exact hT.apart) j (by rw [← HE1.out]; exact hjn))
          have ez : IntKind.i64.wrap (z - nth sz j) = z - nth sz j := bd_wf (by have := HF.out.2.2.2; have := HM.out; have := HZ0.out; omega)
          have hln : l < n2 := by have := HL.out; omega
          clear HY1
          go_wp2_with fail
          refine (xc_free (nth hs j) HS3.out.rep).mono ?_
          rintro e w6 ⟨rfl, hs6⟩
          rw [HF.out.1] at hs6 ⊢
          obtain ⟨T6, hS6, ht6, hk6⟩ := HS3.out.step hs6
          have HS6 := hid hS6
          have HL16 := hid (HL13.out.step ht6 hk6)
          have HL26 := hid (HL23.out.step ht6 hk6)
          have HD := hid (own_drop HS6.out HL16.out HL26.out hjn HL.out)
          obtain ⟨g1', e1', -, -, l1', y1', f1'⟩ := HL16.out.parts hz
          obtain ⟨g2', e2', -, -, l2', y2', f2'⟩ := HL26.out.parts hz
          obtain rfl : g1 = g1' := by simpa using e1'
          obtain rfl : g2 = g2' := by simpa using e2'
          have r1 := y1' l hln
          have r2 := y2' l hln
          have r3 := y2' j hjn
          have r4 := y1' j hjn
          have f1 := f1' j
          have f2 := f2' j
          have hgn : ¬ g2 = g1 := fun e => HGN.out e.symm
          have hc1 : l ≤ c1 := by have := HL16.out.own.form; omega
          have hc2 : l ≤ c2 := by have := HL26.out.own.form; omega
          have hgn2 : ¬ g1 = g2 := HGN.out
          clear hs6 hS6 ht6 hk6 e1' e2' l1' l2' y1' y2' f1' f2' HS3 HL13 HL23 x0 y1
          generalize hvl : nth hs l = vl at *
          generalize hzl : nth sz l = zl at *
          go_wp2
          go_roundw
          case rel => exact ⟨k + 1, z - nth sz j, by omega, by omega, by go_num, rfl, ⟨_, _, _, _, _, _, rfl, rfl⟩, hid ⟨T6, σ.without (nth hs j), dropL hs j, dropL sz j, HD.out.1, HD.out.2.1, HD.out.2.2, HF.out.2.1, by rw [HF.out.2.2.1, HU.out], by have := HF.out.2.2.2.2.2; have := HAR.out; omega, by have := HBF.out; show σ.bufs.length ≤ _; omega⟩⟩
          case measure => simp [intOf]; omega
        · have d6 : (pk == 0) = false := by simp [hpk0]
          clear hpk0
          go_wp2_with fail
          obtain ⟨W3, hW3⟩ := HW3
          rw [hW3] at HB3 HL13 HL23 HS3 x0 ⊢
          clear hW3 x2 g2
          obtain ⟨b2, hb2⟩ := HB2.out
          rw [hb2] at HB3 HTB ⊢
          clear hb2 HB2
          refine (HPC.out _).mono ?_
          rintro e w5 ⟨rfl, hw⟩
          obtain rfl := hw.symm
          clear hw
          go_wp2_with fail
          refine (pick_calls (x.tdiv 3) 12 _ (tdiv_wf HXW.out (by omega)) (by omega)).mono ?_
          rintro e w5 ⟨rfl, hw⟩
          obtain rfl := hw.symm
          clear hw
          obtain ⟨pa, hpa⟩ : ∃ pa, pa = pickN (x.tdiv 3) 12 := ⟨_, rfl⟩
          have HPA := hid (pickN_bd (x.tdiv 3) 12 (by omega))
          rw [← hpa] at HPA ⊢
          have e3 : IntKind.i64.wrap (1 + pa) = 1 + pa := bd_wf (by have := HPA.out; omega)
          clear hpa
          go_wp2_with fail
          refine (pick_calls (x.tdiv 36) 6 _ (tdiv_wf HXW.out (by omega)) (by omega)).mono ?_
          rintro e w5 ⟨rfl, hw⟩
          obtain rfl := hw.symm
          clear hw
          obtain ⟨pb, hpb⟩ : ∃ pb, pb = pickN (x.tdiv 36) 6 := ⟨_, rfl⟩
          have HPB := hid (pickN_bd (x.tdiv 36) 6 (by omega))
          rw [← hpb] at HPB ⊢
          have e4 : IntKind.i64.wrap (1 + pb) = 1 + pb := bd_wf (by have := HPB.out; omega)
          clear hpb
          have HSH := hid (own_shape (1 + pa) (1 + pb) (by have := HPA.out; omega) (by have := HPB.out; omega))
          have e5 : IntKind.i64.wrap ((1 + pa) * (1 + pb)) = (1 + pa) * (1 + pb) := bd_wf (by have := HSH.out; omega)
          have e6 : IntKind.i64.wrap ((top : Int) + (1 + pa) * (1 + pb)) = (top : Int) + (1 + pa) * (1 + pb) := bd_wf (by have := HSH.out; have := HM.out; omega)
          have e7 : IntKind.i64.wrap (z + (1 + pa) * (1 + pb)) = z + (1 + pa) * (1 + pb) := bd_wf (by have := HSH.out; have := HM.out; have := HZ0.out; omega)
          have HRD : Hid (RdI (W3.alloc (.cells #[.int .i64 (1 + pa), .int .i64 (1 + pb)] 3)) (.slice (some ⟨W3.heap.size, 0, none⟩) 2 2) [1 + pa, 1 + pb]) := rd_built W3 [1 + pa, 1 + pb] _ rfl
          generalize 1 + pa = A at *
          obtain ⟨B, hB⟩ : ∃ B, 1 + pb = B := ⟨_, rfl⟩
          rw [hB] at HSH e5 e6 e7 HRD
          have e8 : IntKind.i64.wrap (1 + pb) = B := e4.trans hB
          clear hB
          have HVOL : Hid (A * B = vol [A, B]) := hid HSH.out.2.1.symm
          have HPOS : Hid (1 ≤ A * B) := hid HSH.out.2.2.1
          obtain ⟨ab, hab⟩ : ∃ ab, A * B = ab := ⟨_, rfl⟩
          rw [hab] at HVOL HPOS e6 e7
          have e9 : IntKind.i64.wrap (A * B) = ab := e5.trans hab
          clear hab e5
          clear e3 e4 HPA HPB
          go_wp2_with fail
          have HS4 := hid (HS3.out.kp0 ((Kp.refl _ W3).alloc (.cells #[.int .i64 A, .int .i64 B] 3)))
          refine (xc_make 1 _ [A, B] HS4.out.rep HRD.out (by have := HAR.out; omega) (by have := HBF.out; omega)).mono ?_
          rintro e w5 ⟨rfl, hs5⟩
          obtain ⟨T5, hS5, ht5, hk5'⟩ := HS4.out.step hs5
          have htt : TagsTo W3 T3 T5 := fun b hb => ht5 b (by simp; omega)
          have HKK : Hid (Kp (fun b => (T3 b).1 = 1) W3 w5) := hid (Kp.trans (Kp.of0 ((Kp.refl _ W3).alloc _)) hk5' (fun _ _ e => e))
          have HS5 := hid hS5
          have HL15 := hid (HL13.out.step htt HKK.out)
          have HL25 := hid (HL23.out.step htt HKK.out)
          have y2 := HKK.out.cell (HB3.out.2.2) (by rw [HTB.out]; simp)
          clear hs5 hS5 ht5 hk5' htt HRD
          
          by_cases hmany : 40 ≤ n2
          · have HMK := hid (own_many HI.out HSH.out.1 (by rw [← HE1.out]; exact hmany))
            rw [HMK.out] at HS5 ⊢
            have d4 : decide ((n2 : Int) ≥ 40) = true := by simp; omega
            go_wp2
            go_roundw
            case rel => exact ⟨k + 1, z, by omega, by omega, by go_num, rfl, ⟨_, _, _, _, _, _, rfl, rfl⟩, hid ⟨T5, σ, hs, sz, HS5.out, HL15.out, HL25.out, HI.out, HU.out, by have := HAR.out; omega, by have := HBF.out; omega⟩⟩
            case measure => simp [intOf]; omega
          have d4 : decide ((n2 : Int) ≥ 40) = false := by simp; omega
          by_cases hfull : σ.place 1 (vol [A, B]).toNat < 0
          · have HMK := hid (own_full HI.out HSH.out.1 (by rw [← HE1.out]; exact hmany) hfull)
            rw [HMK.out] at HS5 ⊢
            have d5 : decide ((top : Int) + ab ≤ (m : Int)) = false := by
              simp
              have h3 := HVOL.out
              have h4 := HPOS.out
              rcases Int.lt_or_le (m : Int) ((top : Int) + ab) with h | h
              · exact h
              · exfalso
                have := top_place (σ.taken 1) (vol [A, B]).toNat m (by omega) (by rw [← HTOP.out]; omega)
                have hcap : σ.cap 1 = m := by rw [← HI.out.n1]; simp [Sp.cap]
                unfold Sp.place at hfull
                rw [hcap] at hfull
                omega
            have d5n : ¬ ((top : Int) + ab ≤ (m : Int)) := of_decide_eq_false d5
            clear hfull
            go_wp2
            go_roundw
            case rel => exact ⟨k + 1, z, by omega, by omega, by go_num, rfl, ⟨_, _, _, _, _, _, rfl, rfl⟩, hid ⟨T5, σ, hs, sz, HS5.out, HL15.out, HL25.out, HI.out, HU.out, by have := HAR.out; omega, by have := HBF.out; omega⟩⟩
            case measure => simp [intOf]; omega
          · have HOM := hid (own_make HI.out HS3.out.rep.1 HSH.out.1 (by rw [← HE1.out]; exact hmany) hfull _ rfl)
            have HMK := hid (congrArg Prod.snd (own_ok HI.out HSH.out.1 (by rw [← HE1.out]; exact hmany) hfull))
            rw [HMK.out]
            clear hfull HMK y2
            generalize hσ1 : (σ.make 1 [A, B]).1 = σ1 at *
            clear hσ1
            obtain ⟨hd, hhd⟩ : ∃ hd, hd = (σ.arrs.length : Int) + 1 := ⟨_, rfl⟩
            rw [← hhd] at HOM ⊢
            have HHB : Hid (1 ≤ hd ∧ hd ≤ 5001) := hid (by have := HAR.out; omega)
            clear hhd
            go_wp2_with fail
            refine (xc_fill hd hd HS5.out.rep (bd_wf (by have := HHB.out; omega))).mono ?_
            rintro e w6 ⟨rfl, hs6⟩
            rw [HOM.out.1]
            obtain ⟨T6, hS6, ht6, hk6⟩ := HS5.out.step hs6
            have HS6 := hid hS6
            have HL16 := hid (HL15.out.step ht6 hk6)
            have HL26 := hid (HL25.out.step ht6 hk6)
            have HOM2 := hid HOM.out.2
            generalize (σ1.fill hd hd).1 = σ6 at *
            clear hs6 hS6 ht6 hk6 HS5 HL15 HL25 HOM
            have HBN : Hid (n2 + [hd].length ≤ 1000000000000) := hid (by simp; omega)
            go_wp2_with (at_builtin; refine wpList_app (by rfl) _ _ (by rfl) a1 n2 c1 hs [hd] _ (by rfl) (by rfl) (HL16.out.own.alloc _) (RdI.one _ _) HBN.out (w6.heap.size + 1) (by simp) ?_)
            intro a1' c1' w7 ho7 hg7 hb7
            obtain ⟨T7, ht7, hS7, hL17, hk7⟩ := HS6.out.app (by omega) HL16.out hg7 ho7 hb7 rfl
            have HS7 := hid hS7
            have HL17 := hid hL17
            have HL27 := hid (HL26.out.kp ht7 hk7 (fun b e e' => by rw [e] at e'; cases e'))
            clear ho7 hg7 hb7 ht7 hS7 hL17 hk7 HS6 HL16 HL26 HBN
            have HBN2 : Hid (n2 + [ab].length ≤ 1000000000000) := hid (by simp; omega)
            go_wp2_with (at_builtin; refine wpList_app (by rfl) _ _ (by rfl) a2 n2 c2 sz [ab] _ (by rfl) (by rfl) (HL27.out.own.alloc _) (RdI.one _ _) HBN2.out (w7.heap.size + 1) (by simp) ?_)
            intro a2' c2' w8 ho8 hg8 hb8
            obtain ⟨T8, ht8, hS8, hL28, hk8⟩ := HS7.out.app (by omega) HL27.out hg8 ho8 hb8 rfl
            have HS8 := hid hS8
            have HL28 := hid hL28
            have HL18 := hid (HL17.out.kp ht8 hk8 (fun b e e' => by rw [e] at e'; cases e'))
            clear ho8 hg8 hb8 ht8 hS8 hL28 hk8 HS7 HL17 HL27 HBN2
            go_wp2
            go_roundw
            case rel => exact ⟨k + 1, z + ab, by omega, by omega, by go_num, rfl, ⟨_, _, _, _, _, _, rfl, rfl⟩, hid ⟨T8, σ6, hs ++ [hd], sz ++ [ab], HS8.out, HL18.out, HL28.out, by rw [HVOL.out]; exact HOM2.out.1, by rw [HU.out, HVOL.out]; exact HOM2.out.2.1.symm, by have := HOM2.out.2.2.1; have := HAR.out; omega, by have := HOM2.out.2.2.2; have := HBF.out; omega⟩⟩
            case measure => simp [intOf]; omega
    · obtain ⟨T, σ, hs, sz, hS, hL1, hL2, hI, hu, har, hbf⟩ := HO.out.ex
      obtain ⟨e1, -⟩ := hL1.own.form
      obtain ⟨e2, -⟩ := hL2.own.form
      have HE1 := hid e1
      have e3 : n2 = n1 := e2.trans (hI.len.trans e1.symm)
      subst e3
      have HS := hid hS
      have HL1 := hid hL1
      have HL2 := hid hL2
      have HI := hid hI
      have hn40 : n2 ≤ 40 := by rw [e1]; exact hI.few
      clear hS hL1 hL2 hI hu har hbf e1 e2 HO
      by_cases hkn : k < n
      · have d1 : ¬ ((k : Int) < 5000) := by omega
        clear hlt
        go_wp2
        go_loopw [22] (fun i w' => ∃ q : Nat, q ≤ n2 ∧ i = .int .i64 q ∧ Hid (∃ T, Sim w0 w' T p σ ∧ Ls w0 w' T 1 (.slice a1 n2 c1) hs ∧ Ls w0 w' T 2 (.slice a2 n2 c2) sz)) (fun i _ => n2 - (intOf i).toNat)
        case atStart => exact ⟨0, Nat.zero_le _, rfl, hid ⟨T, HS.out, HL1.out, HL2.out⟩⟩
        case round =>
          clear HS HL1 HL2
          obtain ⟨q, hq, rfl, HR⟩ := hrel
          by_cases hqn : q < n2
          · obtain ⟨T2, hS2, hL1, hL2⟩ := HR.out
            obtain ⟨g1, rfl, -, -, l1', y1', -⟩ := hL1.parts (by omega)
            obtain ⟨g2, rfl, -, -, l2', y2', -⟩ := hL2.parts (by omega)
            have y1 := y1' q hqn
            have HS2 := hid hS2
            have HL1 := hid hL1
            have HL2 := hid hL2
            have HV := hid (own_vals HI.out hS2.rep.1 q (by rw [← HE1.out]; exact hqn))
            clear hS2 hL1 hL2 y1' y2' l1' l2' HR
            go_wp2_with fail
            refine (xc_values (nth hs q) (0, 4) HS2.out.rep).mono ?_
            rintro e w3 ⟨v, rfl, hs3⟩
            rw [HV.out.1] at hs3 ⊢
            obtain ⟨T3, a3, c3, rfl, hS3, ht3, hk3, hL3, -⟩ := HS2.out.stepL hs3
            have HS3 := hid hS3
            have HL13 := hid (HL1.out.step ht3 hk3)
            have HL23 := hid (HL2.out.step ht3 hk3)
            have HL3 := hid hL3
            obtain ⟨g1', e1', -, -, l1', y1', -⟩ := HL13.out.parts (by omega)
            obtain ⟨g2', e2', -, -, l2', y2', -⟩ := HL23.out.parts (by omega)
            obtain rfl : g1 = g1' := by simpa using e1'
            obtain rfl : g2 = g2' := by simpa using e2'
            have y3 := y1' q hqn
            have y4 := y2' q hqn
            obtain ⟨r, hr⟩ : ∃ r : Nat, nth sz q = (r : Int) := ⟨(nth sz q).toNat, by have := HV.out.2.1; omega⟩
            have hr36 : r ≤ 3600 := by have := HV.out.2.2; omega
            rw [hr] at y4
            have hrr : (nth sz q).toNat = r := by omega
            rw [hrr] at HL3
            simp only [hrr]
            rw [List.length_replicate] at HL3 ⊢
            generalize nth hs q = h at *
            clear hs3 hS3 ht3 hk3 hL3 e1' e2' l1' l2' y1' y2' HV hr hrr y1 HS2 HL1 HL2
            go_wp2
            go_loopw [25] (fun i w' => ∃ s : Nat, s ≤ r ∧ i = .int .i64 s ∧ Hid (Kp0 w3 w')) (fun i _ => r - (intOf i).toNat)
            case atStart => exact ⟨0, Nat.zero_le _, rfl, hid (Kp0.refl _)⟩
            case round =>
              obtain ⟨s, hs', rfl, HK⟩ := hrel
              by_cases hsr : s < r
              · obtain ⟨g3, rfl, -, -, l3', y5', -⟩ := HL3.out.parts (by omega)
                have y5 := HK.out.cell (y5' s hsr)
                have y6 := HK.out.cell y3
                rw [show nth (List.replicate r (h % 256)) s = h % 256 by rw [nth_lt (by simp; exact hsr)]; simp] at y5
                have e8 : IntKind.i64.wrap (h % 256) = h % 256 := bd_wf (by omega)
                have HN : Hid (∀ k : Nat, Kp0 w3 (wr.drewN k)) := hid (fun k => HK.out.drewN k)
                clear l3' y5'
                go_wp2
                go_quiet (fail)
                go_wp2
                go_roundw
                case rel => exact ⟨s + 1, by omega, by go_num, HN.out _⟩
                case measure => simp [intOf]; omega
              · have HS4 := hid (HS3.out.kp0 HK.out)
                have HL14 := hid (HL13.out.kp0 HK.out)
                have HL24 := hid (HL23.out.kp0 HK.out)
                go_wp2
                go_roundw
                case rel => exact ⟨q + 1, by omega, by go_num, hid ⟨T3, HS4.out, HL14.out, HL24.out⟩⟩
                case measure => simp [intOf]; omega
          · have HK : Hid (Kp0 w wr) := hid (by obtain ⟨T2, hS2, -⟩ := HR.out; exact HK0.out.trans hS2.kp)
            go_wp2
            go_ret
            exact ⟨rfl, HK.out⟩
      · clear hlt
        go_wp2
        go_loopw [22] (fun i w' => ∃ q : Nat, q ≤ n2 ∧ i = .int .i64 q ∧ Hid (∃ T, Sim w0 w' T p σ ∧ Ls w0 w' T 1 (.slice a1 n2 c1) hs ∧ Ls w0 w' T 2 (.slice a2 n2 c2) sz)) (fun i _ => n2 - (intOf i).toNat)
        case atStart => exact ⟨0, Nat.zero_le _, rfl, hid ⟨T, HS.out, HL1.out, HL2.out⟩⟩
        case round =>
          clear HS HL1 HL2
          obtain ⟨q, hq, rfl, HR⟩ := hrel
          by_cases hqn : q < n2
          · obtain ⟨T2, hS2, hL1, hL2⟩ := HR.out
            obtain ⟨g1, rfl, -, -, l1', y1', -⟩ := hL1.parts (by omega)
            obtain ⟨g2, rfl, -, -, l2', y2', -⟩ := hL2.parts (by omega)
            have y1 := y1' q hqn
            have HS2 := hid hS2
            have HL1 := hid hL1
            have HL2 := hid hL2
            have HV := hid (own_vals HI.out hS2.rep.1 q (by rw [← HE1.out]; exact hqn))
            clear hS2 hL1 hL2 y1' y2' l1' l2' HR
            go_wp2_with fail
            refine (xc_values (nth hs q) (0, 4) HS2.out.rep).mono ?_
            rintro e w3 ⟨v, rfl, hs3⟩
            rw [HV.out.1] at hs3 ⊢
            obtain ⟨T3, a3, c3, rfl, hS3, ht3, hk3, hL3, -⟩ := HS2.out.stepL hs3
            have HS3 := hid hS3
            have HL13 := hid (HL1.out.step ht3 hk3)
            have HL23 := hid (HL2.out.step ht3 hk3)
            have HL3 := hid hL3
            obtain ⟨g1', e1', -, -, l1', y1', -⟩ := HL13.out.parts (by omega)
            obtain ⟨g2', e2', -, -, l2', y2', -⟩ := HL23.out.parts (by omega)
            obtain rfl : g1 = g1' := by simpa using e1'
            obtain rfl : g2 = g2' := by simpa using e2'
            have y3 := y1' q hqn
            have y4 := y2' q hqn
            obtain ⟨r, hr⟩ : ∃ r : Nat, nth sz q = (r : Int) := ⟨(nth sz q).toNat, by have := HV.out.2.1; omega⟩
            have hr36 : r ≤ 3600 := by have := HV.out.2.2; omega
            rw [hr] at y4
            have hrr : (nth sz q).toNat = r := by omega
            rw [hrr] at HL3
            simp only [hrr]
            rw [List.length_replicate] at HL3 ⊢
            generalize nth hs q = h at *
            clear hs3 hS3 ht3 hk3 hL3 e1' e2' l1' l2' y1' y2' HV hr hrr y1 HS2 HL1 HL2
            go_wp2
            go_loopw [25] (fun i w' => ∃ s : Nat, s ≤ r ∧ i = .int .i64 s ∧ Hid (Kp0 w3 w')) (fun i _ => r - (intOf i).toNat)
            case atStart => exact ⟨0, Nat.zero_le _, rfl, hid (Kp0.refl _)⟩
            case round =>
              obtain ⟨s, hs', rfl, HK⟩ := hrel
              by_cases hsr : s < r
              · obtain ⟨g3, rfl, -, -, l3', y5', -⟩ := HL3.out.parts (by omega)
                have y5 := HK.out.cell (y5' s hsr)
                have y6 := HK.out.cell y3
                rw [show nth (List.replicate r (h % 256)) s = h % 256 by rw [nth_lt (by simp; exact hsr)]; simp] at y5
                have e8 : IntKind.i64.wrap (h % 256) = h % 256 := bd_wf (by omega)
                have HN : Hid (∀ k : Nat, Kp0 w3 (wr.drewN k)) := hid (fun k => HK.out.drewN k)
                clear l3' y5'
                go_wp2
                go_quiet (fail)
                go_wp2
                go_roundw
                case rel => exact ⟨s + 1, by omega, by go_num, HN.out _⟩
                case measure => simp [intOf]; omega
              · have HS4 := hid (HS3.out.kp0 HK.out)
                have HL14 := hid (HL13.out.kp0 HK.out)
                have HL24 := hid (HL23.out.kp0 HK.out)
                go_wp2
                go_roundw
                case rel => exact ⟨q + 1, by omega, by go_num, hid ⟨T3, HS4.out, HL14.out, HL24.out⟩⟩
                case measure => simp [intOf]; omega
          · have HK : Hid (Kp0 w wr) := hid (by obtain ⟨T2, hS2, -⟩ := HR.out; exact HK0.out.trans hS2.kp)
            go_wp2
            go_ret
            exact ⟨rfl, HK.out⟩

end Go.Proofs.Yticbbncdcannlaa
