/- makeOf in the document's words. -/
import Derived.Test.YticbbncdcannlaaGreatG32
import Derived.Test.YticbbncdcannlaaGreatG34
import Derived.Test.YticbbncdcannlaaGreatG35

namespace Go.Proofs.YticbbncdcannlaaGreat
open Go.RowKit

theorem xc_writeB2 {T : Tags} {o : Nat} {w : World} {p : Nat} {σ : Sp} {L : XL} {X : XS} (hok : σ.ok) (hX : XAt T o w p L X) (hT : Tie X (Maps.size L.D) σ) {h : Int} {a : Arr} {x : XA} (hf : σ.find h = some a) (hx : ATie σ a x) (hk : a.kind = 1) (V : List Int) (hl : V.length = a.cells.length) (hV : ∀ j, IntKind.i64.wrap (nth V j) = nth V j)
    (W : World) (vp vv : Value) (k : Kp0 w W) (hp : Fr w.heap.size W vp a.cells) (hv : RdI W vv V) (hne : vv.ownBlock ≠ some L.g1) :
    Calls Tryz.prog 198 #[.pointer (some ⟨L.q1, 0, none⟩), vp, vv] W fun e w' => ∃ u, e = .returned u ∧ Step XRep T o w p (σ.writes 1 a.cells (fun i => asK 1 (nth V i)) a.cells.length) w' := by
  have ha := kind_of hok hf
  have hlt : L.g1 < w.heap.size := lt_of_heap hX.s1.cells
  have hP : ∀ j, j < a.cells.length → 0 ≤ nth a.cells j ∧ nth a.cells j < σ.cap 1 ∧ σ.taken 1 (nth a.cells j) = true := fun j hj => by
    have h1 := ha.inside j hj
    have h2 := hx.taken hf j hj
    rw [hk] at h1 h2
    exact ⟨h1.1, h1.2, h2⟩
  have h36 : a.cells.length ≤ 1000000 := by have := ha.length; have := ha.shape.2.2; omega
  refine (xWriteB_calls (hX.kp0 k).s1 a.cells V vp vv hp.1 (fun _ e => by have := hp.2 _ e; omega) hv (fun _ e => hne e) hl (fun j _ => hV j) (fun j hj => by rw [hT.k1.len]; exact ⟨(hP j hj).1, (hP j hj).2.1⟩) h36).mono ?_
  rintro e w' ⟨rfl, hk', hb⟩
  have hX' := (hX.kp0 k).putB hk' hb (wrTo_length _ _ _ _)
  have hw1 : (fun j => IntKind.wrap .u8 (nth V j)) = fun j => asK 1 (nth V j) := by funext j; rw [wrap_u8]; simp [asK]
  rw [hw1] at hX'
  have hn := (hT.writesFB hok a.cells hP (fun j => asK 1 (nth V j)) (fun j _ => by simp only [asK, if_true]; omega) a.cells.length (Nat.le_refl _)).1
  exact ⟨_, rfl, T, fun _ _ => rfl, ⟨writes_ok hok _ _ _ _, L, _, hX', hn⟩, (Kp.of0 k).trans hk' (fun b _ e => by rw [e, hX.tg1])⟩

theorem xc_writeI2 {T : Tags} {o : Nat} {w : World} {p : Nat} {σ : Sp} {L : XL} {X : XS} (hok : σ.ok) (hX : XAt T o w p L X) (hT : Tie X (Maps.size L.D) σ) {h : Int} {a : Arr} {x : XA} (hf : σ.find h = some a) (hx : ATie σ a x) (hk : a.kind = 2) (V : List Int) (hl : V.length = a.cells.length) (hV : ∀ j, IntKind.i64.wrap (nth V j) = nth V j)
    (W : World) (vp vv : Value) (k : Kp0 w W) (hp : Fr w.heap.size W vp a.cells) (hv : RdI W vv V) (hne : vv.ownBlock ≠ some L.g2) :
    Calls Tryz.prog 218 #[.pointer (some ⟨L.q2, 0, none⟩), vp, vv] W fun e w' => ∃ u, e = .returned u ∧ Step XRep T o w p (σ.writes 2 a.cells (fun i => asK 2 (nth V i)) a.cells.length) w' := by
  have ha := kind_of hok hf
  have hlt : L.g2 < w.heap.size := lt_of_heap hX.s2.cells
  have hP : ∀ j, j < a.cells.length → 0 ≤ nth a.cells j ∧ nth a.cells j < σ.cap 2 ∧ σ.taken 2 (nth a.cells j) = true := fun j hj => by
    have h1 := ha.inside j hj
    have h2 := hx.taken hf j hj
    rw [hk] at h1 h2
    exact ⟨h1.1, h1.2, h2⟩
  have h36 : a.cells.length ≤ 1000000 := by have := ha.length; have := ha.shape.2.2; omega
  refine (xWriteI_calls (hX.kp0 k).s2 a.cells V vp vv hp.1 (fun _ e => by have := hp.2 _ e; omega) hv (fun _ e => hne e) hl (fun j _ => hV j) (fun j hj => by rw [hT.k2.len]; exact ⟨(hP j hj).1, (hP j hj).2.1⟩) h36).mono ?_
  rintro e w' ⟨rfl, hk', hb⟩
  have hX' := (hX.kp0 k).putI hk' hb (wrTo_length _ _ _ _)
  have hw1 : (fun j => IntKind.wrap .i64 (nth V j)) = fun j => asK 2 (nth V j) := by funext j; rw [hV]; simp [asK]
  rw [hw1] at hX'
  have hn := (hT.writesFI hok a.cells hP (fun j => asK 2 (nth V j)) (fun j _ => by simp only [asK]; exact hV j) a.cells.length (Nat.le_refl _)).1
  exact ⟨_, rfl, T, fun _ _ => rfl, ⟨writes_ok hok _ _ _ _, L, _, hX', hn⟩, (Kp.of0 k).trans hk' (fun b _ e => by rw [e, hX.tg2])⟩

theorem xc_makeOfB {T : Tags} {o : Nat} {w : World} {p : Nat} {σ : Sp} {L : XL} {X : XS} (s : List Int) (hok : σ.ok) (hX : XAt T o w p L X) (hT : Tie X (Maps.size L.D) σ) (hs : shapeB s = true) (hm : σ.arrs.length + 1 ≤ 100000000) (hb : σ.bufs.length + 1 ≤ 100000000)
    (V : List Int) (hVl : V.length = (vol s).toNat) (hV : ∀ j, IntKind.i64.wrap (nth V j) = nth V j) (vv : Value) (hv : RdI w vv V) (hvo : ∀ b, vv.ownBlock = some b → (T b).1 ≠ o ∧ b < w.heap.size) :
    Calls Tryz.prog 59 #[.pointer (some ⟨p, 0, none⟩), .int .i64 1, .iface 126 (.pointer (some ⟨L.q1, 0, none⟩)), .agg (shC s).toArray, vv] w fun e w' => ∃ a b, e = .returned (.tuple #[.int .i64 a, .int .i64 b]) ∧ ((a = (σ.fresh 1 s fun i => asK 1 (nth V i)).2.1 ∧ b = (σ.fresh 1 s fun i => asK 1 (nth V i)).2.2) ∧ Step XRep T o w p (σ.fresh 1 s fun i => asK 1 (nth V i)).1 w') := by
  have hW := xc_whole 1 s hok hX hT (by omega) hs hm hb
  have hsh := (shapeB_iff s).1 hs
  rw [inVB] at hW
  have toStep : ∀ {σ' w'}, StepQ T o w p L σ' w' → Step XRep T o w p σ' w' := fun ⟨T', L', X', h1, h2, h3, h4, h5, _⟩ => ⟨T', h1, ⟨h2, L', X', h3, h4⟩, h5⟩
  by_cases hl : 40 ≤ σ.live
  · have h1 : σ.make 1 s = (σ, 0, 7) := make_many (by omega) hs hl
    have h2 : (σ.fresh 1 s fun i => asK 1 (nth V i)) = (σ, 0, 7) := by unfold Sp.fresh; rw [if_pos hl]
    rw [h1] at hW
    rw [h2]
    refine (xmakeOf_no p 1 _ s vv w 7 (by omega) (hid (fun W k => (hW W k).mono (fun e w' ⟨h1, h2⟩ => ⟨_, h1, h2⟩)))).mono ?_
    rintro e w' ⟨rfl, hq⟩
    exact ⟨_, _, rfl, ⟨rfl, rfl⟩, toStep hq⟩
  · by_cases hp : σ.place 1 (vol s).toNat < 0
    · have h1 : σ.make 1 s = (σ, 0, 8) := by unfold Sp.make; rw [if_neg (by omega), if_neg (by simp [hs]), if_neg hl, if_pos hp]
      have h2 : (σ.fresh 1 s fun i => asK 1 (nth V i)) = (σ, 0, 8) := by unfold Sp.fresh; rw [if_neg hl, if_pos hp]
      rw [h1] at hW
      rw [h2]
      refine (xmakeOf_no p 1 _ s vv w 8 (by omega) (hid (fun W k => (hW W k).mono (fun e w' ⟨h1, h2⟩ => ⟨_, h1, h2⟩)))).mono ?_
      rintro e w' ⟨rfl, hq⟩
      exact ⟨_, _, rfl, ⟨rfl, rfl⟩, toStep hq⟩
    · obtain ⟨a, ha⟩ : ∃ a, σ.place 1 (vol s).toNat = a := ⟨_, rfl⟩
      rw [ha] at hp
      have h1 : σ.make 1 s = (σ.made 1 a s (vol s).toNat fun _ => 0, (σ.arrs.length : Int) + 1, 0) := by unfold Sp.make; rw [if_neg (by omega), if_neg (by simp [hs]), if_neg hl, ha, if_neg hp]
      have h2 : (σ.fresh 1 s fun i => asK 1 (nth V i)) = (σ.made 1 a s (vol s).toNat fun i => asK 1 (nth V i), (σ.arrs.length : Int) + 1, 0) := by unfold Sp.fresh; rw [if_neg hl, ha, if_neg hp]
      rw [h1] at hW
      rw [h2]
      have hfd : (σ.made 1 a s (vol s).toNat fun _ => 0).find ((σ.arrs.length : Int) + 1) = some ⟨1, s, rng a (vol s).toNat, false, σ.bufs.length⟩ := by
        unfold Sp.find
        rw [if_pos (by omega)]
        have : (σ.made 1 a s (vol s).toNat fun _ => 0).arrs = σ.arrs ++ [some ⟨1, s, rng a (vol s).toNat, false, σ.bufs.length⟩] := by
          show ((σ.more ⟨1, a, (vol s).toNat⟩).puts 1 a (fun _ => 0) (vol s).toNat).arrs ++ _ = _
          rw [(puts_arrs _ _ _ _ _).1]; rfl
        rw [this, show ix ((σ.arrs.length : Int) + 1) = σ.arrs.length by unfold ix; omega]
        simp [List.getD]
      refine (xmakeOfOkB p L.q1 1 ((σ.arrs.length : Int) + 1) s vv w (vol s).toNat (rng a (vol s).toNat) (R := StepQ T o w p L (σ.made 1 a s (vol s).toNat fun _ => 0)) (Q := Step XRep T o w p (σ.made 1 a s (vol s).toNat fun i => asK 1 (nth V i))) (hid hW) (hid ?_) (hid ?_)).mono ?_
      · rintro w' ⟨T', L', X', t1, t2, t3, t4, t5, t6, t7⟩
        obtain ⟨x, hA, hx⟩ := t4.som _ _ hfd
        refine ⟨x, L'.bm, _, _, _, t3.blk, look_run1 t3.map.drew t3.ent _ x hA, fun W => ?_⟩
        have := xc_cells hx W
        simp only [rng_length] at this
        exact this
      · rintro w' W vp ⟨T', L', X', t1, t2, t3, t4, t5, t6, t7⟩ k hp'
        obtain ⟨x, hA, hx⟩ := t4.som _ _ hfd
        have hrd : RdI w' vv V := hv.kp t5 (fun b e => (hvo b e).1)
        have hne : vv.ownBlock ≠ some L'.g1 := fun e => by
          have h3 := hvo _ e
          have h4 := t3.tg1
          rw [t1 _ h3.2] at h4
          exact h3.1 (by rw [h4])
        have hc := xc_writeB2 t2 t3 t4 hfd hx rfl V (by rw [hVl]; exact (rng_length _ _).symm) hV W vp vv k hp' (hrd.kp0 k) hne
        rw [t6] at hc
        refine hc.mono ?_
        rintro e w2 ⟨u, rfl, T2, u1, u2, u3⟩
        refine ⟨u, rfl, T2, fun b hb2 => (u1 b (Nat.lt_of_lt_of_le hb2 t5.size)).trans (t1 b hb2), ?_, t5.trans u3 (fun b hb2 e => by rw [t1 b hb2] at e; exact e)⟩
        have e2 := made_writes σ 1 a s (vol s).toNat (fun i => asK 1 (nth V i)) (by omega)
        rw [← e2]
        simpa [rng_length] using u2
      · rintro e w' ⟨rfl, hq⟩
        exact ⟨_, _, rfl, ⟨rfl, rfl⟩, hq⟩

theorem xc_makeOfI {T : Tags} {o : Nat} {w : World} {p : Nat} {σ : Sp} {L : XL} {X : XS} (s : List Int) (hok : σ.ok) (hX : XAt T o w p L X) (hT : Tie X (Maps.size L.D) σ) (hs : shapeB s = true) (hm : σ.arrs.length + 1 ≤ 100000000) (hb : σ.bufs.length + 1 ≤ 100000000)
    (V : List Int) (hVl : V.length = (vol s).toNat) (hV : ∀ j, IntKind.i64.wrap (nth V j) = nth V j) (vv : Value) (hv : RdI w vv V) (hvo : ∀ b, vv.ownBlock = some b → (T b).1 ≠ o ∧ b < w.heap.size) :
    Calls Tryz.prog 59 #[.pointer (some ⟨p, 0, none⟩), .int .i64 2, .iface 127 (.pointer (some ⟨L.q2, 0, none⟩)), .agg (shC s).toArray, vv] w fun e w' => ∃ a b, e = .returned (.tuple #[.int .i64 a, .int .i64 b]) ∧ ((a = (σ.fresh 2 s fun i => asK 2 (nth V i)).2.1 ∧ b = (σ.fresh 2 s fun i => asK 2 (nth V i)).2.2) ∧ Step XRep T o w p (σ.fresh 2 s fun i => asK 2 (nth V i)).1 w') := by
  have hW := xc_whole 2 s hok hX hT (by omega) hs hm hb
  have hsh := (shapeB_iff s).1 hs
  rw [inVI] at hW
  have toStep : ∀ {σ' w'}, StepQ T o w p L σ' w' → Step XRep T o w p σ' w' := fun ⟨T', L', X', h1, h2, h3, h4, h5, _⟩ => ⟨T', h1, ⟨h2, L', X', h3, h4⟩, h5⟩
  by_cases hl : 40 ≤ σ.live
  · have h1 : σ.make 2 s = (σ, 0, 7) := make_many (by omega) hs hl
    have h2 : (σ.fresh 2 s fun i => asK 2 (nth V i)) = (σ, 0, 7) := by unfold Sp.fresh; rw [if_pos hl]
    rw [h1] at hW
    rw [h2]
    refine (xmakeOf_no p 2 _ s vv w 7 (by omega) (hid (fun W k => (hW W k).mono (fun e w' ⟨h1, h2⟩ => ⟨_, h1, h2⟩)))).mono ?_
    rintro e w' ⟨rfl, hq⟩
    exact ⟨_, _, rfl, ⟨rfl, rfl⟩, toStep hq⟩
  · by_cases hp : σ.place 2 (vol s).toNat < 0
    · have h1 : σ.make 2 s = (σ, 0, 8) := by unfold Sp.make; rw [if_neg (by omega), if_neg (by simp [hs]), if_neg hl, if_pos hp]
      have h2 : (σ.fresh 2 s fun i => asK 2 (nth V i)) = (σ, 0, 8) := by unfold Sp.fresh; rw [if_neg hl, if_pos hp]
      rw [h1] at hW
      rw [h2]
      refine (xmakeOf_no p 2 _ s vv w 8 (by omega) (hid (fun W k => (hW W k).mono (fun e w' ⟨h1, h2⟩ => ⟨_, h1, h2⟩)))).mono ?_
      rintro e w' ⟨rfl, hq⟩
      exact ⟨_, _, rfl, ⟨rfl, rfl⟩, toStep hq⟩
    · obtain ⟨a, ha⟩ : ∃ a, σ.place 2 (vol s).toNat = a := ⟨_, rfl⟩
      rw [ha] at hp
      have h1 : σ.make 2 s = (σ.made 2 a s (vol s).toNat fun _ => 0, (σ.arrs.length : Int) + 1, 0) := by unfold Sp.make; rw [if_neg (by omega), if_neg (by simp [hs]), if_neg hl, ha, if_neg hp]
      have h2 : (σ.fresh 2 s fun i => asK 2 (nth V i)) = (σ.made 2 a s (vol s).toNat fun i => asK 2 (nth V i), (σ.arrs.length : Int) + 1, 0) := by unfold Sp.fresh; rw [if_neg hl, ha, if_neg hp]
      rw [h1] at hW
      rw [h2]
      have hfd : (σ.made 2 a s (vol s).toNat fun _ => 0).find ((σ.arrs.length : Int) + 1) = some ⟨2, s, rng a (vol s).toNat, false, σ.bufs.length⟩ := by
        unfold Sp.find
        rw [if_pos (by omega)]
        have : (σ.made 2 a s (vol s).toNat fun _ => 0).arrs = σ.arrs ++ [some ⟨2, s, rng a (vol s).toNat, false, σ.bufs.length⟩] := by
          show ((σ.more ⟨2, a, (vol s).toNat⟩).puts 2 a (fun _ => 0) (vol s).toNat).arrs ++ _ = _
          rw [(puts_arrs _ _ _ _ _).1]; rfl
        rw [this, show ix ((σ.arrs.length : Int) + 1) = σ.arrs.length by unfold ix; omega]
        simp [List.getD]
      refine (xmakeOfOkI p L.q2 2 ((σ.arrs.length : Int) + 1) s vv w (vol s).toNat (rng a (vol s).toNat) (R := StepQ T o w p L (σ.made 2 a s (vol s).toNat fun _ => 0)) (Q := Step XRep T o w p (σ.made 2 a s (vol s).toNat fun i => asK 2 (nth V i))) (hid hW) (hid ?_) (hid ?_)).mono ?_
      · rintro w' ⟨T', L', X', t1, t2, t3, t4, t5, t6, t7⟩
        obtain ⟨x, hA, hx⟩ := t4.som _ _ hfd
        refine ⟨x, L'.bm, _, _, _, t3.blk, look_run1 t3.map.drew t3.ent _ x hA, fun W => ?_⟩
        have := xc_cells hx W
        simp only [rng_length] at this
        exact this
      · rintro w' W vp ⟨T', L', X', t1, t2, t3, t4, t5, t6, t7⟩ k hp'
        obtain ⟨x, hA, hx⟩ := t4.som _ _ hfd
        have hrd : RdI w' vv V := hv.kp t5 (fun b e => (hvo b e).1)
        have hne : vv.ownBlock ≠ some L'.g2 := fun e => by
          have h3 := hvo _ e
          have h4 := t3.tg2
          rw [t1 _ h3.2] at h4
          exact h3.1 (by rw [h4])
        have hc := xc_writeI2 t2 t3 t4 hfd hx rfl V (by rw [hVl]; exact (rng_length _ _).symm) hV W vp vv k hp' (hrd.kp0 k) hne
        rw [t7] at hc
        refine hc.mono ?_
        rintro e w2 ⟨u, rfl, T2, u1, u2, u3⟩
        refine ⟨u, rfl, T2, fun b hb2 => (u1 b (Nat.lt_of_lt_of_le hb2 t5.size)).trans (t1 b hb2), ?_, t5.trans u3 (fun b hb2 e => by rw [t1 b hb2] at e; exact e)⟩
        have e2 := made_writes σ 2 a s (vol s).toNat (fun i => asK 2 (nth V i)) (by omega)
        rw [← e2]
        simpa [rng_length] using u2
      · rintro e w' ⟨rfl, hq⟩
        exact ⟨_, _, rfl, ⟨rfl, rfl⟩, hq⟩

end Go.Proofs.YticbbncdcannlaaGreat
