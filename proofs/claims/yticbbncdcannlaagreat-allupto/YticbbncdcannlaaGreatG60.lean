/- The program's calls in the document's words: Fold. -/
import Derived.Test.YticbbncdcannlaaGreatG54
import Derived.Test.YticbbncdcannlaaGreatG53
import Derived.Test.YticbbncdcannlaaGreatG31

namespace Go.Proofs.YticbbncdcannlaaGreat
open Go.RowKit

theorem puts_congr {σ : Sp} {kind a : Int} {f g : Nat → Int} (k : Nat) (h : ∀ j, j < k → f j = g j) : σ.puts kind a f k = σ.puts kind a g k := by
  induction k with
  | zero => rfl
  | succ k ih => rw [Sp.puts, Sp.puts, ih (fun j hj => h j (by omega)), h k (by omega)]

theorem fresh_congr {σ : Sp} {kind : Int} {s : List Int} {f g : Nat → Int} (h : ∀ j, j < (vol s).toNat → f j = g j) : σ.fresh kind s f = σ.fresh kind s g := by
  unfold Sp.fresh Sp.made
  rw [puts_congr _ h]

/-- A number of a kind. -/
def inK (kind v : Int) : Prop := IntKind.i64.wrap v = v ∧ (kind = 1 → 0 ≤ v ∧ v < 256)

theorem opK_in {op kind a b : Int} (hk : kind = 1 ∨ kind = 2) (ha : inK kind a) (hb : inK kind b) : inK kind (opK op kind a b) := by
  have key : ∀ v, inK kind (wrapK kind v) := fun v => by
    unfold inK wrapK
    rcases hk with rfl | rfl
    · rw [if_pos rfl]
      refine ⟨?_, fun _ => ?_⟩
      · simp [IntKind.wrap, IntKind.signed, IntKind.bits]; omega
      · omega
    · rw [if_neg (by omega)]
      exact ⟨wrapSI_range v, fun e => by omega⟩
  unfold opK
  repeat' split
  all_goals first | exact key _ | exact ha | exact hb

theorem foldV_in {op kind : Int} (hk : kind = 1 ∨ kind = 2) {f : Nat → Int} (h : ∀ j, inK kind (f j)) (n : Nat) : inK kind (foldV op kind f n) := by
  induction n with
  | zero => exact h 0
  | succ n ih => exact opK_in hk ih (h _)

theorem opWB_eq {op a b : Int} (ha : inK 1 a) (hb : inK 1 b) : opWB op (IntKind.wrap .u8 a) (IntKind.wrap .u8 b) = opK op 1 a b := by
  have h1 := ha.2 rfl
  have h2 := hb.2 rfl
  rw [wrap_u8, wrap_u8, show a % 256 = a by omega, show b % 256 = b by omega]
  unfold opWB opK wrapK
  simp only [if_true, wrap_u8]

theorem opWI_eq {op a b : Int} (ha : inK 2 a) (hb : inK 2 b) : opWI op (IntKind.wrap .i64 a) (IntKind.wrap .i64 b) = opK op 2 a b := by
  rw [ha.1, hb.1]
  rfl

/-- What lies along an axis behind an index of the others. -/
def Sp.along (σ : Sp) (a : Arr) (k r : Nat) (x : Nat) : Int := nth (σ.valuesOf a) (rank a.shape (foldL (idx (foldS a.shape k) r) k x)).toNat

theorem picked_layer (σ : Sp) (a : Arr) (k q : Nat) : picked (σ.valuesOf a) (lyRk a.shape k q) = mkL (vol (foldS a.shape k)).toNat fun r => σ.along a k r q := by
  refine ext_nth (by simp [picked, lyRk_length, mkL_length]) (fun j hj => ?_)
  have hj' : j < (vol (foldS a.shape k)).toNat := by simpa [picked, lyRk_length] using hj
  rw [picked_nth _ _ _ (by rw [lyRk_length]; exact hj'), lyRk_nth _ _ _ _ hj', mkL_nth, if_pos hj']
  rfl

theorem lyRk_bd {l : List Int} (hs : okShape l) {k : Nat} (hk : k < l.length) {x : Int} (hx : 0 ≤ x ∧ x < nth l k) (j : Nat) (hj : j < (lyRk l k x).length) : 0 ≤ nth (lyRk l k x) j ∧ nth (lyRk l k x) j < vol l := by
  rw [lyRk_length] at hj
  rw [lyRk_nth _ _ _ _ hj]
  have hin := foldL_in hk hx (idx_in (foldS l k) j (foldS_sized hs.2.1 hk))
  rw [rank_in hin]
  have := rank_bd l _ hs.2.1 (fun q hq => hin.2 q hq) l.length (Nat.le_refl _)
  rw [List.take_length] at this
  exact this

/-- Cells of a layer, read: its values. -/
theorem layer_read {σ : Sp} {a : Arr} {c : List Int} (hs : okShape a.shape) (hl : (a.cells.length : Int) = vol a.shape) (hc : (a.cells.map fun q => nth c q.toNat) = σ.valuesOf a) {k : Nat} (hk : k < a.shape.length) {x : Nat} (hx : (x : Int) < nth a.shape k) :
    ((picked a.cells (lyRk a.shape k x)).map fun p => nth c p.toNat) = mkL (vol (foldS a.shape k)).toNat fun r => σ.along a k r x := by
  rw [← picked_layer]
  refine ext_nth (by simp [picked]) (fun j hj => ?_)
  have hj' : j < (lyRk a.shape k x).length := by simpa [picked] using hj
  have hb := lyRk_bd hs hk (x := (x : Int)) ⟨by omega, hx⟩ j hj'
  rw [map_nth _ _ _ (by simpa [picked] using hj'), picked_nth _ _ _ hj', picked_nth _ _ _ hj', ← hc, map_nth _ _ _ (by omega)]

/-- Fold, in the document's words. -/
theorem xc_fold {T : Tags} {o : Nat} {w : World} {p : Nat} {σ : Sp} (op h axis : Int) (hR : XRep T o w p σ) (hm : σ.arrs.length + 1 ≤ 100000000) (hb : σ.bufs.length + 1 ≤ 100000000) :
    Calls Tryz.prog 30 #[.pointer (some ⟨p, 0, none⟩), .int .i64 op, .int .i64 h, .int .i64 axis] w fun e w' => e = .returned (.tuple #[.int .i64 (σ.fold op h axis).2.1, .int .i64 (σ.fold op h axis).2.2]) ∧ Step XRep T o w p (σ.fold op h axis).1 w' := by
  have hR' := hR
  obtain ⟨hok, L, X, hX, hT⟩ := hR
  by_cases hop : op < 1 ∨ 5 < op ∨ op = 2
  · have hres : σ.fold op h axis = (σ, 0, 1) := by simp [Sp.fold, hop]
    rw [hres]
    refine (xFold_op p op h axis w hop).mono ?_
    rintro e w' ⟨rfl, hk⟩
    exact ⟨rfl, hR'.stay hk⟩
  have h1 : 1 ≤ op := by omega
  have h5 : op ≤ 5 := by omega
  have h2 : op ≠ 2 := by omega
  cases hf : σ.find h with
  | none =>
    have hres : σ.fold op h axis = (σ, 0, 2) := by simp [Sp.fold, hop, hf]
    rw [hres]
    refine (xFold_none hX op h axis h1 h5 h2 (hT.non h hf)).mono ?_
    rintro e w' ⟨rfl, hk⟩
    exact ⟨rfl, hR'.stay hk⟩
  | some a =>
    obtain ⟨x, hA, hx⟩ := hT.som h a hf
    have ha := kind_of hok hf
    have hkd : x.kind = 1 ∨ x.kind = 2 := by rw [hx.kind]; exact ha.kind
    by_cases hax : axis < 0 ∨ (a.shape.length : Int) ≤ axis
    · have hres : σ.fold op h axis = (σ, 0, 5) := by simp [Sp.fold, hop, hf, hax]
      rw [hres]
      refine (xFold_axis hX op h axis h1 h5 h2 x hA hkd hx.g.shape.1 (by rw [hx.l]; exact hax)).mono ?_
      rintro e w' ⟨rfl, hk⟩
      exact ⟨rfl, hR'.stay hk⟩
    · obtain ⟨k, rfl⟩ : ∃ k : Nat, axis = (k : Int) := ⟨axis.toNat, by omega⟩
      have hk : k < a.shape.length := by omega
      have hkx : k < x.l.length := by rw [hx.l]; exact hk
      have hs : okShape a.shape := ha.shape
      have hs' := foldS_ok hs hk
      have hsb : shapeB (foldS a.shape k) = true := (shapeB_iff _).2 hs'
      have h6 := hs.2.1 k hk
      obtain ⟨N, hN⟩ : ∃ N : Nat, nth a.shape k = (N : Int) := ⟨(nth a.shape k).toNat, by omega⟩
      have hNx : nth x.l k = (N : Int) := by rw [hx.l]; exact hN
      have hNb : 1 ≤ N ∧ N ≤ 60 := by omega
      have hbd := hx.g.bds
      obtain ⟨m, hmm⟩ : ∃ m, (vol (foldS a.shape k)).toNat = m := ⟨_, rfl⟩
      have hm1 : 1 ≤ m ∧ m ≤ 3600 := by have := vol_pos_of hs'.2.1; have := hs'.2.2; omega
      obtain ⟨VQ, hVQ⟩ : ∃ VQ : Nat → List Int, VQ = fun q => mkL m fun r => σ.along a k r q := ⟨_, rfl⟩
      obtain ⟨FV, hFV⟩ : ∃ FV : Nat → List Int, FV = fun q => mkL m fun r => foldV op a.kind (σ.along a k r) q := ⟨_, rfl⟩
      obtain ⟨P, hP⟩ : ∃ P : Nat → List Int, P = fun q : Nat => picked a.cells (lyRk a.shape k q) := ⟨_, rfl⟩
      have hVl : ∀ q, (VQ q).length = m := fun q => by rw [hVQ]; exact mkL_length _ _
      have hFl : ∀ q, (FV q).length = m := fun q => by rw [hFV]; exact mkL_length _ _
      have hPl : ∀ q, (P q).length = m := fun q => by rw [hP]; simp [picked, lyRk_length, hmm]
      have hVn : ∀ q j, j < m → nth (VQ q) j = σ.along a k j q := fun q j hj => by rw [hVQ]; simp only; rw [mkL_nth, if_pos hj]
      have hFn : ∀ q j, j < m → nth (FV q) j = foldV op a.kind (σ.along a k j) q := fun q j hj => by rw [hFV]; simp only; rw [mkL_nth, if_pos hj]
      have z0 : inK a.kind 0 := ⟨by simp [IntKind.wrap, IntKind.signed, IntKind.bits], fun _ => by omega⟩
      have hal : ∀ r q, inK a.kind (σ.along a k r q) := fun r q => hT.valuesIn ha _
      have hin : ∀ q j, inK a.kind (nth (VQ q) j) := fun q j => by
        by_cases hj : j < m
        · rw [hVn q j hj]; exact hal j q
        · rw [nth_out (by rw [hVl]; omega)]; exact z0
      have hFin : ∀ q j, inK a.kind (nth (FV q) j) := fun q j => by
        by_cases hj : j < m
        · rw [hFn q j hj]; exact foldV_in ha.kind (fun x => hal j x) q
        · rw [nth_out (by rw [hFl]; omega)]; exact z0
      have hPin : ∀ i, i < N → ∀ j, j < (P i).length → 0 ≤ nth (P i) j ∧ nth (P i) j < σ.cap a.kind := fun i hi j hj => by
        rw [hP] at hj ⊢
        simp only at hj ⊢
        have hj' : j < (lyRk a.shape k i).length := by simpa [picked] using hj
        have hbq := lyRk_bd hs hk (x := (i : Int)) (by rw [hN]; omega) j hj'
        rw [picked_nth _ _ _ hj']
        exact ha.inside _ (by have := ha.length; omega)
      have hCells : ∀ W i, i < N → Calls Tryz.prog 60 #[.agg (grC (foldS x.l k) (foldS x.t k) (x.f + (i : Int) * nth x.t k)).toArray] W fun e w' => ∃ ao c, e = .returned (.slice ao m c) ∧ Kp0 W w' ∧ Fr W.heap.size w' (.slice ao m c) (P i) := fun W i hi => by
        have hq : 0 ≤ (i : Int) ∧ (i : Int) < nth x.l k := by rw [hNx]; omega
        refine (xcells_calls (foldS x.l k) (foldS x.t k) (x.f + (i : Int) * nth x.t k) _ W (layer_ok hx.g hkx hq)).mono ?_
        rintro e w' ⟨v, rfl, hn⟩
        rw [layer_cells hx.g hkx hq, hx.cells, hx.l, show picked a.cells (lyRk a.shape k i) = P i by rw [hP]] at hn
        obtain ⟨ao, c, rfl, k', hfr⟩ := hn.fr
        rw [hPl] at hfr ⊢
        exact ⟨ao, c, rfl, k', hfr⟩
      have hne : FV (N - 1) ≠ [] := fun e => by have := hFl (N - 1); rw [e] at this; simp at this; omega
      have hX1 := hX.tags (retag_to w T (o + 1, 0))
      have hS1 : ∀ b, (retag w T (o + 1, 0) b).1 = o → b < w.heap.size := fun b e => by
        rcases Nat.lt_or_ge b w.heap.size with h1 | h1
        · exact h1
        · rw [retag_new h1] at e; simp at e
      have hres : σ.fold op h k = σ.fresh a.kind (foldS a.shape k) (fun i => asK a.kind (nth (FV (N - 1)) i)) := by
        have e0 : σ.fold op h k = σ.fresh a.kind (foldS a.shape k) (fun r => asK a.kind (σ.folded op a k r)) := by
          unfold Sp.fold
          rw [if_neg hop, hf]
          simp only
          rw [if_neg hax, Int.toNat_natCast]
        rw [e0]
        refine fresh_congr (fun j hj => ?_)
        rw [hmm] at hj
        rw [hFn _ j hj]
        unfold Sp.folded
        rw [hN, Int.toNat_natCast]
        rfl
      have hF0 : FV 0 = VQ 0 := by rw [hFV, hVQ]; rfl
      rcases ha.kind with hk1 | hk2
      · have heq := read_eq hx hf ha (c := X.c1) (bs := X.b1) (by rw [hk1]; exact hT.k1)
        rw [hk1] at hres hin hFin
        rw [hres]
        refine (xFoldOkB hX op h k N x hA (by rw [hx.kind, hk1]) h1 h5 h2 hNb.1 (foldS x.l k) (foldS x.t k) (fun q => x.f + (q : Int) * nth x.t k) m (FV (N - 1)) (hid hS1) (R := fun r b w' => (r = (σ.fresh 1 (foldS a.shape k) fun i => asK 1 (nth (FV (N - 1)) i)).2.1 ∧ b = (σ.fresh 1 (foldS a.shape k) fun i => asK 1 (nth (FV (N - 1)) i)).2.2) ∧ Step XRep T o w p (σ.fresh 1 (foldS a.shape k) fun i => asK 1 (nth (FV (N - 1)) i)).1 w') (hid (fun W _ => xLayers_yes x.l x.t x.f k N W _ hx.g hkx hNx hbd.2 (hbd.1 k hkx))) (hid (fun W g cur kW hg ht => ?_)) (hid (fun W vv kW hfr => ?_))).mono ?_
        · refine xfoldLayersB op L.q1 g N hNb cur (foldS x.l k) (foldS x.t k) (fun q => x.f + (q : Int) * nth x.t k) W P VQ FV m (hid hg) (hid ht) (hid (fun W2 i hi => hCells W2 i hi)) (hid (fun W2 i vp hi k2 hrd => ?_)) (hid (fun W2 i v0 v1 hi k2 hv0 hv1 => ?_)) (hid hF0)
          · refine (xReadB_calls (hX.kp0 (Kp0.trans kW k2)).s1 (P i) vp hrd (fun j hj => ?_) (hT.k1.wrap (.inl rfl)) (by rw [hPl]; omega)).mono ?_
            · have := hPin i hi j hj
              rw [hk1] at this
              rw [hT.k1.len]
              exact this
            · rintro e w' ⟨v, rfl, hn⟩
              rw [show ((P i).map fun p => nth X.c1 p.toNat) = VQ i by rw [hP, hVQ, ← hmm]; exact layer_read hs ha.length heq hk (by rw [hN]; omega)] at hn
              obtain ⟨ao, c, rfl, k', hfr⟩ := hn.fr
              rw [hVl] at hfr ⊢
              exact ⟨ao, c, rfl, k', hfr⟩
          · refine (xCombineB_calls (hX.kp0 (Kp0.trans kW k2)).s1 op h1 h5 (FV i) (VQ (i + 1)) v0 v1 hv0.1 hv1.1 (by rw [hVl, hFl]) (by rw [hFl]; omega) (fun j _ => (hFin i j).1) (fun j _ => (hin (i + 1) j).1)).mono ?_
            rintro e w' ⟨v, rfl, hn⟩
            have e1 : (mkL (FV i).length fun j => opWB op (IntKind.wrap .u8 (nth (FV i) j)) (IntKind.wrap .u8 (nth (VQ (i + 1)) j))) = FV (i + 1) := by
              refine ext_nth (by rw [mkL_length, hFl, hFl]) (fun j hj => ?_)
              rw [mkL_length, hFl] at hj
              rw [mkL_nth, if_pos (by rw [hFl]; exact hj), opWB_eq (hFin i j) (hin (i + 1) j), hFn i j hj, hFn (i + 1) j hj, hVn (i + 1) j hj, hk1]
              rfl
            rw [e1] at hn
            obtain ⟨ao, c, rfl, k', hfr⟩ := hn.fr
            rw [hFl] at hfr ⊢
            exact ⟨ao, c, rfl, k', hfr⟩
        · have hvo : ∀ b, vv.ownBlock = some b → (retag w T (o + 1, 0) b).1 ≠ o ∧ b < W.heap.size := fun b e => ⟨by rw [retag_new (hfr.2 b e)]; simp, hfr.1.lt hne e⟩
          rw [hx.l]
          refine (xc_makeOfB (foldS a.shape k) hok (hX1.kp0 kW) hT hsb hm hb (FV (N - 1)) ((hFl _).trans hmm.symm) (fun j => (hFin _ j).1) vv hfr.1 hvo).mono ?_
          rintro e w' ⟨r, b, rfl, hrb, hst⟩
          exact ⟨r, b, rfl, ⟨hrb, hst.untag kW⟩, hst.choose_spec.2.2⟩
        · rintro e w' ⟨r, b, rfl, ⟨rfl, rfl⟩, hst⟩
          exact ⟨rfl, hst⟩
      · have heq := read_eq hx hf ha (c := X.c2) (bs := X.b2) (by rw [hk2]; exact hT.k2)
        rw [hk2] at hres hin hFin
        rw [hres]
        refine (xFoldOkI hX op h k N x hA (by rw [hx.kind, hk2]) h1 h5 h2 hNb.1 (foldS x.l k) (foldS x.t k) (fun q => x.f + (q : Int) * nth x.t k) m (FV (N - 1)) (hid hS1) (R := fun r b w' => (r = (σ.fresh 2 (foldS a.shape k) fun i => asK 2 (nth (FV (N - 1)) i)).2.1 ∧ b = (σ.fresh 2 (foldS a.shape k) fun i => asK 2 (nth (FV (N - 1)) i)).2.2) ∧ Step XRep T o w p (σ.fresh 2 (foldS a.shape k) fun i => asK 2 (nth (FV (N - 1)) i)).1 w') (hid (fun W _ => xLayers_yes x.l x.t x.f k N W _ hx.g hkx hNx hbd.2 (hbd.1 k hkx))) (hid (fun W g cur kW hg ht => ?_)) (hid (fun W vv kW hfr => ?_))).mono ?_
        · refine xfoldLayersI op L.q2 g N hNb cur (foldS x.l k) (foldS x.t k) (fun q => x.f + (q : Int) * nth x.t k) W P VQ FV m (hid hg) (hid ht) (hid (fun W2 i hi => hCells W2 i hi)) (hid (fun W2 i vp hi k2 hrd => ?_)) (hid (fun W2 i v0 v1 hi k2 hv0 hv1 => ?_)) (hid hF0)
          · refine (xReadI_calls (hX.kp0 (Kp0.trans kW k2)).s2 (P i) vp hrd (fun j hj => ?_) (hT.k2.wrap (.inr rfl)) (by rw [hPl]; omega)).mono ?_
            · have := hPin i hi j hj
              rw [hk2] at this
              rw [hT.k2.len]
              exact this
            · rintro e w' ⟨v, rfl, hn⟩
              rw [show ((P i).map fun p => nth X.c2 p.toNat) = VQ i by rw [hP, hVQ, ← hmm]; exact layer_read hs ha.length heq hk (by rw [hN]; omega)] at hn
              obtain ⟨ao, c, rfl, k', hfr⟩ := hn.fr
              rw [hVl] at hfr ⊢
              exact ⟨ao, c, rfl, k', hfr⟩
          · refine (xCombineI_calls (hX.kp0 (Kp0.trans kW k2)).s2 op h1 h5 (FV i) (VQ (i + 1)) v0 v1 hv0.1 hv1.1 (by rw [hVl, hFl]) (by rw [hFl]; omega) (fun j _ => (hFin i j).1) (fun j _ => (hin (i + 1) j).1)).mono ?_
            rintro e w' ⟨v, rfl, hn⟩
            have e1 : (mkL (FV i).length fun j => opWI op (IntKind.wrap .i64 (nth (FV i) j)) (IntKind.wrap .i64 (nth (VQ (i + 1)) j))) = FV (i + 1) := by
              refine ext_nth (by rw [mkL_length, hFl, hFl]) (fun j hj => ?_)
              rw [mkL_length, hFl] at hj
              rw [mkL_nth, if_pos (by rw [hFl]; exact hj), opWI_eq (hFin i j) (hin (i + 1) j), hFn i j hj, hFn (i + 1) j hj, hVn (i + 1) j hj, hk2]
              rfl
            rw [e1] at hn
            obtain ⟨ao, c, rfl, k', hfr⟩ := hn.fr
            rw [hFl] at hfr ⊢
            exact ⟨ao, c, rfl, k', hfr⟩
        · have hvo : ∀ b, vv.ownBlock = some b → (retag w T (o + 1, 0) b).1 ≠ o ∧ b < W.heap.size := fun b e => ⟨by rw [retag_new (hfr.2 b e)]; simp, hfr.1.lt hne e⟩
          rw [hx.l]
          refine (xc_makeOfI (foldS a.shape k) hok (hX1.kp0 kW) hT hsb hm hb (FV (N - 1)) ((hFl _).trans hmm.symm) (fun j => (hFin _ j).1) vv hfr.1 hvo).mono ?_
          rintro e w' ⟨r, b, rfl, hrb, hst⟩
          exact ⟨r, b, rfl, ⟨hrb, hst.untag kW⟩, hst.choose_spec.2.2⟩
        · rintro e w' ⟨r, b, rfl, ⟨rfl, rfl⟩, hst⟩
          exact ⟨rfl, hst⟩

end Go.Proofs.YticbbncdcannlaaGreat
