/- The program's calls in the document's words: Get, Set, Fill, Values, Look. -/
import Derived.Test.YtoagabdnkcbglaaGreatG15
import Derived.Test.YtoagabdnkcbglaaGreatG05

namespace Go.Proofs.YtoagabdnkcbglaaGreat
open Go.RowKit

/-- The program's space holds the document's state. -/
def XRep (T : Tags) (o : Nat) (w : World) (p : Nat) (σ : Sp) : Prop := σ.ok ∧ ∃ L X, XAt T o w p L X ∧ Tie X (Maps.size L.D) σ

theorem XRep.kp {T : Tags} {o : Nat} {Z : Nat → Prop} {w w' : World} {p : Nat} {σ : Sp} (h : XRep T o w p σ) (k : Kp Z w w') (hs : ∀ b, (T b).1 = o → ¬ Z b) : XRep T o w' p σ := by
  obtain ⟨h1, L, X, h2, h3⟩ := h
  exact ⟨h1, L, X, h2.kp k hs, h3⟩
theorem XRep.tags {T T' : Tags} {o : Nat} {w : World} {p : Nat} {σ : Sp} (h : XRep T o w p σ) (k : TagsTo w T T') : XRep T' o w p σ := by
  obtain ⟨h1, L, X, h2, h3⟩ := h
  exact ⟨h1, L, X, h2.tags k, h3⟩

theorem XRep.stay {T : Tags} {o : Nat} {w w' : World} {p : Nat} {σ : Sp} (h : XRep T o w p σ) (k : Kp0 w w') : Step XRep T o w p σ w' :=
  ⟨T, fun _ _ => rfl, h.kp k (fun _ _ e => e), Kp.of0 k⟩

theorem XRep.stayL {T : Tags} {o : Nat} {w w' : World} {p : Nat} {σ : Sp} {v : Value} {xs : List Int} (t : Nat × Nat) (h : XRep T o w p σ) (hn : NewI w w' v xs) : StepL XRep T o w p σ w' t v xs := by
  obtain ⟨ao, c, rfl, h1, h2, h3⟩ := hn
  exact ⟨retag w T t, retag_to w T t, (h.tags (retag_to w T t)).kp h2 (fun _ _ e => e), Kp.of0 h2, ao, c, rfl, h1, fun b hb => retag_new (h3 b hb), h3⟩

theorem kind_of {σ : Sp} (hok : σ.ok) {h : Int} {a : Arr} (hf : σ.find h = some a) : a.ok σ := by
  unfold Sp.find at hf
  split at hf
  · have hg : σ.arrs[ix h]? = some (some a) := by
      cases e : σ.arrs[ix h]? with
      | none => simp [List.getD, e] at hf
      | some y => simp [List.getD, e] at hf; rw [hf]
    exact hok.arr _ a hg
  · cases hf

theorem xc_get {T : Tags} {o : Nat} {w : World} {p : Nat} {σ : Sp} (h : Int) (vi : Value) (i : List Int) (hR : XRep T o w p σ) (hr : RdI w vi i) :
    Calls Tryz.prog 11 #[.pointer (some ⟨p, 0, none⟩), .int .i64 h, vi] w fun e w' => e = .returned (.tuple #[.int .i64 (σ.get h i).1, .int .i64 (σ.get h i).2]) ∧ Step XRep T o w p σ w' := by
  have hR' := hR
  obtain ⟨hok, L, X, hX, hT⟩ := hR
  cases hf : σ.find h with
  | none =>
    refine (xGet_none hX h vi (hT.non h hf)).mono ?_
    rintro e w' ⟨rfl, hk⟩
    exact ⟨by simp [Sp.get, hf], hR'.stay hk⟩
  | some a =>
    obtain ⟨x, hA, hx⟩ := hT.som h a hf
    have ha := kind_of hok hf
    cases hin : inBb x.l i with
    | false =>
      have hrk := hx.none i hin
      have hres : σ.get h i = (0, 5) := by simp [Sp.get, hf, hrk]
      rw [hres]
      rcases ha.kind with hk | hk
      · refine (xGetNoB hX h x hA (by rw [hx.kind, hk]) vi i hr hx.g.shape.1 hin).mono ?_
        rintro e w' ⟨rfl, hk'⟩
        exact ⟨rfl, hR'.stay hk'⟩
      · refine (xGetNoI hX h x hA (by rw [hx.kind, hk]) vi i hr hx.g.shape.1 hin).mono ?_
        rintro e w' ⟨rfl, hk'⟩
        exact ⟨rfl, hR'.stay hk'⟩
    | true =>
      obtain ⟨r1, r2, r3⟩ := hx.at i hin
      have hbd := ha.inside _ r2
      have htk := hx.taken hf _ r2
      have hres : σ.get h i = (nth (σ.vals a.kind) (nth a.cells (rank a.shape i).toNat).toNat, 0) := by
        simp only [Sp.get, hf]
        rw [if_neg (by omega)]
      rw [hres]
      rcases ha.kind with hk | hk
      · have hg := hx.g
        rw [hk, ← hT.k1.len] at hg
        refine (xGetYesB hX h x hA (by rw [hx.kind, hk]) vi i hr hg hin (hT.k1.wrap (.inl rfl))).mono ?_
        rintro e w' ⟨rfl, hk'⟩
        refine ⟨?_, hR'.stay hk'⟩
        rw [hk] at htk hbd ⊢
        rw [← r3, hT.k1.at _ hbd.1 hbd.2 htk]
      · have hg := hx.g
        rw [hk, ← hT.k2.len] at hg
        refine (xGetYesI hX h x hA (by rw [hx.kind, hk]) vi i hr hg hin (hT.k2.wrap (.inr rfl))).mono ?_
        rintro e w' ⟨rfl, hk'⟩
        refine ⟨?_, hR'.stay hk'⟩
        rw [hk] at htk hbd ⊢
        rw [← r3, hT.k2.at _ hbd.1 hbd.2 htk]

theorem xc_set {T : Tags} {o : Nat} {w : World} {p : Nat} {σ : Sp} (h v : Int) (vi : Value) (i : List Int) (hR : XRep T o w p σ) (hr : RdI w vi i) (hv : IntKind.i64.wrap v = v) :
    Calls Tryz.prog 10 #[.pointer (some ⟨p, 0, none⟩), .int .i64 h, .int .i64 v, vi] w fun e w' => e = .returned (.int .i64 (σ.set h v i).2) ∧ Step XRep T o w p (σ.set h v i).1 w' := by
  have hR' := hR
  obtain ⟨hok, L, X, hX, hT⟩ := hR
  cases hf : σ.find h with
  | none =>
    have hres : σ.set h v i = (σ, 2) := by simp [Sp.set, hf]
    rw [hres]
    refine (xSet_none hX h v vi (hT.non h hf)).mono ?_
    rintro e w' ⟨rfl, hk⟩
    exact ⟨rfl, hR'.stay hk⟩
  | some a =>
    obtain ⟨x, hA, hx⟩ := hT.som h a hf
    have ha := kind_of hok hf
    have hkd : x.kind = 1 ∨ x.kind = 2 := by rw [hx.kind]; exact ha.kind
    cases hro : x.ro with
    | true =>
      have hres : σ.set h v i = (σ, 6) := by simp [Sp.set, hf, ← hx.ro, hro]
      rw [hres]
      refine (xSet_ro hX h v vi x hA hkd hro).mono ?_
      rintro e w' ⟨rfl, hk⟩
      exact ⟨rfl, hR'.stay hk⟩
    | false =>
      cases hin : inBb x.l i with
      | false =>
        have hrk := hx.none i hin
        have hres : σ.set h v i = (σ, 5) := by simp [Sp.set, hf, ← hx.ro, hro, hrk]
        rw [hres]
        rcases ha.kind with hk | hk
        · refine (xSetNoB hX h v x hA (by rw [hx.kind, hk]) hro vi i hr hx.g.shape.1 hin).mono ?_
          rintro e w' ⟨rfl, hk'⟩
          exact ⟨rfl, hR'.stay hk'⟩
        · refine (xSetNoI hX h v x hA (by rw [hx.kind, hk]) hro vi i hr hx.g.shape.1 hin).mono ?_
          rintro e w' ⟨rfl, hk'⟩
          exact ⟨rfl, hR'.stay hk'⟩
      | true =>
        obtain ⟨r1, r2, r3⟩ := hx.at i hin
        have hbd := ha.inside _ r2
        have htk := hx.taken hf _ r2
        have hres : σ.set h v i = (σ.put a.kind (nth a.cells (rank a.shape i).toNat).toNat (asK a.kind v), 0) := by
          simp only [Sp.set, hf]
          rw [if_neg (by rw [← hx.ro, hro]; simp), if_neg (by omega)]
        rw [hres]
        rcases ha.kind with hk | hk
        · have hg := hx.g
          rw [hk, ← hT.k1.len] at hg
          rw [hk] at htk hbd ⊢
          have hw1 : IntKind.wrap .u8 v = asK 1 v := by rw [wrap_u8]; simp [asK]
          have hn := hT.putB hok (nth a.cells (rank a.shape i).toNat).toNat (by omega) (by rw [show (((nth a.cells (rank a.shape i).toNat).toNat : Nat) : Int) = nth a.cells (rank a.shape i).toNat by omega]; exact htk) (asK 1 v) (by simp only [asK, if_true]; omega)
          refine (xSetYesB hX h v x hA (by rw [hx.kind, hk]) hro vi i hr hg hin hv).mono ?_
          rintro e w' ⟨rfl, hk', hX'⟩
          rw [← r3, hw1] at hX'
          exact ⟨rfl, T, fun _ _ => rfl, (⟨put_ok hok _ _ _, L, _, hX', hn⟩ : XRep T o w' p (σ.put _ _ _)), hk'⟩
        · have hg := hx.g
          rw [hk, ← hT.k2.len] at hg
          rw [hk] at htk hbd ⊢
          have hw2 : IntKind.wrap .i64 v = asK 2 v := by rw [hv]; simp [asK]
          have hn := hT.putI hok (nth a.cells (rank a.shape i).toNat).toNat (by omega) (by rw [show (((nth a.cells (rank a.shape i).toNat).toNat : Nat) : Int) = nth a.cells (rank a.shape i).toNat by omega]; exact htk) (asK 2 v) (by rw [← hw2, hv]; exact hv)
          refine (xSetYesI hX h v x hA (by rw [hx.kind, hk]) hro vi i hr hg hin hv).mono ?_
          rintro e w' ⟨rfl, hk', hX'⟩
          rw [← r3, hw2] at hX'
          exact ⟨rfl, T, fun _ _ => rfl, (⟨put_ok hok _ _ _, L, _, hX', hn⟩ : XRep T o w' p (σ.put _ _ _)), hk'⟩

theorem xc_fill {T : Tags} {o : Nat} {w : World} {p : Nat} {σ : Sp} (h v : Int) (hR : XRep T o w p σ) (hv : IntKind.i64.wrap v = v) :
    Calls Tryz.prog 48 #[.pointer (some ⟨p, 0, none⟩), .int .i64 h, .int .i64 v] w fun e w' => e = .returned (.int .i64 (σ.fill h v).2) ∧ Step XRep T o w p (σ.fill h v).1 w' := by
  have hR' := hR
  obtain ⟨hok, L, X, hX, hT⟩ := hR
  cases hf : σ.find h with
  | none =>
    have hres : σ.fill h v = (σ, 2) := by simp [Sp.fill, hf]
    rw [hres]
    refine (xFill_none hX h v (hT.non h hf)).mono ?_
    rintro e w' ⟨rfl, hk⟩
    exact ⟨rfl, hR'.stay hk⟩
  | some a =>
    obtain ⟨x, hA, hx⟩ := hT.som h a hf
    have ha := kind_of hok hf
    have hkd : x.kind = 1 ∨ x.kind = 2 := by rw [hx.kind]; exact ha.kind
    cases hro : x.ro with
    | true =>
      have hres : σ.fill h v = (σ, 6) := by simp [Sp.fill, hf, ← hx.ro, hro]
      rw [hres]
      refine (xFill_ro hX h v x hA hkd hro).mono ?_
      rintro e w' ⟨rfl, hk⟩
      exact ⟨rfl, hR'.stay hk⟩
    | false =>
      have hres : σ.fill h v = (σ.writes a.kind a.cells (fun _ => asK a.kind v) a.cells.length, 0) := by
        simp only [Sp.fill, hf]
        rw [if_neg (by rw [← hx.ro, hro]; simp)]
      rw [hres]
      have hP : ∀ j, j < a.cells.length → 0 ≤ nth a.cells j ∧ nth a.cells j < σ.cap a.kind ∧ σ.taken a.kind (nth a.cells j) = true := fun j hj => ⟨(ha.inside j hj).1, (ha.inside j hj).2, hx.taken hf j hj⟩
      rcases ha.kind with hk | hk
      · have hg := hx.g
        rw [hk, ← hT.k1.len] at hg
        rw [hk] at hP ⊢
        have hw1 : IntKind.wrap .u8 v = asK 1 v := by rw [wrap_u8]; simp [asK]
        have hn := (hT.writesB hok a.cells hP (asK 1 v) (by simp only [asK, if_true]; omega) a.cells.length (Nat.le_refl _)).1
        refine (xSpFillB hX h v x hA (by rw [hx.kind, hk]) hro hg hv).mono ?_
        rintro e w' ⟨rfl, hk', hX'⟩
        rw [hx.cells, hw1] at hX'
        exact ⟨rfl, T, fun _ _ => rfl, ⟨writes_ok hok _ _ _ _, L, _, hX', hn⟩, hk'⟩
      · have hg := hx.g
        rw [hk, ← hT.k2.len] at hg
        rw [hk] at hP ⊢
        have hw2 : IntKind.wrap .i64 v = asK 2 v := by rw [hv]; simp [asK]
        have hn := (hT.writesI hok a.cells hP (asK 2 v) (by rw [← hw2, hv]; exact hv) a.cells.length (Nat.le_refl _)).1
        refine (xSpFillI hX h v x hA (by rw [hx.kind, hk]) hro hg hv).mono ?_
        rintro e w' ⟨rfl, hk', hX'⟩
        rw [hx.cells, hw2] at hX'
        exact ⟨rfl, T, fun _ _ => rfl, ⟨writes_ok hok _ _ _ _, L, _, hX', hn⟩, hk'⟩

theorem values_eq {σ : Sp} {h : Int} {a : Arr} {x : XA} (hx : ATie σ a x) (hf : σ.find h = some a) (ha : a.ok σ) {c : List Int} {bs : List (Int × Int)} (hk : KTie σ a.kind c bs) : ((gc x.l x.t x.f x.l.length).map fun y => nth c y.toNat) = σ.valuesOf a := by
  rw [hx.cells]
  unfold Sp.valuesOf
  apply List.map_congr_left
  intro y hy
  obtain ⟨j, hj, e⟩ := List.getElem_of_mem hy
  have e' : nth a.cells j = y := by rw [nth_lt hj]; exact e
  have h1 := ha.inside j hj
  have h2 := hx.taken hf j hj
  rw [e'] at h1 h2
  exact hk.at y h1.1 h1.2 h2

theorem xc_values {T : Tags} {o : Nat} {w : World} {p : Nat} {σ : Sp} (h : Int) (t : Nat × Nat) (hR : XRep T o w p σ) :
    Calls Tryz.prog 63 #[.pointer (some ⟨p, 0, none⟩), .int .i64 h] w fun e w' => ∃ v, e = .returned (.tuple #[v, .int .i64 (σ.values h).2]) ∧ StepL XRep T o w p σ w' t v (σ.values h).1 := by
  have hR' := hR
  obtain ⟨hok, L, X, hX, hT⟩ := hR
  cases hf : σ.find h with
  | none =>
    have hres : σ.values h = ([], 2) := by simp [Sp.values, hf]
    rw [hres]
    refine (xValues_none hX h (hT.non h hf)).mono ?_
    rintro e w' ⟨rfl, hk⟩
    exact ⟨_, rfl, hR'.stayL t (NewI.nil hk)⟩
  | some a =>
    obtain ⟨x, hA, hx⟩ := hT.som h a hf
    have ha := kind_of hok hf
    have hres : σ.values h = (σ.valuesOf a, 0) := by simp [Sp.values, hf]
    rw [hres]
    rcases ha.kind with hk | hk
    · have hg := hx.g
      rw [hk, ← hT.k1.len] at hg
      have hv := values_eq hx hf ha (c := X.c1) (bs := X.b1) (by rw [hk]; exact hT.k1)
      refine (xValuesB hX h x hA (by rw [hx.kind, hk]) hg (hT.k1.wrap (.inl rfl))).mono ?_
      rintro e w' ⟨v, rfl, hn⟩
      rw [hv] at hn
      exact ⟨v, rfl, hR'.stayL t hn⟩
    · have hg := hx.g
      rw [hk, ← hT.k2.len] at hg
      have hv := values_eq hx hf ha (c := X.c2) (bs := X.b2) (by rw [hk]; exact hT.k2)
      refine (xValuesI hX h x hA (by rw [hx.kind, hk]) hg (hT.k2.wrap (.inr rfl))).mono ?_
      rintro e w' ⟨v, rfl, hn⟩
      rw [hv] at hn
      exact ⟨v, rfl, hR'.stayL t hn⟩

theorem xc_look {T : Tags} {o : Nat} {w : World} {p : Nat} {σ : Sp} (h : Int) (t : Nat × Nat) (hR : XRep T o w p σ) :
    Calls Tryz.prog 67 #[.pointer (some ⟨p, 0, none⟩), .int .i64 h] w fun e w' => ∃ v, e = .returned (.tuple #[.agg #[.int .i64 (σ.look h).1, v, .bool (σ.look h).2.2.1], .int .i64 (σ.look h).2.2.2]) ∧ StepL XRep T o w p σ w' t v (σ.look h).2.1 := by
  have hR' := hR
  obtain ⟨hok, L, X, hX, hT⟩ := hR
  cases hf : σ.find h with
  | none =>
    have hres : σ.look h = (0, [], false, 2) := by simp [Sp.look, hf]
    rw [hres]
    refine (xLook_none hX h (hT.non h hf)).mono ?_
    rintro e w' ⟨rfl, hk⟩
    exact ⟨_, rfl, hR'.stayL t (NewI.nil hk)⟩
  | some a =>
    obtain ⟨x, hA, hx⟩ := hT.som h a hf
    have ha := kind_of hok hf
    have hres : σ.look h = (a.kind, a.shape, a.ro, 0) := by simp [Sp.look, hf]
    rw [hres]
    refine (xLook_some hX h x hA (by rw [hx.kind]; exact ha.kind) hx.g.shape.1).mono ?_
    rintro e w' ⟨v, rfl, hn⟩
    rw [hx.l] at hn
    exact ⟨v, by rw [hx.kind, hx.ro], hR'.stayL t hn⟩

end Go.Proofs.YtoagabdnkcbglaaGreat

/- The program's space, walked: Make, out of makeWhole's contract; mayHold, New. -/
namespace Go.Proofs.YtoagabdnkcbglaaGreat
open Go.RowKit Go.Maps Go.ChangeMaps Go.MapKept

set_option maxRecDepth 100000 in
set_option maxHeartbeats 1000000 in
theorem xMake_kind (p : Nat) (w : World) (kind : Int) (vs : Value) (h1 : kind ≠ 1) (h2 : kind ≠ 2) :
    Calls Tryz.prog 9 #[.pointer (some ⟨p, 0, none⟩), .int .i64 kind, vs] w fun e w' => e = .returned (.tuple #[.int .i64 0, .int .i64 3]) ∧ w' = w := by
  have HS := hid (fun W => xstoreOf_none p W kind h1 h2)
  clear h1 h2
  go_enter Tryz.func9, Tryz.ntmps9
  go_wp2_with fail
  refine (HS.out _).mono ?_
  rintro e w2 ⟨rfl, hw⟩
  obtain rfl := hw.symm
  go_wp2
  go_ret2
  exact ⟨rfl, rfl⟩

set_option maxRecDepth 100000 in
set_option maxHeartbeats 1000000 in
theorem xMake_shape {T : Tags} {o : Nat} {w : World} {p : Nat} {L : XL} {X : XS} (h : XAt T o w p L X) (kind : Int) (hk : kind = 1 ∨ kind = 2) (vs : Value) (s : List Int) (hr : RdI w vs s) (hs : shapeB s = false) :
    Calls Tryz.prog 9 #[.pointer (some ⟨p, 0, none⟩), .int .i64 kind, vs] w fun e w' => e = .returned (.tuple #[.int .i64 0, .int .i64 4]) ∧ Kp0 w w' := by
  have HS := hid (xstoreOf_calls h kind hk)
  have HC := hid (xshape_calls vs s w hr)
  rw [hs] at HC
  rw [show (if false = true then s else ([] : List Int)) = [] from rfl] at HC
  unfold shC at HC
  generalize L.inV kind = I at *
  clear h hr hk hs
  go_enter Tryz.func9, Tryz.ntmps9
  go_wp2_with fail
  refine HS.out.mono ?_
  rintro e w2 ⟨rfl, hw⟩
  obtain rfl := hw.symm
  go_wp2_with fail
  refine HC.out.mono ?_
  rintro e w3 ⟨rfl, hw⟩
  have HK := hid hw
  clear hw
  go_wp2
  go_ret2
  exact ⟨rfl, HK.out.alloc _⟩

set_option maxRecDepth 100000 in
set_option maxHeartbeats 1000000 in
theorem xMake_whole {T : Tags} {o : Nat} {w : World} {p : Nat} {L : XL} {X : XS} (h : XAt T o w p L X) (kind : Int) (hk : kind = 1 ∨ kind = 2) (vs : Value) (s : List Int) (hr : RdI w vs s) (hs : shapeB s = true) {R : Int → Int → World → Prop}
    (HW : Hid (∀ W, Kp0 w W → Calls Tryz.prog 20 #[.pointer (some ⟨p, 0, none⟩), .int .i64 kind, L.inV kind, .agg (shC s).toArray] W fun e w' => ∃ a b, e = .returned (.tuple #[.int .i64 a, .int .i64 b]) ∧ R a b w')) :
    Calls Tryz.prog 9 #[.pointer (some ⟨p, 0, none⟩), .int .i64 kind, vs] w fun e w' => ∃ a b, e = .returned (.tuple #[.int .i64 a, .int .i64 b]) ∧ R a b w' := by
  have HS := hid (xstoreOf_calls h kind hk)
  have HC := hid (xshape_calls vs s w hr)
  rw [hs] at HC
  rw [show (if true = true then s else ([] : List Int)) = s from rfl] at HC
  unfold shC at HC HW
  generalize L.inV kind = I at *
  clear h hr hk hs
  go_enter Tryz.func9, Tryz.ntmps9
  go_wp2_with fail
  refine HS.out.mono ?_
  rintro e w2 ⟨rfl, hw⟩
  obtain rfl := hw.symm
  go_wp2_with fail
  refine HC.out.mono ?_
  rintro e w3 ⟨rfl, hw⟩
  have HK := hid hw
  clear hw
  go_wp2_with fail
  refine (HW.out _ (HK.out.alloc _)).mono ?_
  rintro e w4 ⟨a, b, rfl, hR⟩
  have HR := hid hR
  clear hR
  go_wp2
  go_ret2
  exact ⟨a, b, rfl, HR.out⟩

set_option maxRecDepth 100000 in
set_option maxHeartbeats 1000000 in
theorem xNew_no (b i : Int) (w : World) (h : ¬ (0 ≤ b ∧ b ≤ 10000 ∧ 0 ≤ i ∧ i ≤ 10000)) :
    Calls Tryz.prog 8 #[.int .i64 b, .int .i64 i] w fun e w' => e = .returned (.tuple #[.pointer none, .int .i64 1]) ∧ Kp0 w w' := by
  by_cases h1 : 0 ≤ b
  · have d1 : decide (0 ≤ b) = true := by simp [h1]
    by_cases h2 : b ≤ 10000
    · have d2 : decide (b ≤ 10000) = true := by simp [h2]
      by_cases h3 : 0 ≤ i
      · have d3 : decide (0 ≤ i) = true := by simp [h3]
        have d4 : decide (i ≤ 10000) = false := by simp; omega
        clear h
        go_enter Tryz.func8, Tryz.ntmps8
        go_wp2
        go_ret2
        exact ⟨rfl, Kp0.refl w⟩
      · have d3 : decide (0 ≤ i) = false := by simp; omega
        clear h
        go_enter Tryz.func8, Tryz.ntmps8
        go_wp2
        go_ret2
        exact ⟨rfl, Kp0.refl w⟩
    · have d2 : decide (b ≤ 10000) = false := by simp; omega
      clear h
      go_enter Tryz.func8, Tryz.ntmps8
      go_wp2
      go_ret2
      exact ⟨rfl, Kp0.refl w⟩
  · have d1 : decide (0 ≤ b) = false := by simp; omega
    clear h
    go_enter Tryz.func8, Tryz.ntmps8
    go_wp2
    go_ret2
    exact ⟨rfl, Kp0.refl w⟩

end Go.Proofs.YtoagabdnkcbglaaGreat

/- The program's space, walked: New. -/
namespace Go.Proofs.YtoagabdnkcbglaaGreat
open Go.RowKit Go.Maps Go.ChangeMaps Go.MapKept

theorem Tryz.infoU8 : (Tryz.prog.info? 5).map (fun i => (i.zero, i.size, i.bytes)) = some (some (.int .u8 0), 1, 1) := by kernel_rfl
theorem Tryz.infoI64 : (Tryz.prog.info? 2).map (fun i => (i.zero, i.size, i.bytes)) = some (some (.int .i64 0), 1, 8) := by kernel_rfl

/-- A state without arrays. -/
def XS.new (b i : Nat) : XS := ⟨List.replicate b 0, List.replicate i 0, [], [], fun _ => none, 0⟩

/-- The tags of a new space's six blocks. -/
def xnewTags (w : World) (T : Tags) (o : Nat) : Tags := fun b =>
  if b < w.heap.size then T b else if b = w.heap.size then (o, 3) else if b = w.heap.size + 1 then (o, 2) else if b = w.heap.size + 2 then (o, 6) else if b = w.heap.size + 3 then (o, 5) else if b = w.heap.size + 4 then (o, 8) else (o, 1)

theorem xnewTags_g1 (w : World) (T : Tags) (o : Nat) : xnewTags w T o (w.heap.size) = (o, 3) := by
  unfold xnewTags
  rw [if_neg (by omega), if_pos rfl]
theorem xnewTags_q1 (w : World) (T : Tags) (o : Nat) : xnewTags w T o (w.heap.size + 1) = (o, 2) := by
  unfold xnewTags
  rw [if_neg (by omega), if_neg (by omega), if_pos rfl]
theorem xnewTags_g2 (w : World) (T : Tags) (o : Nat) : xnewTags w T o (w.heap.size + 2) = (o, 6) := by
  unfold xnewTags
  rw [if_neg (by omega), if_neg (by omega), if_neg (by omega), if_pos rfl]
theorem xnewTags_q2 (w : World) (T : Tags) (o : Nat) : xnewTags w T o (w.heap.size + 3) = (o, 5) := by
  unfold xnewTags
  rw [if_neg (by omega), if_neg (by omega), if_neg (by omega), if_neg (by omega), if_pos rfl]
theorem xnewTags_bm (w : World) (T : Tags) (o : Nat) : xnewTags w T o (w.heap.size + 4) = (o, 8) := by
  unfold xnewTags
  rw [if_neg (by omega), if_neg (by omega), if_neg (by omega), if_neg (by omega), if_neg (by omega), if_pos rfl]
theorem xnewTags_p (w : World) (T : Tags) (o : Nat) : xnewTags w T o (w.heap.size + 5) = (o, 1) := by
  unfold xnewTags
  rw [if_neg (by omega), if_neg (by omega), if_neg (by omega), if_neg (by omega), if_neg (by omega), if_neg (by omega)]

theorem vcs_rep (k : IntKind) (n : Nat) : (vcs k (List.replicate n 0)).toArray = rep n (.int k 0) := by simp [vcs, rep]

theorem six_heap (w : World) (O0 O1 O2 O3 O4 O5 : Obj) :
    ((((((w.alloc O0).alloc O1).alloc O2).alloc O3).alloc O4).alloc O5).heap[w.heap.size]? = some O0 ∧ ((((((w.alloc O0).alloc O1).alloc O2).alloc O3).alloc O4).alloc O5).heap[w.heap.size + 1]? = some O1 ∧
    ((((((w.alloc O0).alloc O1).alloc O2).alloc O3).alloc O4).alloc O5).heap[w.heap.size + 2]? = some O2 ∧ ((((((w.alloc O0).alloc O1).alloc O2).alloc O3).alloc O4).alloc O5).heap[w.heap.size + 3]? = some O3 ∧
    ((((((w.alloc O0).alloc O1).alloc O2).alloc O3).alloc O4).alloc O5).heap[w.heap.size + 4]? = some O4 ∧ ((((((w.alloc O0).alloc O1).alloc O2).alloc O3).alloc O4).alloc O5).heap[w.heap.size + 5]? = some O5 := by
  have n0 := heap_alloc_new w O0
  have n1 := heap_alloc_new (w.alloc O0) O1
  have n2 := heap_alloc_new ((w.alloc O0).alloc O1) O2
  have n3 := heap_alloc_new (((w.alloc O0).alloc O1).alloc O2) O3
  have n4 := heap_alloc_new ((((w.alloc O0).alloc O1).alloc O2).alloc O3) O4
  have n5 := heap_alloc_new (((((w.alloc O0).alloc O1).alloc O2).alloc O3).alloc O4) O5
  have k0 := heap_alloc_keeps (heap_alloc_keeps (heap_alloc_keeps (heap_alloc_keeps (heap_alloc_keeps n0 O1) O2) O3) O4) O5
  have k1 := heap_alloc_keeps (heap_alloc_keeps (heap_alloc_keeps (heap_alloc_keeps n1 O2) O3) O4) O5
  have k2 := heap_alloc_keeps (heap_alloc_keeps (heap_alloc_keeps n2 O3) O4) O5
  have k3 := heap_alloc_keeps (heap_alloc_keeps n3 O4) O5
  have k4 := heap_alloc_keeps n4 O5
  have s1 : (w.alloc O0).heap.size = w.heap.size + 1 := by simp
  have s2 : ((w.alloc O0).alloc O1).heap.size = w.heap.size + 2 := by simp
  have s3 : (((w.alloc O0).alloc O1).alloc O2).heap.size = w.heap.size + 3 := by simp
  have s4 : ((((w.alloc O0).alloc O1).alloc O2).alloc O3).heap.size = w.heap.size + 4 := by simp
  have s5 : (((((w.alloc O0).alloc O1).alloc O2).alloc O3).alloc O4).heap.size = w.heap.size + 5 := by simp
  rw [s1] at k1
  rw [s2] at k2
  rw [s3] at k3
  rw [s4] at k4
  rw [s5] at n5
  exact ⟨k0, k1, k2, k3, k4, n5⟩

set_option maxRecDepth 100000 in
set_option maxHeartbeats 2000000 in
theorem xNew_yes (b i : Nat) (w : World) (T : Tags) (o : Nat) (hb : b ≤ 10000) (hi : i ≤ 10000) :
    Calls Tryz.prog 8 #[.int .i64 (b : Int), .int .i64 (i : Int)] w fun e w' => ∃ p, e = .returned (.tuple #[.pointer (some ⟨p, 0, none⟩), .int .i64 0]) ∧ TagsTo w T (xnewTags w T o) ∧ Kp0 w w' ∧ XAt (xnewTags w T o) o w' p ⟨w.heap.size + 1, w.heap.size, w.heap.size + 3, w.heap.size + 2, w.heap.size + 4, .slice none 0 0, .slice none 0 0, .map []⟩ (XS.new b i) := by
  have d1 : decide ((0 : Int) ≤ (b : Int)) = true := by simp
  have d2 : decide ((b : Int) ≤ 10000) = true := by simp; omega
  have d3 : decide ((0 : Int) ≤ (i : Int)) = true := by simp
  have d4 : decide ((i : Int) ≤ 10000) = true := by simp; omega
  have hmB := fun W => run_mk (P := Tryz.prog) 132 5 (.int .u8 0) 1 Tryz.underlying132 Tryz.infoU8 rfl (by omega) b (by omega) W
  have hmI := fun W => run_mk (P := Tryz.prog) 136 2 (.int .i64 0) 8 Tryz.underlying136 Tryz.infoI64 rfl (by omega) i (by omega) W
  have hmm := @run_makeMap Tryz.prog
  go_enter Tryz.func8, Tryz.ntmps8
  go_wp2
  go_ret2
  obtain ⟨k0, k1, k2, k3, k4, k5⟩ := six_heap w (.cells (rep b (.int .u8 0)) 5) (.cells #[.slice (some ⟨w.heap.size, 0, none⟩) b b, .slice none 0 0] 135) (.cells (rep i (.int .i64 0)) 2) (.cells #[.slice (some ⟨w.heap.size + 1 + 1, 0, none⟩) i i, .slice none 0 0] 138) (.map #[] 0) (.cells #[.pointer (some ⟨w.heap.size + 1, 0, none⟩), .pointer (some ⟨w.heap.size + 1 + 1 + 1, 0, none⟩), .map (some (w.heap.size + 1 + 1 + 1 + 1)), .int .i64 0] 94)
  refine ⟨w.heap.size + 5, rfl, fun x hx => by simp [xnewTags, hx], (((((Kp.refl _ w).alloc _).alloc _).alloc _).alloc _).alloc _ |>.alloc _, ?_⟩
  refine ⟨k5, ⟨?_, ?_, World.ownsRow_nil _ 0 _ 2⟩, ⟨?_, ?_, World.ownsRow_nil _ 0 _ 2⟩, ?_, ⟨fun _ _ => rfl, fun a x h => by cases h⟩, ?_, ?_, ?_, ?_, ?_, ?_, ?_, ?_⟩
  · simpa [XS.new] using k1
  · have e : cellsBB (List.replicate b 0) = .cells (rep b (.int .u8 0)) 5 (0, 0) := by unfold cellsBB; rw [vcs_rep]
    exact k0.trans (congrArg some e.symm)
  · simpa [XS.new] using k3
  · have e : cellsBI (List.replicate i 0) = .cells (rep i (.int .i64 0)) 2 (0, 0) := by unfold cellsBI; rw [vcs_rep]
    exact k2.trans (congrArg some e.symm)
  · have h0 := World.ownsMap_made w Tryz.prog 3 elemR
    obtain ⟨es, clock, hb0, r⟩ := h0
    have e := hb0.symm.trans (heap_alloc_new w (.map #[] 0))
    simp only [Option.some.injEq] at e
    exact ⟨es, clock, by rw [e]; exact k4, r⟩
  · exact xnewTags_p w T o
  · exact xnewTags_q1 w T o
  · exact xnewTags_g1 w T o
  · intro x hx; simp [Value.ownBlock] at hx
  · exact xnewTags_q2 w T o
  · exact xnewTags_g2 w T o
  · intro x hx; simp [Value.ownBlock] at hx
  · exact xnewTags_bm w T o

end Go.Proofs.YtoagabdnkcbglaaGreat

/- The program's calls in the document's words: Store, New. -/
namespace Go.Proofs.YtoagabdnkcbglaaGreat
open Go.RowKit

theorem cntTo_congr {t t' : Int → Bool} (n : Nat) (h : ∀ c : Nat, c < n → t c = t' c) : cntTo t n = cntTo t' n := by
  induction n with
  | zero => rfl
  | succ n ih => simp only [cntTo]; rw [ih (fun c hc => h c (by omega)), h n (by omega)]

theorem cntTo_or {t t' : Int → Bool} (n : Nat) (h : ∀ c : Nat, c < n → ¬ (t c = true ∧ t' c = true)) : cntTo (fun c => t c || t' c) n = cntTo t n + cntTo t' n := by
  induction n with
  | zero => rfl
  | succ n ih =>
    simp only [cntTo]
    rw [ih (fun c hc => h c (by omega))]
    have := h n (by omega)
    by_cases h1 : t n = true <;> by_cases h2 : t' n = true
    · exact absurd ⟨h1, h2⟩ this
    · simp [h1, h2]; omega
    · simp [h1, h2]; omega
    · simp [h1, h2]

theorem cntTo_seg (s z : Nat) (n : Nat) : cntTo (fun c => decide ((s : Int) ≤ c) && decide (c < (s : Int) + z)) n = min n (s + z) - s := by
  induction n with
  | zero => simp [cntTo]
  | succ n ih =>
    simp only [cntTo]
    rw [ih]
    by_cases h : (s : Int) ≤ (n : Int) ∧ (n : Int) < (s : Int) + z
    · have : (decide ((s : Int) ≤ (n : Int)) && decide ((n : Int) < (s : Int) + z)) = true := by simp; omega
      rw [if_pos this]; omega
    · have : (decide ((s : Int) ≤ (n : Int)) && decide ((n : Int) < (s : Int) + z)) = false := by
        rw [← Bool.not_eq_true]; simp; omega
      rw [if_neg (by rw [this]; simp)]; omega

/-- The cells of the first m buffers. -/
def segs (bs : List (Int × Int)) : Nat → Int → Bool
  | 0, _ => false
  | m + 1, c => segs bs m c || (decide ((bth bs m).1 ≤ c) && decide (c < (bth bs m).1 + (bth bs m).2))

theorem segs_iff (bs : List (Int × Int)) (m : Nat) (c : Int) : segs bs m c = true ↔ ∃ j, j < m ∧ (bth bs j).1 ≤ c ∧ c < (bth bs j).1 + (bth bs j).2 := by
  induction m with
  | zero => simp [segs]
  | succ m ih =>
    simp only [segs, Bool.or_eq_true, Bool.and_eq_true, decide_eq_true_eq, ih]
    constructor
    · rintro (⟨j, h1, h2⟩ | h)
      · exact ⟨j, by omega, h2⟩
      · exact ⟨m, by omega, h⟩
    · rintro ⟨j, h1, h2⟩
      rcases Nat.lt_or_ge j m with h | h
      · exact .inl ⟨j, h, h2⟩
      · have : j = m := by omega
        subst this
        exact .inr h2

theorem cnt_sum {bs : List (Int × Int)} (hs : sortedB bs) {n : Nat} (hin : bufsIn n bs) (m : Nat) (hm : m ≤ bs.length) : (cntTo (segs bs m) n : Int) = sumTo bs m := by
  induction m with
  | zero =>
    have : cntTo (segs bs 0) n = 0 := by
      have := cntTo_congr (t := segs bs 0) (t' := fun c => decide (((0 : Nat) : Int) ≤ c) && decide (c < ((0 : Nat) : Int) + (0 : Nat))) n (fun c _ => by simp [segs])
      rw [this, cntTo_seg]; omega
    rw [this]; rfl
  | succ m ih =>
    have h1 := ih (by omega)
    have h2 := hs.1 m (by omega)
    have h3 := hin m (by omega)
    have e : cntTo (segs bs (m + 1)) n = cntTo (segs bs m) n + cntTo (fun c => decide ((((bth bs m).1.toNat : Nat) : Int) ≤ c) && decide (c < (((bth bs m).1.toNat : Nat) : Int) + ((bth bs m).2.toNat : Nat))) n := by
      rw [← cntTo_or]
      · apply cntTo_congr
        intro c _
        simp only [segs]
        rw [show (((bth bs m).1.toNat : Nat) : Int) = (bth bs m).1 by omega, show (((bth bs m).2.toNat : Nat) : Int) = (bth bs m).2 by omega]
      · rintro c _ ⟨a, b⟩
        obtain ⟨j, j1, j2, j3⟩ := (segs_iff bs m c).1 a
        have := hs.2 j m j1 (by omega)
        simp at b
        omega
    rw [e, cntTo_seg, sumTo, ← h1]
    omega

theorem topTo_is (t : Int → Bool) (e n : Nat) (h1 : 1 ≤ e) (h2 : e ≤ n) (h3 : t ((e : Int) - 1) = true) (h4 : ∀ c : Nat, e ≤ c → c < n → t c = false) : topTo t n = e := by
  induction n with
  | zero => omega
  | succ n ih =>
    simp only [topTo]
    by_cases hn : e = n + 1
    · subst hn
      have : t n = true := by have := h3; rwa [show (((n + 1 : Nat) : Int) - 1) = (n : Int) by omega] at this
      rw [if_pos this]
    · rw [if_neg (by rw [h4 n (by omega) (by omega)]; simp)]
      exact ih (by omega) (fun c a b => h4 c a (by omega))

theorem topTo_zero (t : Int → Bool) (n : Nat) (h : ∀ c : Nat, c < n → t c = false) : topTo t n = 0 := by
  induction n with
  | zero => rfl
  | succ n ih =>
    simp only [topTo]
    rw [if_neg (by rw [h n (by omega)]; simp)]
    exact ih (fun c hc => h c (by omega))

theorem KTie.told {σ : Sp} {k : Int} {c : List Int} {bs : List (Int × Int)} (h : KTie σ k c bs) : (cntTo (σ.taken k) (σ.cap k) : Int) = sumTo bs bs.length ∧ (topTo (σ.taken k) (σ.cap k) : Int) = endTo bs bs.length := by
  have hin := h.inn
  rw [h.len] at hin
  have htk : ∀ x, σ.taken k x = segs bs bs.length x := fun x => by
    rw [Bool.eq_iff_iff, h.taken x, segs_iff]
    rfl
  constructor
  · rw [← cnt_sum h.sorted hin bs.length (Nat.le_refl _)]
    congr 1
    exact cntTo_congr _ (fun x _ => htk x)
  · rcases Nat.eq_zero_or_pos bs.length with h0 | h0
    · have : topTo (σ.taken k) (σ.cap k) = 0 := topTo_zero _ _ (fun x _ => by rw [htk, h0]; rfl)
      rw [this, h0]; rfl
    · obtain ⟨m, hm⟩ : ∃ m, bs.length = m + 1 := ⟨bs.length - 1, by omega⟩
      have a1 := h.sorted.1 m (by omega)
      have a2 := hin m (by omega)
      have : topTo (σ.taken k) (σ.cap k) = ((bth bs m).1 + (bth bs m).2).toNat := by
        refine topTo_is _ _ _ (by omega) (by omega) ?_ (fun x b1 b2 => ?_)
        · rw [h.taken]
          exact ⟨m, by omega, by omega, by omega⟩
        · rw [← Bool.not_eq_true, h.taken]
          rintro ⟨j, j1, j2, j3⟩
          rcases Nat.lt_or_ge j m with hj | hj
          · have := h.sorted.2 j m hj (by omega)
            omega
          · have : j = m := by omega
            subst this
            omega
      rw [this, hm, endTo]
      omega

theorem cap_le {σ : Sp} (h : σ.ok) (k : Int) : σ.cap k ≤ 10000 := by
  unfold Sp.cap
  split
  · exact h.n1
  · exact h.n2

theorem xc_store {T : Tags} {o : Nat} {w : World} {p : Nat} {σ : Sp} (kind : Int) (hR : XRep T o w p σ) :
    Calls Tryz.prog 28 #[.pointer (some ⟨p, 0, none⟩), .int .i64 kind] w fun e w' => e = .returned (.tuple #[.agg #[.int .i64 (σ.store kind).1, .int .i64 (σ.store kind).2.1, .int .i64 (σ.store kind).2.2.1], .int .i64 (σ.store kind).2.2.2]) ∧ Step XRep T o w p σ w' := by
  have hR' := hR
  obtain ⟨hok, L, X, hX, hT⟩ := hR
  by_cases hk : kind = 1 ∨ kind = 2
  · have c1 : X.c1.length ≤ 10000 := by rw [hT.k1.len]; exact cap_le hok 1
    have c2 : X.c2.length ≤ 10000 := by rw [hT.k2.len]; exact cap_le hok 2
    have l1 := hT.k1.few
    have l2 := hT.k2.few
    refine (xStore_some hX kind hk hT.k1.inn hT.k2.inn c1 c2 (by omega) (by omega)).mono ?_
    rintro e w' ⟨rfl, hk'⟩
    refine ⟨?_, hR'.stay hk'⟩
    have hst : σ.store kind = ((σ.cap kind : Int), (cntTo (σ.taken kind) (σ.cap kind) : Int), (topTo (σ.taken kind) (σ.cap kind) : Int), 0) := by
      unfold Sp.store
      rw [if_neg (by omega)]
    rw [hst]
    rcases hk with rfl | rfl
    · obtain ⟨t1, t2⟩ := hT.k1.told
      simp only [t1, t2, XS.told, if_true]
      rw [hT.k1.len]
    · obtain ⟨t1, t2⟩ := hT.k2.told
      simp only [t1, t2, XS.told]
      rw [hT.k2.len]
      rfl
  · have hst : σ.store kind = (0, 0, 0, 3) := by
      unfold Sp.store
      rw [if_pos (by omega)]
    rw [hst]
    refine (xStore_none p w kind (by omega) (by omega)).mono ?_
    rintro e w' ⟨rfl, hk'⟩
    exact ⟨rfl, hR'.stay hk'⟩

theorem new_ktie (b i : Nat) (k : Int) (n : Nat) (h : (Sp.new b i).cap k = n) : KTie (Sp.new b i) k (List.replicate n 0) [] := by
  have hv : ∀ j, nth ((Sp.new b i).vals k) j = 0 := fun j => by
    unfold Sp.vals Sp.new nth
    split <;> simp [List.getD, List.getElem?_replicate] <;> split <;> rfl
  have ht : ∀ x, (Sp.new b i).taken k x = false := fun x => rfl
  refine ⟨by simp [h], ⟨fun j hj => by simp at hj, fun j k _ hk => by simp at hk⟩, fun j hj => by simp at hj, fun s z => ?_, fun j hj => ?_, fun _ j hj => ?_, fun _ j hj => ?_⟩
  · constructor
    · rintro ⟨j, hj, _⟩; simp at hj
    · rintro ⟨x, y, hx, _⟩; simp [Sp.new] at hx
  · rw [ht]
    simp [nth, List.getD, List.getElem?_replicate]
    split <;> rfl
  · rw [hv]; omega
  · rw [hv]; simp [IntKind.wrap, IntKind.signed, IntKind.bits]

theorem xc_newYes (b i : Nat) (w : World) (T : Tags) (o : Nat) (hb : b ≤ 10000) (hi : i ≤ 10000) :
    Calls Tryz.prog 8 #[.int .i64 (b : Int), .int .i64 (i : Int)] w fun e w' => ∃ p, e = .returned (.tuple #[.pointer (some ⟨p, 0, none⟩), .int .i64 0]) ∧ ∃ T', TagsTo w T T' ∧ XRep T' o w' p (Sp.new b i) ∧ Kp0 w w' := by
  refine (xNew_yes b i w T o hb hi).mono ?_
  rintro e w' ⟨p, rfl, h1, h2, h3⟩
  refine ⟨p, rfl, _, h1, ⟨new_ok b i hb hi, _, _, h3, ⟨rfl, new_ktie b i 1 b rfl, new_ktie b i 2 i rfl, fun _ _ => rfl, fun h a ha => ?_, rfl, fun i j b c hb => ?_⟩⟩, h2⟩
  · simp [Sp.find, Sp.new] at ha
  · simp [Sp.new] at hb

theorem xc_newNo (b i : Int) (w : World) (h : mayNew b i = false) : Calls Tryz.prog 8 #[.int .i64 b, .int .i64 i] w fun e w' => e = .returned (.tuple #[.pointer none, .int .i64 1]) ∧ Kp0 w w' :=
  xNew_no b i w (fun hh => by simp [mayNew, hh] at h)

end Go.Proofs.YtoagabdnkcbglaaGreat

/- The program's space, walked: isUsed. -/
namespace Go.Proofs.YtoagabdnkcbglaaGreat
open Go.RowKit Go.Maps Go.ChangeMaps Go.MapKept

/-- A step of the range over the map of arrays. -/
theorem wpList_next_xa (w : World) {ops : Array Oper} {rest : List Oper} {o : Oper} {a : Act} {Q : Exit → Act → World → Prop} (hg : o.guard = none) (it : Operand) (hop : o.op = Op.next it false) (b r n : Nat) (D : DataW Value) (A : Int → Option XA) (left : Lit → Bool) (cnt : Nat)
    (hit : a.eval it = .pointer (some ⟨r, 0, none⟩)) (h : w.ranges Tryz.prog 3 elemR b r n D left cnt) (hm : XMap D A)
    (hDone : (∀ kl, left kl = false) → wpList Tryz.prog ops Q rest (a.put o.dst (.tuple #[.bool false])) w)
    (hMore : ∀ (k : Int) (x : XA) (w' : World) (cnt' : Nat), A k = some x → left (.int .i64 k) = true → w'.ranges Tryz.prog 3 elemR b r n D (fun z => left z && !z.sameKey (.int .i64 k)) cnt' → cnt' < cnt → w.grownBy w' (some r) → w'.heap.size = w.heap.size →
      (Instr.entry (.pointer (some ⟨r, 0, none⟩))).run Tryz.prog w' = .ok (.tuple #[.int .i64 k, .agg x.cs]) w' → wpList Tryz.prog ops Q rest (a.put o.dst (.tuple #[.bool true, .int .i64 k, .agg x.cs])) w') :
    wpList Tryz.prog ops Q (o :: rest) a w :=
  wpList_next_ranges w hg it hop 3 Tryz.lawInt elemR (Value.int .i64) (fun v : Value => v) (fun key kl hkey => by obtain ⟨x, rfl, _⟩ := Maps.keyOf_int_inv Tryz.underlying3 hkey; exact ⟨x, rfl⟩) (fun v y _ => ⟨v, rfl⟩) b r n D left cnt hit h (fun _ hl => hDone hl)
    (fun k v kl y w' cnt' hkey hlk hv hat hrg hlt hgr hsz hen => by
      obtain ⟨k', ek, rfl, hwk⟩ := Maps.keyOf_int_inv Tryz.underlying3 hkey
      cases ek
      have hh := Maps.has_true_of_atKey hat
      cases hA : A k with
      | none => rw [hm.non k hA] at hh; cases hh
      | some x =>
        obtain ⟨-, -, h3⟩ := hm.som k x hA
        have e1 : y.1 = .held (.agg x.cs) := (hat .nil).symm.trans (h3 .nil)
        have e2 : v = .agg x.cs := by
          simp only [elemR, Option.some.injEq] at hv
          rw [← hv] at e1
          injection e1
        subst e2
        exact hMore k x w' cnt' hA hlk hrg hlt hgr hsz hen)

set_option maxRecDepth 100000 in
set_option maxHeartbeats 4000000 in
theorem xisUsed_calls {T : Tags} {o : Nat} {w : World} {p : Nat} {L : XL} {X : XS} (h : XAt T o w p L X) (kind buf : Int) :
    Calls Tryz.prog 81 #[.pointer (some ⟨p, 0, none⟩), .int .i64 kind, .int .i64 buf] w fun e w' => ∃ u, e = .returned (.bool u) ∧ (u = true ↔ ∃ a x, X.A a = some x ∧ x.kind = kind ∧ x.buf = buf) ∧ Kp0 w w' := by
  obtain ⟨z0, z1, z2, z3⟩ := cells4 h.blk
  have HM := hid h.map
  have HE := hid h.ent
  clear h
  go_enter Tryz.func81, Tryz.ntmps81
  go_wp2_with (first | (at_range; refine wpList_range_own _ rfl _ 92 rfl 3 66 Tryz.lawInt Tryz.underlying92 _ L.bm _ L.D rfl HM.out ?_; intro w0 hrg0 hg0 hs0) | go_in)
  go_frame
  obtain ⟨r, hr⟩ : ∃ r, w.heap.size = r := ⟨_, rfl⟩
  rw [hr] at hrg0 ⊢
  have HRG := hid hrg0
  have HK0 : Hid (Kp0 w w0) := Kp.grown (Kp.refl _ w) hg0 (fun k e => by cases e)
  have HRR := hid hr
  clear hrg0 hg0 hs0 hr z0 z1 z2 z3
  go_loopw [8, 14] (fun _ _ wr => ∃ left cnt, Hid (wr.ranges Tryz.prog 3 elemR L.bm r X.last L.D left cnt) ∧ Hid (∀ a x, X.A a = some x → left (.int .i64 a) = false → ¬ (x.kind = kind ∧ x.buf = buf)) ∧ Hid (Kp0 w wr)) (fun _ _ wr => wr.rangeLeft L.bm r)
  case atStart => exact ⟨_, _, HRG, hid (fun a x hA hl => by have := (HE.out.som a x hA).2.1; rw [this] at hl; cases hl), HK0⟩
  case round =>
    clear HRG HK0
    obtain ⟨left, cnt, HRG, HN, HK⟩ := hrel
    go_wp2_with (first | (at_next; refine wpList_next_xa _ rfl _ rfl L.bm r X.last L.D X.A left cnt rfl HRG.out HE.out ?_ ?_) | go_in)
    · intro hl0
      have HF : Hid (¬ ∃ a x, X.A a = some x ∧ x.kind = kind ∧ x.buf = buf) := hid (fun ⟨a, x, hA, hx⟩ => HN.out a x hA (hl0 _) hx)
      clear hl0
      go_wp2
      go_ret
      exact ⟨false, rfl, ⟨fun e => (Bool.noConfusion e), fun e => absurd e HF.out⟩, HK.out⟩
    · intro k x w1 cnt1 hA hlk hrg1 hlt hgr hsz hen
      have HA := hid hA
      have HRG1 := hid hrg1
      have HLT := hid hlt
      have HK1 : Hid (Kp0 w w1) := Kp.grown HK.out hgr (fun j e h => by cases e; have := HRR.out; omega)
      have HEN := hid hen
      unfold XA.cs at hen ⊢
      clear hA hlk hrg1 hlt hgr hsz
      by_cases hk1 : x.kind = kind
      · have d1 : (x.kind == kind) = true := by simp [hk1]
        by_cases hk2 : x.buf = buf
        · have d2 : (x.buf == buf) = true := by simp [hk2]
          have HX : Hid (∃ a x, X.A a = some x ∧ x.kind = kind ∧ x.buf = buf) := ⟨k, x, HA.out, hk1, hk2⟩
          clear hk1 hk2
          go_wp2
          go_ret
          exact ⟨true, rfl, ⟨fun _ => HX.out, fun _ => rfl⟩, HK1.out.alloc _⟩
        · have d2 : (x.buf == buf) = false := by simp [hk2]
          have HX : Hid (¬ (x.kind = kind ∧ x.buf = buf)) := fun e => hk2 e.2
          clear hk1 hk2
          go_wp2
          go_roundw
          case rel =>
            refine ⟨_, _, HRG1.out.alloc _, hid (fun a y hy hl => ?_), HK1.out.alloc _⟩
            by_cases ha : a = k
            · subst ha; rw [HA.out] at hy; cases hy; exact HX.out
            · refine HN.out a y hy ?_
              have : (Lit.int .i64 a).sameKey (.int .i64 k) = false := Maps.sameKey_ne (by simpa using ha)
              rw [this] at hl
              simpa using hl
          case measure =>
            rw [(HRG1.out.alloc _).left_eq, HRG.out.left_eq]
            exact HLT.out
      · have d1 : (x.kind == kind) = false := by simp [hk1]
        have HX : Hid (¬ (x.kind = kind ∧ x.buf = buf)) := fun e => hk1 e.1
        clear hk1
        go_wp2
        go_roundw
        case rel =>
          refine ⟨_, _, HRG1.out.alloc _, hid (fun a y hy hl => ?_), HK1.out.alloc _⟩
          by_cases ha : a = k
          · subst ha; rw [HA.out] at hy; cases hy; exact HX.out
          · refine HN.out a y hy ?_
            have : (Lit.int .i64 a).sameKey (.int .i64 k) = false := Maps.sameKey_ne (by simpa using ha)
            rw [this] at hl
            simpa using hl
        case measure =>
          rw [(HRG1.out.alloc _).left_eq, HRG.out.left_eq]
          exact HLT.out

end Go.Proofs.YtoagabdnkcbglaaGreat
