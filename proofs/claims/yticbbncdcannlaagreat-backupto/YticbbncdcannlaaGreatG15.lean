/- The program's space, walked at an array of uint8: Fill, Values. -/
import Derived.Test.YticbbncdcannlaaGreatG13
import Derived.Test.YticbbncdcannlaaGreatG12
import Derived.Test.YticbbncdcannlaaGreatG14
import Derived.Test.YticbbncdcannlaaGreatG04

namespace Go.Proofs.YticbbncdcannlaaGreat
open Go.RowKit Go.Maps Go.ChangeMaps Go.MapKept

theorem Tryz.mReadB (a : Addr) (x : Value) (w : World) : (callMethod (.iface 126 (.pointer (some a))) "Read" #[x]).run Tryz.prog w = .ok (.enter 195 #[.pointer (some a), x]) w := by kernel_rfl

theorem Tryz.nReadB (a : Addr) (w : World) : (nilAhead 367 126 (.pointer (some a)) "Read").run Tryz.prog w = .ok (some false) w := by kernel_rfl

set_option maxRecDepth 100000 in
set_option maxHeartbeats 2000000 in
theorem xValuesB {T : Tags} {o : Nat} {w : World} {p : Nat} {L : XL} {X : XS} (h : XAt T o w p L X) (hd : Int) (x : XA) (hA : X.A hd = some x) (hk : x.kind = 1) (hg : GOk x.l x.t x.f X.c1.length) (hw : ∀ j, j < X.c1.length → IntKind.i64.wrap (nth X.c1 j) = nth X.c1 j) :
    Calls Tryz.prog 26 #[.pointer (some ⟨p, 0, none⟩), .int .i64 hd] w fun e w' => ∃ v, e = .returned (.tuple #[v, .int .i64 0]) ∧ NewI w w' v ((gc x.l x.t x.f x.l.length).map fun c => nth X.c1 c.toNat) := by
  have HF := hid (xfind_some h hd x hA (by omega))
  have hlen : (gc x.l x.t x.f x.l.length).length ≤ 1000000 := by
    have h1 := gc_length x.l x.t x.f hg.shape.2.1 x.l.length (Nat.le_refl _)
    rw [List.take_length] at h1
    have := hg.shape.2.2
    omega
  have HC : Hid (∀ W, Kp0 w W → Calls Tryz.prog 60 #[.agg (grC x.l x.t x.f).toArray] W fun e w' => ∃ v, e = .returned v ∧ (NewI W w' v (gc x.l x.t x.f x.l.length) ∧ Kp0 w w')) := fun W k =>
    (xcells_calls x.l x.t x.f _ W hg).mono (fun e w' ⟨v, h1, h2⟩ => ⟨v, h1, h2, by obtain ⟨_, _, _, _, h3, _⟩ := h2; exact Kp0.trans k h3⟩)
  generalize hP : gc x.l x.t x.f x.l.length = P at *
  have hin := hg.inside
  rw [hP] at hin
  have HR : Hid (∀ W vp W0, Kp0 w W → NewI W0 W vp P → Calls Tryz.prog 195 #[.pointer (some ⟨L.q1, 0, none⟩), vp] W fun e w' => ∃ v, e = .returned v ∧ NewI w w' v (P.map fun c => nth X.c1 c.toNat)) := fun W vp W0 k hn => by
    have hr0 : RdI W vp P := by obtain ⟨_, _, rfl, h1, _⟩ := hn; exact h1.rd
    refine (xReadB_calls (h.kp0 k).s1 P vp hr0 hin hw hlen).mono ?_
    rintro e w' ⟨v, rfl, ao, c, rfl, h1, h2, h3⟩
    exact ⟨_, rfl, ao, c, rfl, h1, Kp0.trans k h2, fun b hb => Nat.le_trans k.size (h3 b hb)⟩
  generalize (P.map fun c => nth X.c1 c.toNat) = V at *
  unfold grC at HC
  rw [hk, inVB] at HF
  unfold XA.cs at HF
  rw [hk] at HF
  have HMR := hid (Tryz.mReadB ⟨L.q1, 0, none⟩)
  clear h hA hg hw hlen hP hin
  go_enter Tryz.func26, Tryz.ntmps26
  go_wp2_with fail
  refine HF.out.mono ?_
  rintro e w2 ⟨rfl, hw⟩
  have HK := hid hw
  clear hw
  have HB : Hid ((w2.alloc (.cells #[.int .i64 1, .int .i64 x.buf, .int .i64 (nth x.l 0), .int .i64 (nth x.l 1), .int .i64 (nth x.l 2), .int .i64 (nth x.l 3), .int .i64 (x.l.length : Int), .int .i64 x.f, .int .i64 (nth x.t 0), .int .i64 (nth x.t 1), .int .i64 (nth x.t 2), .int .i64 (nth x.t 3), .bool x.ro] 109)).heap[w2.heap.size]? = some (.cells #[.int .i64 1, .int .i64 x.buf, .int .i64 (nth x.l 0), .int .i64 (nth x.l 1), .int .i64 (nth x.l 2), .int .i64 (nth x.l 3), .int .i64 (x.l.length : Int), .int .i64 x.f, .int .i64 (nth x.t 0), .int .i64 (nth x.t 1), .int .i64 (nth x.t 2), .int .i64 (nth x.t 3), .bool x.ro] 109 (0, 0))) := heap_alloc_new w2 _
  have HKW : Hid (Kp0 w (w2.alloc (.cells #[.int .i64 1, .int .i64 x.buf, .int .i64 (nth x.l 0), .int .i64 (nth x.l 1), .int .i64 (nth x.l 2), .int .i64 (nth x.l 3), .int .i64 (x.l.length : Int), .int .i64 x.f, .int .i64 (nth x.t 0), .int .i64 (nth x.t 1), .int .i64 (nth x.t 2), .int .i64 (nth x.t 3), .bool x.ro] 109))) := HK.out.alloc _
  go_wp2
  generalize w2.alloc (.cells #[.int .i64 1, .int .i64 x.buf, .int .i64 (nth x.l 0), .int .i64 (nth x.l 1), .int .i64 (nth x.l 2), .int .i64 (nth x.l 3), .int .i64 (x.l.length : Int), .int .i64 x.f, .int .i64 (nth x.t 0), .int .i64 (nth x.t 1), .int .i64 (nth x.t 2), .int .i64 (nth x.t 3), .bool x.ro] 109) = W at HB HKW ⊢
  generalize w2.heap.size = b at HB ⊢
  obtain ⟨z0, z1, z2, z3, z4, z5, z6, z7, z8, z9, z10, z11, z12⟩ := cells13 HB.out
  have HKD : Hid (Kp0 w W.drew) := HKW.out.drew
  have hna := Tryz.nReadB ⟨L.q1, 0, none⟩
  go_region_law ((first
    | (refine step_call1 (by rfl) 60 (.tmp 21) _ (by rfl) _ Tryz.func60 (by kernel_rfl) (by kernel_rfl) _ (by rfl) (HC.out _ HKD.out) ?_; intro v7 w7 hR; obtain ⟨hn7, hk7⟩ := hR)
    | (refine step_invoke1 (by rfl) (.tmp 25) "Read" (.tmp 22) _ (by rfl) _ v7 (by rfl) (by rfl) _ _ (HMR.out v7 w7) (HR.out w7 v7 W.drew hk7 hn7) ?_; intro v8 w8 hR8)))
  all_goals
    have HR8 := hid hR8
    clear hR8 hn7 hk7
    go_wp2
    go_ret2
    exact ⟨v8, rfl, HR8.out⟩

end Go.Proofs.YticbbncdcannlaaGreat

/- The program's space, walked at an array of int64: Fill, Values. -/
namespace Go.Proofs.YticbbncdcannlaaGreat
open Go.RowKit Go.Maps Go.ChangeMaps Go.MapKept

theorem Tryz.mReadI (a : Addr) (x : Value) (w : World) : (callMethod (.iface 127 (.pointer (some a))) "Read" #[x]).run Tryz.prog w = .ok (.enter 215 #[.pointer (some a), x]) w := by kernel_rfl

theorem Tryz.nReadI (a : Addr) (w : World) : (nilAhead 367 127 (.pointer (some a)) "Read").run Tryz.prog w = .ok (some false) w := by kernel_rfl

set_option maxRecDepth 100000 in
set_option maxHeartbeats 2000000 in
theorem xValuesI {T : Tags} {o : Nat} {w : World} {p : Nat} {L : XL} {X : XS} (h : XAt T o w p L X) (hd : Int) (x : XA) (hA : X.A hd = some x) (hk : x.kind = 2) (hg : GOk x.l x.t x.f X.c2.length) (hw : ∀ j, j < X.c2.length → IntKind.i64.wrap (nth X.c2 j) = nth X.c2 j) :
    Calls Tryz.prog 26 #[.pointer (some ⟨p, 0, none⟩), .int .i64 hd] w fun e w' => ∃ v, e = .returned (.tuple #[v, .int .i64 0]) ∧ NewI w w' v ((gc x.l x.t x.f x.l.length).map fun c => nth X.c2 c.toNat) := by
  have HF := hid (xfind_some h hd x hA (by omega))
  have hlen : (gc x.l x.t x.f x.l.length).length ≤ 1000000 := by
    have h1 := gc_length x.l x.t x.f hg.shape.2.1 x.l.length (Nat.le_refl _)
    rw [List.take_length] at h1
    have := hg.shape.2.2
    omega
  have HC : Hid (∀ W, Kp0 w W → Calls Tryz.prog 60 #[.agg (grC x.l x.t x.f).toArray] W fun e w' => ∃ v, e = .returned v ∧ (NewI W w' v (gc x.l x.t x.f x.l.length) ∧ Kp0 w w')) := fun W k =>
    (xcells_calls x.l x.t x.f _ W hg).mono (fun e w' ⟨v, h1, h2⟩ => ⟨v, h1, h2, by obtain ⟨_, _, _, _, h3, _⟩ := h2; exact Kp0.trans k h3⟩)
  generalize hP : gc x.l x.t x.f x.l.length = P at *
  have hin := hg.inside
  rw [hP] at hin
  have HR : Hid (∀ W vp W0, Kp0 w W → NewI W0 W vp P → Calls Tryz.prog 215 #[.pointer (some ⟨L.q2, 0, none⟩), vp] W fun e w' => ∃ v, e = .returned v ∧ NewI w w' v (P.map fun c => nth X.c2 c.toNat)) := fun W vp W0 k hn => by
    have hr0 : RdI W vp P := by obtain ⟨_, _, rfl, h1, _⟩ := hn; exact h1.rd
    refine (xReadI_calls (h.kp0 k).s2 P vp hr0 hin hw hlen).mono ?_
    rintro e w' ⟨v, rfl, ao, c, rfl, h1, h2, h3⟩
    exact ⟨_, rfl, ao, c, rfl, h1, Kp0.trans k h2, fun b hb => Nat.le_trans k.size (h3 b hb)⟩
  generalize (P.map fun c => nth X.c2 c.toNat) = V at *
  unfold grC at HC
  rw [hk, inVI] at HF
  unfold XA.cs at HF
  rw [hk] at HF
  have HMR := hid (Tryz.mReadI ⟨L.q2, 0, none⟩)
  clear h hA hg hw hlen hP hin
  go_enter Tryz.func26, Tryz.ntmps26
  go_wp2_with fail
  refine HF.out.mono ?_
  rintro e w2 ⟨rfl, hw⟩
  have HK := hid hw
  clear hw
  have HB : Hid ((w2.alloc (.cells #[.int .i64 2, .int .i64 x.buf, .int .i64 (nth x.l 0), .int .i64 (nth x.l 1), .int .i64 (nth x.l 2), .int .i64 (nth x.l 3), .int .i64 (x.l.length : Int), .int .i64 x.f, .int .i64 (nth x.t 0), .int .i64 (nth x.t 1), .int .i64 (nth x.t 2), .int .i64 (nth x.t 3), .bool x.ro] 109)).heap[w2.heap.size]? = some (.cells #[.int .i64 2, .int .i64 x.buf, .int .i64 (nth x.l 0), .int .i64 (nth x.l 1), .int .i64 (nth x.l 2), .int .i64 (nth x.l 3), .int .i64 (x.l.length : Int), .int .i64 x.f, .int .i64 (nth x.t 0), .int .i64 (nth x.t 1), .int .i64 (nth x.t 2), .int .i64 (nth x.t 3), .bool x.ro] 109 (0, 0))) := heap_alloc_new w2 _
  have HKW : Hid (Kp0 w (w2.alloc (.cells #[.int .i64 2, .int .i64 x.buf, .int .i64 (nth x.l 0), .int .i64 (nth x.l 1), .int .i64 (nth x.l 2), .int .i64 (nth x.l 3), .int .i64 (x.l.length : Int), .int .i64 x.f, .int .i64 (nth x.t 0), .int .i64 (nth x.t 1), .int .i64 (nth x.t 2), .int .i64 (nth x.t 3), .bool x.ro] 109))) := HK.out.alloc _
  go_wp2
  generalize w2.alloc (.cells #[.int .i64 2, .int .i64 x.buf, .int .i64 (nth x.l 0), .int .i64 (nth x.l 1), .int .i64 (nth x.l 2), .int .i64 (nth x.l 3), .int .i64 (x.l.length : Int), .int .i64 x.f, .int .i64 (nth x.t 0), .int .i64 (nth x.t 1), .int .i64 (nth x.t 2), .int .i64 (nth x.t 3), .bool x.ro] 109) = W at HB HKW ⊢
  generalize w2.heap.size = b at HB ⊢
  obtain ⟨z0, z1, z2, z3, z4, z5, z6, z7, z8, z9, z10, z11, z12⟩ := cells13 HB.out
  have HKD : Hid (Kp0 w W.drew) := HKW.out.drew
  have hna := Tryz.nReadI ⟨L.q2, 0, none⟩
  go_region_law ((first
    | (refine step_call1 (by rfl) 60 (.tmp 21) _ (by rfl) _ Tryz.func60 (by kernel_rfl) (by kernel_rfl) _ (by rfl) (HC.out _ HKD.out) ?_; intro v7 w7 hR; obtain ⟨hn7, hk7⟩ := hR)
    | (refine step_invoke1 (by rfl) (.tmp 25) "Read" (.tmp 22) _ (by rfl) _ v7 (by rfl) (by rfl) _ _ (HMR.out v7 w7) (HR.out w7 v7 W.drew hk7 hn7) ?_; intro v8 w8 hR8)))
  all_goals
    have HR8 := hid hR8
    clear hR8 hn7 hk7
    go_wp2
    go_ret2
    exact ⟨v8, rfl, HR8.out⟩

end Go.Proofs.YticbbncdcannlaaGreat

/- The program's calls in the document's words: Get, Set, Fill, Values, Look. -/
namespace Go.Proofs.YticbbncdcannlaaGreat
open Go.RowKit

/-- The program's space holds the document's state. -/
def XRep (T : Tags) (o : Nat) (w : World) (p : Nat) (σ : Sp) : Prop := σ.ok ∧ ∃ L X, XAt T o w p L X ∧ Tie X (Maps.size L.D) σ

theorem XRep.kp {T : Tags} {o : Nat} {Z : Nat → Prop} {w w' : World} {p : Nat} {σ : Sp} (h : XRep T o w p σ) (k : Kp Z w w') (hs : ∀ b, (T b).1 = o → ¬ Z b) : XRep T o w' p σ := by
  obtain ⟨h1, L, X, h2, h3⟩ := h
  exact ⟨h1, L, X, h2.kp k hs, h3⟩
theorem XRep.tags {T T' : Tags} {o : Nat} {w : World} {p : Nat} {σ : Sp} (h : XRep T o w p σ) (k : TagsTo w T T') : XRep T' o w p σ := by
  obtain ⟨h1, L, X, h2, h3⟩ := h
  exact ⟨h1, L, X, h2.tags k, h3⟩

theorem XRep.stay {T : Tags} {o : Nat} {w w' : World} {p : Nat} {σ : Sp} (h : XRep T o w p σ) (k : Kp0 w w') : Step XRep T o w p σ w' :=
  ⟨T, fun _ _ => rfl, h.kp k (fun _ _ e => e), Kp.of0 k⟩

theorem XRep.stayL {T : Tags} {o : Nat} {w w' : World} {p : Nat} {σ : Sp} {v : Value} {xs : List Int} (t : Nat × Nat) (h : XRep T o w p σ) (hn : NewI w w' v xs) : StepL XRep T o w p σ w' t v xs := by
  obtain ⟨ao, c, rfl, h1, h2, h3⟩ := hn
  exact ⟨retag w T t, retag_to w T t, (h.tags (retag_to w T t)).kp h2 (fun _ _ e => e), Kp.of0 h2, ao, c, rfl, h1, fun b hb => retag_new (h3 b hb), h3⟩

theorem kind_of {σ : Sp} (hok : σ.ok) {h : Int} {a : Arr} (hf : σ.find h = some a) : a.ok σ := by
  unfold Sp.find at hf
  split at hf
  · have hg : σ.arrs[ix h]? = some (some a) := by
      cases e : σ.arrs[ix h]? with
      | none => simp [List.getD, e] at hf
      | some y => simp [List.getD, e] at hf; rw [hf]
    exact hok.arr _ a hg
  · cases hf

theorem xc_set {T : Tags} {o : Nat} {w : World} {p : Nat} {σ : Sp} (h v : Int) (vi : Value) (i : List Int) (hR : XRep T o w p σ) (hr : RdI w vi i) (hv : IntKind.i64.wrap v = v) :
    Calls Tryz.prog 36 #[.pointer (some ⟨p, 0, none⟩), .int .i64 h, .int .i64 v, vi] w fun e w' => e = .returned (.int .i64 (σ.set h v i).2) ∧ Step XRep T o w p (σ.set h v i).1 w' := by
  have hR' := hR
  obtain ⟨hok, L, X, hX, hT⟩ := hR
  cases hf : σ.find h with
  | none =>
    have hres : σ.set h v i = (σ, 2) := by simp [Sp.set, hf]
    rw [hres]
    refine (xSet_none hX h v vi (hT.non h hf)).mono ?_
    rintro e w' ⟨rfl, hk⟩
    exact ⟨rfl, hR'.stay hk⟩
  | some a =>
    obtain ⟨x, hA, hx⟩ := hT.som h a hf
    have ha := kind_of hok hf
    have hkd : x.kind = 1 ∨ x.kind = 2 := by rw [hx.kind]; exact ha.kind
    cases hro : x.ro with
    | true =>
      have hres : σ.set h v i = (σ, 6) := by simp [Sp.set, hf, ← hx.ro, hro]
      rw [hres]
      refine (xSet_ro hX h v vi x hA hkd hro).mono ?_
      rintro e w' ⟨rfl, hk⟩
      exact ⟨rfl, hR'.stay hk⟩
    | false =>
      cases hin : inBb x.l i with
      | false =>
        have hrk := hx.none i hin
        have hres : σ.set h v i = (σ, 5) := by simp [Sp.set, hf, ← hx.ro, hro, hrk]
        rw [hres]
        rcases ha.kind with hk | hk
        · refine (xSetNoB hX h v x hA (by rw [hx.kind, hk]) hro vi i hr hx.g.shape.1 hin).mono ?_
          rintro e w' ⟨rfl, hk'⟩
          exact ⟨rfl, hR'.stay hk'⟩
        · refine (xSetNoI hX h v x hA (by rw [hx.kind, hk]) hro vi i hr hx.g.shape.1 hin).mono ?_
          rintro e w' ⟨rfl, hk'⟩
          exact ⟨rfl, hR'.stay hk'⟩
      | true =>
        obtain ⟨r1, r2, r3⟩ := hx.at i hin
        have hbd := ha.inside _ r2
        have htk := hx.taken hf _ r2
        have hres : σ.set h v i = (σ.put a.kind (nth a.cells (rank a.shape i).toNat).toNat (asK a.kind v), 0) := by
          simp only [Sp.set, hf]
          rw [if_neg (by rw [← hx.ro, hro]; simp), if_neg (by omega)]
        rw [hres]
        rcases ha.kind with hk | hk
        · have hg := hx.g
          rw [hk, ← hT.k1.len] at hg
          rw [hk] at htk hbd ⊢
          have hw1 : IntKind.wrap .u8 v = asK 1 v := by rw [wrap_u8]; simp [asK]
          have hn := hT.putB hok (nth a.cells (rank a.shape i).toNat).toNat (by omega) (by rw [show (((nth a.cells (rank a.shape i).toNat).toNat : Nat) : Int) = nth a.cells (rank a.shape i).toNat by omega]; exact htk) (asK 1 v) (by simp only [asK, if_true]; omega)
          refine (xSetYesB hX h v x hA (by rw [hx.kind, hk]) hro vi i hr hg hin hv).mono ?_
          rintro e w' ⟨rfl, hk', hX'⟩
          rw [← r3, hw1] at hX'
          exact ⟨rfl, T, fun _ _ => rfl, (⟨put_ok hok _ _ _, L, _, hX', hn⟩ : XRep T o w' p (σ.put _ _ _)), hk'⟩
        · have hg := hx.g
          rw [hk, ← hT.k2.len] at hg
          rw [hk] at htk hbd ⊢
          have hw2 : IntKind.wrap .i64 v = asK 2 v := by rw [hv]; simp [asK]
          have hn := hT.putI hok (nth a.cells (rank a.shape i).toNat).toNat (by omega) (by rw [show (((nth a.cells (rank a.shape i).toNat).toNat : Nat) : Int) = nth a.cells (rank a.shape i).toNat by omega]; exact htk) (asK 2 v) (by rw [← hw2, hv]; exact hv)
          refine (xSetYesI hX h v x hA (by rw [hx.kind, hk]) hro vi i hr hg hin hv).mono ?_
          rintro e w' ⟨rfl, hk', hX'⟩
          rw [← r3, hw2] at hX'
          exact ⟨rfl, T, fun _ _ => rfl, (⟨put_ok hok _ _ _, L, _, hX', hn⟩ : XRep T o w' p (σ.put _ _ _)), hk'⟩

theorem values_eq {σ : Sp} {h : Int} {a : Arr} {x : XA} (hx : ATie σ a x) (hf : σ.find h = some a) (ha : a.ok σ) {c : List Int} {bs : List (Int × Int)} (hk : KTie σ a.kind c bs) : ((gc x.l x.t x.f x.l.length).map fun y => nth c y.toNat) = σ.valuesOf a := by
  rw [hx.cells]
  unfold Sp.valuesOf
  apply List.map_congr_left
  intro y hy
  obtain ⟨j, hj, e⟩ := List.getElem_of_mem hy
  have e' : nth a.cells j = y := by rw [nth_lt hj]; exact e
  have h1 := ha.inside j hj
  have h2 := hx.taken hf j hj
  rw [e'] at h1 h2
  exact hk.at y h1.1 h1.2 h2

theorem xc_values {T : Tags} {o : Nat} {w : World} {p : Nat} {σ : Sp} (h : Int) (t : Nat × Nat) (hR : XRep T o w p σ) :
    Calls Tryz.prog 26 #[.pointer (some ⟨p, 0, none⟩), .int .i64 h] w fun e w' => ∃ v, e = .returned (.tuple #[v, .int .i64 (σ.values h).2]) ∧ StepL XRep T o w p σ w' t v (σ.values h).1 := by
  have hR' := hR
  obtain ⟨hok, L, X, hX, hT⟩ := hR
  cases hf : σ.find h with
  | none =>
    have hres : σ.values h = ([], 2) := by simp [Sp.values, hf]
    rw [hres]
    refine (xValues_none hX h (hT.non h hf)).mono ?_
    rintro e w' ⟨rfl, hk⟩
    exact ⟨_, rfl, hR'.stayL t (NewI.nil hk)⟩
  | some a =>
    obtain ⟨x, hA, hx⟩ := hT.som h a hf
    have ha := kind_of hok hf
    have hres : σ.values h = (σ.valuesOf a, 0) := by simp [Sp.values, hf]
    rw [hres]
    rcases ha.kind with hk | hk
    · have hg := hx.g
      rw [hk, ← hT.k1.len] at hg
      have hv := values_eq hx hf ha (c := X.c1) (bs := X.b1) (by rw [hk]; exact hT.k1)
      refine (xValuesB hX h x hA (by rw [hx.kind, hk]) hg (hT.k1.wrap (.inl rfl))).mono ?_
      rintro e w' ⟨v, rfl, hn⟩
      rw [hv] at hn
      exact ⟨v, rfl, hR'.stayL t hn⟩
    · have hg := hx.g
      rw [hk, ← hT.k2.len] at hg
      have hv := values_eq hx hf ha (c := X.c2) (bs := X.b2) (by rw [hk]; exact hT.k2)
      refine (xValuesI hX h x hA (by rw [hx.kind, hk]) hg (hT.k2.wrap (.inr rfl))).mono ?_
      rintro e w' ⟨v, rfl, hn⟩
      rw [hv] at hn
      exact ⟨v, rfl, hR'.stayL t hn⟩

theorem xc_look {T : Tags} {o : Nat} {w : World} {p : Nat} {σ : Sp} (h : Int) (t : Nat × Nat) (hR : XRep T o w p σ) :
    Calls Tryz.prog 49 #[.pointer (some ⟨p, 0, none⟩), .int .i64 h] w fun e w' => ∃ v, e = .returned (.tuple #[.agg #[.int .i64 (σ.look h).1, v, .bool (σ.look h).2.2.1], .int .i64 (σ.look h).2.2.2]) ∧ StepL XRep T o w p σ w' t v (σ.look h).2.1 := by
  have hR' := hR
  obtain ⟨hok, L, X, hX, hT⟩ := hR
  cases hf : σ.find h with
  | none =>
    have hres : σ.look h = (0, [], false, 2) := by simp [Sp.look, hf]
    rw [hres]
    refine (xLook_none hX h (hT.non h hf)).mono ?_
    rintro e w' ⟨rfl, hk⟩
    exact ⟨_, rfl, hR'.stayL t (NewI.nil hk)⟩
  | some a =>
    obtain ⟨x, hA, hx⟩ := hT.som h a hf
    have ha := kind_of hok hf
    have hres : σ.look h = (a.kind, a.shape, a.ro, 0) := by simp [Sp.look, hf]
    rw [hres]
    refine (xLook_some hX h x hA (by rw [hx.kind]; exact ha.kind) hx.g.shape.1).mono ?_
    rintro e w' ⟨v, rfl, hn⟩
    rw [hx.l] at hn
    exact ⟨v, by rw [hx.kind, hx.ro], hR'.stayL t hn⟩

end Go.Proofs.YticbbncdcannlaaGreat
