/- The cast: tells, walked. -/
import Derived.Deep.RegionHeld3
import Derived.Deep.Cut
import Derived.Test.YticbbncdcannlaaGreatG50
import Derived.Test.YticbbncdcannlaaGreatG04
import Derived.Test.YticbbncdcannlaaGreatG37
import Derived.Test.YticbbncdcannlaaGreatG44
import Derived.Deep.CutRange
import Derived.Test.YticbbncdcannlaaGreatG45

namespace Go.Proofs.YticbbncdcannlaaGreat
open Go.RowKit

theorem KM.look {σ : Sp} {E : List CE} {n : Nat} {V : List Int} {B : Nat} (h : KM σ E n V B) {i : Nat} {e : CE} (he : E[i]? = some e) : σ.look e.h = (2, e.shape, e.ro, 0) ∧ σ.values e.h = (e.told V, 0) := by
  constructor
  · unfold Sp.look
    rw [h.find he]
    rfl
  · unfold Sp.values
    rw [h.find he]
    simp only
    rw [h.told he]

/-- A list that no call of the space's changes. -/
def RdV (T : Tags) (w : World) (v : Value) (xs : List Int) : Prop := RdI w v xs ∧ ∀ b, v.ownBlock = some b → b < w.heap.size ∧ (T b).1 ≠ 1
end Go.Proofs.YticbbncdcannlaaGreat

/- The cast with the names of all its parts; what Meant reckons. -/
namespace Go.Proofs.YticbbncdcannlaaGreat
open Go.RowKit

/-- The cast, with the names of its parts and of all its arrays' lists. -/
structure CG (w0 w : World) (T : Tags) (pc ps : Nat) (σ : Sp) (E : List CE) (EL g1 g2 g3 g4 c1 c2 c3 c4 : Nat) (P : Nat → Option Addr × Nat × Option Addr × Nat) : Prop where
  ki : KI w0 w T pc ps σ E
  q0 : w.cell? ⟨pc, 0, none⟩ = some (.pointer (some ⟨ps, 0, none⟩))
  q1 : w.cell? ⟨pc, 1, none⟩ = some (.slice (some ⟨g1, 0, none⟩) EL c1)
  q2 : w.cell? ⟨pc, 2, none⟩ = some (.slice (some ⟨g2, 0, none⟩) EL c2)
  q3 : w.cell? ⟨pc, 3, none⟩ = some (.slice (some ⟨g3, 0, none⟩) EL c3)
  q4 : w.cell? ⟨pc, 4, none⟩ = some (.slice (some ⟨g4, 0, none⟩) EL c4)
  ent : ∀ (i : Nat) (e : CE), E[i]? = some e → w.cell? ⟨g1, i, none⟩ = some (.int .i64 e.h) ∧ w.cell? ⟨g4, i, none⟩ = some (.bool e.ro) ∧ w.cell? ⟨g2, i, none⟩ = some (.slice (P i).1 e.shape.length (P i).2.1) ∧ w.cell? ⟨g3, i, none⟩ = some (.slice (P i).2.2.1 e.ranks.length (P i).2.2.2) ∧ RdT T w (.slice (P i).1 e.shape.length (P i).2.1) e.shape ∧ RdT T w (.slice (P i).2.2.1 e.ranks.length (P i).2.2.2) e.ranks
  tg : (T pc).1 = 0 ∧ (T g1).1 = 0 ∧ (T g2).1 = 0 ∧ (T g3).1 = 0 ∧ (T g4).1 = 0
  lt : pc < w.heap.size ∧ g1 < w.heap.size ∧ g2 < w.heap.size ∧ g3 < w.heap.size ∧ g4 < w.heap.size

theorem KI.cg {w0 w : World} {T : Tags} {pc ps : Nat} {σ : Sp} {E : List CE} (h : KI w0 w T pc ps σ E) (h1 : 1 ≤ E.length) : ∃ g1 g2 g3 g4 c1 c2 c3 c4 P, CG w0 w T pc ps σ E E.length g1 g2 g3 g4 c1 c2 c3 c4 P := by
  obtain ⟨q0, g1, g2, g3, g4, c1, c2, c3, c4, hq, ht, hg⟩ := h.cells
  obtain ⟨q1, q2, q3, q4⟩ := hq (by omega)
  have key : ∀ i : Nat, ∃ p : Option Addr × Nat × Option Addr × Nat, ∀ e, E[i]? = some e → w.cell? ⟨g2, i, none⟩ = some (.slice p.1 e.shape.length p.2.1) ∧ w.cell? ⟨g3, i, none⟩ = some (.slice p.2.2.1 e.ranks.length p.2.2.2) ∧ RdT T w (.slice p.1 e.shape.length p.2.1) e.shape ∧ RdT T w (.slice p.2.2.1 e.ranks.length p.2.2.2) e.ranks := fun i => by
    cases he : E[i]? with
    | none => exact ⟨(none, 0, none, 0), fun e h => by cases h⟩
    | some e =>
      obtain ⟨u1, u4, a1, d1, a2, d2, u2, u3, r1, r2⟩ := hg i e he
      exact ⟨(a1, d1, a2, d2), fun e' h => by cases h; exact ⟨u2, u3, r1, r2⟩⟩
  obtain ⟨P, hP⟩ := Classical.axiomOfChoice key
  obtain ⟨e0, he0⟩ : ∃ e, E[0]? = some e := ⟨_, List.getElem?_eq_getElem (by omega)⟩
  obtain ⟨u1, u4, a1, d1, a2, d2, u2, u3, -, -⟩ := hg 0 e0 he0
  refine ⟨g1, g2, g3, g4, c1, c2, c3, c4, P, h, q0, q1, q2, q3, q4, fun i e he => ?_, ht (by omega), block_lt_of_cell q0, block_lt_of_cell u1, block_lt_of_cell u2, block_lt_of_cell u3, block_lt_of_cell u4⟩
  obtain ⟨v1, v4, -⟩ := hg i e he
  obtain ⟨v2, v3, r1, r2⟩ := hP i e he
  exact ⟨v1, v4, v2, v3, r1, r2⟩

section
variable {w0 w w' : World} {T T' : Tags} {pc ps : Nat} {σ σ' : Sp} {E : List CE} {EL g1 g2 g3 g4 c1 c2 c3 c4 : Nat} {P : Nat → Option Addr × Nat × Option Addr × Nat}

theorem CG.goes (h : CG w0 w T pc ps σ E EL g1 g2 g3 g4 c1 c2 c3 c4 P) {Z : Nat → Prop} (ht : TagsTo w T T') (hr : XRep T' 1 w' ps σ') (kk : Kp Z w w') (hz : ∀ b, b < w.heap.size → Z b → (T b).1 ≠ 0) : CG w0 w' T' pc ps σ' E EL g1 g2 g3 g4 c1 c2 c3 c4 P := by
  obtain ⟨l0, l1, l2, l3, l4⟩ := h.lt
  have n0 : ∀ b, b < w.heap.size → (T b).1 = 0 → ¬ Z b := fun b hb h0 z => hz b hb z h0
  refine ⟨h.ki.goes ht hr kk hz, kk.cell h.q0 (n0 _ l0 h.tg.1), kk.cell h.q1 (n0 _ l0 h.tg.1), kk.cell h.q2 (n0 _ l0 h.tg.1), kk.cell h.q3 (n0 _ l0 h.tg.1), kk.cell h.q4 (n0 _ l0 h.tg.1), fun i e he => ?_,
    by rw [ht _ l0, ht _ l1, ht _ l2, ht _ l3, ht _ l4]; exact h.tg, Nat.lt_of_lt_of_le l0 kk.size, Nat.lt_of_lt_of_le l1 kk.size, Nat.lt_of_lt_of_le l2 kk.size, Nat.lt_of_lt_of_le l3 kk.size, Nat.lt_of_lt_of_le l4 kk.size⟩
  obtain ⟨u1, u4, u2, u3, r1, r2⟩ := h.ent i e he
  exact ⟨kk.cell u1 (n0 _ l1 h.tg.2.1), kk.cell u4 (n0 _ l4 h.tg.2.2.2.2), kk.cell u2 (n0 _ l2 h.tg.2.2.1), kk.cell u3 (n0 _ l3 h.tg.2.2.2.1),
    r1.kp ht kk (fun b i hb _ e z => hz b hb z (by rw [e])), r2.kp ht kk (fun b i hb _ e z => hz b hb z (by rw [e]))⟩

theorem CG.kp0 (h : CG w0 w T pc ps σ E EL g1 g2 g3 g4 c1 c2 c3 c4 P) (ht : TagsTo w T T') (kk : Kp0 w w') : CG w0 w' T' pc ps σ E EL g1 g2 g3 g4 c1 c2 c3 c4 P :=
  h.goes ht ((h.ki.rep.tags ht).kp kk (fun _ _ e => e)) kk (fun _ _ e => e.elim)

theorem CG.step (h : CG w0 w T pc ps σ E EL g1 g2 g3 g4 c1 c2 c3 c4 P) (hs : Step XRep T 1 w ps σ' w') : ∃ T', TagsTo w T T' ∧ CG w0 w' T' pc ps σ' E EL g1 g2 g3 g4 c1 c2 c3 c4 P ∧ Kp (fun b => (T b).1 = 1) w w' := by
  obtain ⟨T', h1, h2, h3⟩ := hs
  exact ⟨T', h1, h.goes h1 h2 h3 (fun b _ e => by rw [e]; simp), h3⟩

theorem CG.stepL (h : CG w0 w T pc ps σ E EL g1 g2 g3 g4 c1 c2 c3 c4 P) {v : Value} {xs : List Int} (hs : StepL XRep T 1 w ps σ' w' (0, 16) v xs) : ∃ T' ao c, v = .slice ao xs.length c ∧ TagsTo w T T' ∧ CG w0 w' T' pc ps σ' E EL g1 g2 g3 g4 c1 c2 c3 c4 P ∧ Kp (fun b => (T b).1 = 1) w w' ∧ RdT T' w' (.slice ao xs.length c) xs := by
  obtain ⟨T', h1, h2, h3, ao, c, rfl, h4, h5, h6⟩ := hs
  exact ⟨T', ao, c, rfl, h1, h.goes h1 h2 h3 (fun b _ e => by rw [e]; simp), h3, h4.rd, fun b hb => ⟨own_lt h4 hb, 16, ⟨Nat.le_refl _, h4.cap⟩, h5 b hb⟩⟩

/-- The cells of an array's ranks. -/
theorem CG.rk (h : CG w0 w T pc ps σ E EL g1 g2 g3 g4 c1 c2 c3 c4 P) {i : Nat} {e : CE} (he : E[i]? = some e) (hp : 0 < e.ranks.length) : ∃ gr og, (P i).2.2.1 = some ⟨gr, og, none⟩ ∧ ∀ j, j < e.ranks.length → w.cell? ⟨gr, og + j, none⟩ = some (.int .i64 (nth e.ranks j)) := by
  obtain ⟨-, -, -, -, -, r2⟩ := h.ent i e he
  obtain ⟨a, c, ev, hh⟩ := rd_parts r2.1
  obtain ⟨g, o, rfl, hc⟩ := hh hp
  simp at ev
  exact ⟨g, o, ev.1, hc⟩
end

end Go.Proofs.YticbbncdcannlaaGreat

/- The cast: what writes keeps to while it goes. -/
namespace Go.Proofs.YticbbncdcannlaaGreat
open Go.RowKit

/-- What a write leaves: the cast, with values that a list in memory tells. -/
def Wrote (w0 w : World) (T : Tags) (pc ps n : Nat) (E : List CE) (B : Nat) (v : Value) (w' : World) : Prop :=
  ∃ T' σ' V', TagsTo w T T' ∧ KI w0 w' T' pc ps σ' E ∧ KM σ' E n V' B ∧ RdV T' w' v V'

/-- While a write goes: the cast, the write's own numbers, the list of the values as they were, the list of those that they must be. -/
structure WG (w0 w : World) (T : Tags) (W : World) (T1 : Tags) (pc ps : Nat) (σ : Sp) (E : List CE) (EL g1 g2 g3 g4 c1 c2 c3 c4 : Nat) (P : Nat → Option Addr × Nat × Option Addr × Nat) (A gN cN n : Nat) (V' : List Int) (d : VD) (gv ov : Nat) (V : List Int) : Prop where
  cg : CG w0 W T1 pc ps σ E EL g1 g2 g3 g4 c1 c2 c3 c4 P
  tt : TagsTo w T T1
  sz : w.heap.size ≤ W.heap.size
  tA : T1 A = (2, 0)
  tN : T1 gN = (2, 0)
  ne : A ≠ gN
  box : ∀ (f : Nat) (x : Value), d.cells[f]? = some x → W.cell? ⟨A, f, none⟩ = some x
  own : OwI W (.slice (some ⟨gN, 0, none⟩) n cN) V'
  len : V'.length = n
  val : ∀ j, j < n → W.cell? ⟨gv, ov + j, none⟩ = some (.int .i64 (nth V j))
  tv : gv < w.heap.size ∧ (T gv).1 ≠ 1
  gn : w.heap.size ≤ gN

section
variable {w0 w W W' : World} {T T1 T2 : Tags} {pc ps : Nat} {σ σ' : Sp} {E : List CE} {EL g1 g2 g3 g4 c1 c2 c3 c4 : Nat} {P : Nat → Option Addr × Nat × Option Addr × Nat} {A gN cN n : Nat} {V' : List Int} {d : VD} {gv ov : Nat} {V : List Int} {B : Nat}

theorem WG.goes (h : WG w0 w T W T1 pc ps σ E EL g1 g2 g3 g4 c1 c2 c3 c4 P A gN cN n V' d gv ov V) (ht : TagsTo W T1 T2) (hr : XRep T2 1 W' ps σ') (k : Kp (fun b => (T1 b).1 = 1) W W') : WG w0 w T W' T2 pc ps σ' E EL g1 g2 g3 g4 c1 c2 c3 c4 P A gN cN n V' d gv ov V := by
  have lN : gN < W.heap.size := own_lt h.own rfl
  have lA : A < W.heap.size := block_lt_of_cell (h.box 0 _ rfl)
  exact ⟨h.cg.goes ht hr k (fun b _ e => by rw [e]; simp), fun b hb => by rw [ht b (Nat.lt_of_lt_of_le hb h.sz)]; exact h.tt b hb, Nat.le_trans h.sz k.size, by rw [ht _ lA]; exact h.tA, by rw [ht _ lN]; exact h.tN, h.ne,
    fun f x hx => k.cell (h.box f x hx) (by rw [h.tA]; simp), h.own.kp k (fun b hb e => by
      have hb' : gN = b := by simpa [Value.ownBlock] using hb
      rw [← hb', h.tN] at e
      simp at e), h.len, fun j hj => k.cell (h.val j hj) (by rw [h.tt _ h.tv.1]; exact h.tv.2), h.tv, h.gn⟩

theorem WG.kp0 (h : WG w0 w T W T1 pc ps σ E EL g1 g2 g3 g4 c1 c2 c3 c4 P A gN cN n V' d gv ov V) (k : Kp0 W W') : WG w0 w T W' T1 pc ps σ E EL g1 g2 g3 g4 c1 c2 c3 c4 P A gN cN n V' d gv ov V :=
  h.goes (fun _ _ => rfl) (h.cg.ki.rep.kp k (fun _ _ e => e)) (Kp.of0 k)
theorem WG.drew (h : WG w0 w T W T1 pc ps σ E EL g1 g2 g3 g4 c1 c2 c3 c4 P A gN cN n V' d gv ov V) : WG w0 w T W.drew T1 pc ps σ E EL g1 g2 g3 g4 c1 c2 c3 c4 P A gN cN n V' d gv ov V := h.kp0 (Kp0.refl _).drew
theorem WG.at (h : WG w0 w T W T1 pc ps σ E EL g1 g2 g3 g4 c1 c2 c3 c4 P A gN cN n V' d gv ov V) (c : Nat) (hc : c < n) : W.cell? ⟨gN, c, none⟩ = some (.int .i64 (nth V' c)) ∧ W.frozen? ⟨gN, c, none⟩ = false := by
  obtain ⟨g, e, -, h1, h2⟩ := h.own.store c 0 (by rw [h.len]; exact hc)
  simp at e
  subst e
  exact ⟨h1, h2⟩

theorem WG.store (h : WG w0 w T W T1 pc ps σ E EL g1 g2 g3 g4 c1 c2 c3 c4 P A gN cN n V' d gv ov V) (c : Nat) (hc : c < n) (v : Int) : WG w0 w T (W.setCell ⟨gN, c, none⟩ (.int .i64 v)) T1 pc ps σ E EL g1 g2 g3 g4 c1 c2 c3 c4 P A gN cN n (V'.set c v) d gv ov V := by
  have k : Kp (fun b => b = gN) W (W.setCell ⟨gN, c, none⟩ (.int .i64 v)) := (Kp.refl _ _).setCell _ _ (fun _ => rfl)
  exact ⟨h.cg.goes (fun _ _ => rfl) (h.cg.ki.rep.kp k (fun b e z => by rw [z, h.tN] at e; cases e)) k (fun b _ e => by rw [e, h.tN]; simp), h.tt, Nat.le_trans h.sz k.size, h.tA, h.tN, h.ne,
    fun f x hx => k.cell (h.box f x hx) h.ne, h.own.set c hc v, by rw [List.length_set]; exact h.len, fun j hj => k.cell (h.val j hj) (fun e => by
      have h1 := h.tv.1
      have h2 := h.gn
      have h3 : gv = gN := e
      omega), h.tv, h.gn⟩

theorem WG.new (h : WG w0 w T W T1 pc ps σ E EL g1 g2 g3 g4 c1 c2 c3 c4 P A gN cN n V' d gv ov V) (hM : KM σ E n V' B) : Wrote w0 w T pc ps n E B (.slice (some ⟨gN, 0, none⟩) n cN) W :=
  ⟨T1, σ, V', h.tt, h.cg.ki, hM, h.own.rd, fun b hb => ⟨own_lt h.own hb, by
    have hb' : gN = b := by simpa [Value.ownBlock] using hb
    rw [← hb', h.tN]
    simp⟩⟩

/-- The cells of an array's ranks, where they are known to lie. -/
theorem CG.rkc (h : CG w0 w T pc ps σ E EL g1 g2 g3 g4 c1 c2 c3 c4 P) {i : Nat} {e : CE} (he : E[i]? = some e) {gr og RL : Nat} (hp : (P i).2.2.1 = some ⟨gr, og, none⟩) (hl : e.ranks.length = RL) (j : Nat) (hj : j < RL) : w.cell? ⟨gr, og + j, none⟩ = some (.int .i64 (nth e.ranks j)) := by
  obtain ⟨gr', og', e1, e2⟩ := h.rk he (by omega)
  rw [hp] at e1
  simp at e1
  obtain ⟨rfl, rfl⟩ := e1
  exact e2 j (by omega)

end

end Go.Proofs.YticbbncdcannlaaGreat

/- The cast: alike, walked. -/
namespace Go.Proofs.YticbbncdcannlaaGreat
open Go.RowKit

/-- From w on, the space's calls alone have changed what there was: the cast as it stands. -/
structure BG (w0 w : World) (T : Tags) (W : World) (T1 : Tags) (pc ps : Nat) (σ : Sp) (E : List CE) (EL g1 g2 g3 g4 c1 c2 c3 c4 : Nat) (P : Nat → Option Addr × Nat × Option Addr × Nat) : Prop where
  cg : CG w0 W T1 pc ps σ E EL g1 g2 g3 g4 c1 c2 c3 c4 P
  tt : TagsTo w T T1
  kp : Kp (fun b => (T b).1 = 1) w W

section
variable {w0 w W W' : World} {T T1 T2 : Tags} {pc ps : Nat} {σ σ' : Sp} {E F : List CE} {EL g1 g2 g3 g4 c1 c2 c3 c4 : Nat} {P : Nat → Option Addr × Nat × Option Addr × Nat} {n : Nat} {V : List Int} {B : Nat}

theorem CG.bg (h : CG w0 w T pc ps σ E EL g1 g2 g3 g4 c1 c2 c3 c4 P) : BG w0 w T w T pc ps σ E EL g1 g2 g3 g4 c1 c2 c3 c4 P := ⟨h, fun _ _ => rfl, Kp.refl _ _⟩

theorem BG.trans (h : BG w0 w T W T1 pc ps σ E EL g1 g2 g3 g4 c1 c2 c3 c4 P) (h2 : BG w0 W T1 W' T2 pc ps σ' E EL g1 g2 g3 g4 c1 c2 c3 c4 P) : BG w0 w T W' T2 pc ps σ' E EL g1 g2 g3 g4 c1 c2 c3 c4 P :=
  ⟨h2.cg, fun b hb => by rw [h2.tt b (Nat.lt_of_lt_of_le hb h.kp.size)]; exact h.tt b hb, h.kp.trans h2.kp (fun b hb e => by rw [h.tt b hb] at e; exact e)⟩

theorem BG.kp0 (h : BG w0 w T W T1 pc ps σ E EL g1 g2 g3 g4 c1 c2 c3 c4 P) (ht : TagsTo W T1 T2) (k : Kp0 W W') : BG w0 w T W' T2 pc ps σ E EL g1 g2 g3 g4 c1 c2 c3 c4 P :=
  h.trans ⟨h.cg.kp0 ht k, ht, Kp.of0 k⟩

theorem CG.bgs (h : CG w0 W T1 pc ps σ E EL g1 g2 g3 g4 c1 c2 c3 c4 P) (hs : Step XRep T1 1 W ps σ' W') : ∃ T2, BG w0 W T1 W' T2 pc ps σ' E EL g1 g2 g3 g4 c1 c2 c3 c4 P := by
  obtain ⟨T2, h1, h2, h3⟩ := h.step hs
  exact ⟨T2, h2, h1, h3⟩

theorem RdT.bg {v : Value} {xs : List Int} (h : RdT T1 W v xs) (hb : BG w0 W T1 W' T2 pc ps σ' E EL g1 g2 g3 g4 c1 c2 c3 c4 P) : RdT T2 W' v xs :=
  h.kp hb.tt hb.kp (fun b i _ _ e z => by rw [e] at z; simp at z)

end

end Go.Proofs.YticbbncdcannlaaGreat

/- The cast: one more array in the space that the cast doesn't know of. -/
namespace Go.Proofs.YticbbncdcannlaaGreat
open Go.RowKit

/-- One of them. -/
def In (F : List CE) (e : CE) : Prop := ∃ i : Nat, F[i]? = some e

section
variable {w0 w W W' : World} {T T1 T2 : Tags} {pc ps : Nat} {σ σ' : Sp} {E F : List CE} {EL g1 g2 g3 g4 c1 c2 c3 c4 : Nat} {P : Nat → Option Addr × Nat × Option Addr × Nat} {n : Nat} {V : List Int} {B : Nat}

end

theorem CG.shc {w0 w : World} {T : Tags} {pc ps : Nat} {σ : Sp} {E : List CE} {EL g1 g2 g3 g4 c1 c2 c3 c4 : Nat} {P : Nat → Option Addr × Nat × Option Addr × Nat} (h : CG w0 w T pc ps σ E EL g1 g2 g3 g4 c1 c2 c3 c4 P) {i : Nat} {e : CE} (he : E[i]? = some e) {gs os m : Nat} (hp : (P i).1 = some ⟨gs, os, none⟩) (hl : e.shape.length = m) (j : Nat) (hj : j < m) : w.cell? ⟨gs, os + j, none⟩ = some (.int .i64 (nth e.shape j)) := by
  obtain ⟨-, -, -, -, r1, -⟩ := h.ent i e he
  rw [hp] at r1
  obtain ⟨a, c, ev, hh⟩ := rd_parts r1.1
  obtain ⟨g, o, rfl, hc⟩ := hh (by omega)
  simp at ev
  obtain ⟨⟨rfl, rfl⟩, -⟩ := ev
  exact hc j (by omega)

end Go.Proofs.YticbbncdcannlaaGreat

/- The law Folded, walked. -/
namespace Go.Proofs.YticbbncdcannlaaGreat
open Go.RowKit

theorem foldOp_nth (q : Nat) (h : q < 4) : foldOp (nth [1, 3, 4, 5] q) := by
  match q, h with
  | 0, _ => exact .inl rfl
  | 1, _ => exact .inr (.inl rfl)
  | 2, _ => exact .inr (.inr (.inl rfl))
  | 3, _ => exact .inr (.inr (.inr rfl))

theorem foldOp.bd {o : Int} (h : foldOp o) : 1 ≤ o ∧ o ≤ 5 := by rcases h with rfl | rfl | rfl | rfl <;> omega

/-- The front and the back of a list in memory. -/
theorem rd_front {w : World} {gs os m b c : Nat} {xs : List Int} (hl : xs.length = m) (h : ∀ j, j < m → w.cell? ⟨gs, os + j, none⟩ = some (.int .i64 (nth xs j))) (hb : b ≤ m) : RdI w (.slice (some ⟨gs, os, none⟩) b c) (xs.take b) := by
  have hlen : (xs.take b).length = b := by simp; omega
  refine ⟨some ⟨gs, os, none⟩, c, by rw [hlen], fun _ => ⟨gs, os, rfl, fun j hj => ?_⟩⟩
  rw [hlen] at hj
  rw [h j (by omega)]
  unfold nth List.getD
  rw [List.getElem?_take_of_lt hj]
theorem rd_back {w : World} {gs os m b c : Nat} {xs : List Int} (hl : xs.length = m) (h : ∀ j, j < m → w.cell? ⟨gs, os + j, none⟩ = some (.int .i64 (nth xs j))) (hb : b ≤ m) : RdI w (.slice (some ⟨gs, os + b, none⟩) (m - b) c) (xs.drop b) := by
  have hlen : (xs.drop b).length = m - b := by simp; omega
  refine ⟨some ⟨gs, os + b, none⟩, c, by rw [hlen], fun _ => ⟨gs, os + b, rfl, fun j hj => ?_⟩⟩
  rw [hlen] at hj
  have := h (b + j) (by omega)
  rw [show os + b + j = os + (b + j) by omega, this]
  unfold nth List.getD
  rw [List.getElem?_drop]
theorem rd_none {w : World} {a : Option Addr} {c m b : Nat} {xs : List Int} (hl : xs.length = m) (hb : m ≤ b) : RdI w (.slice a 0 c) (xs.drop b) := by
  have : xs.drop b = [] := List.drop_of_length_le (by omega)
  rw [this]
  exact ⟨a, c, rfl, fun h => absurd rfl h⟩

set_option maxRecDepth 100000 in
set_option maxHeartbeats 8000000 in
theorem foldedLaw_calls (w : World) (va : Value) (raw : List Int) (hr : RdI w va raw) (hb : raw.length ≤ 1000000000) (hwf : ∀ j, j < raw.length → IntKind.i64.wrap (nth raw j) = nth raw j) (aS : Option Addr) (N cS : Nat) (vs : List VD) (hN : vs.length = N) (hS : 0 < N → ∃ g off, aS = some ⟨g, off, none⟩ ∧ VS w g off vs) (hNb : N ≤ 50000000) (which op axis : Int) (wl : IntKind.i64.wrap which = which) (wo : IntKind.i64.wrap op = op) (wx : IntKind.i64.wrap axis = axis) :
    Calls Tryz.prog 9 #[va, .slice aS N cS, .int .i64 which, .int .i64 op, .int .i64 axis] w fun e w' => e = .returned (.bool true) ∧ Kp0 w w' := by
  obtain ⟨n, hn⟩ : ∃ n, (vol (sizesOf raw)).toNat = n := ⟨_, rfl⟩
  have hsh := sizesOf_shape raw
  have HBG := hid (began_calls w va raw hr hb hwf n hn)
  have HKM0 : Hid ((bg (sizesOf raw) n n).ok → KM (bg (sizesOf raw) n n) [⟨1, sizesOf raw, rng 0 n, false⟩] n (rng 100 n) 1) := hid (fun hok => bg_km _ hsh.1 n hn (by have := hsh.2; omega) hok)
  have HS := hid hS
  have HN := hid hN
  have HWL := hid wl
  have HWO := hid wo
  have HWX := hid wx
  clear hr hb hwf hS hN hsh hn wl wo wx
  go_enter Tryz.func9, Tryz.ntmps9
  go_wp2_with fail
  refine HBG.out.mono ?_
  rintro e w1 ⟨pc, ps, T1, rfl, hI1⟩
  have HC1 : Hid (Casts w w1 pc ps n (rng 100 n) 1) := hid ⟨T1, _, _, hI1, HKM0.out hI1.ok, by simp, by simp⟩
  clear hI1 HBG HKM0
  go_wp2_with fail
  refine (plays_calls HC1.out aS N cS vs HN.out HS.out (by omega)).mono ?_
  rintro e w2 ⟨rfl, T2, σ, E, hI2, hM, hE1, hE30⟩
  obtain ⟨g1, g2, g3, g4, c1, c2, c3, c4, P, hcg⟩ := hI2.cg hE1
  obtain ⟨EL, hEL⟩ : ∃ EL, E.length = EL := ⟨_, rfl⟩
  rw [hEL] at hcg hE1 hE30
  have HEL := hid hEL
  have HM := hid hM
  have HCG := hid hcg
  obtain ⟨B0, hB⟩ : ∃ B0, 1 + N = B0 := ⟨_, rfl⟩
  have hB0 : B0 ≤ 60000000 := by omega
  rw [hB] at HM
  clear hB
  have q1 := hcg.q1
  have hpl := pick_small (c := which) (n := (EL : Int)) (by omega)
  obtain ⟨k, hk⟩ : ∃ k : Nat, pickN which (EL : Int) = (k : Int) := ⟨(pickN which (EL : Int)).toNat, by omega⟩
  have hkE : k < EL := by omega
  have k0 : (0 : Int) ≤ (k : Int) := by omega
  have k1 : (k : Int) < (EL : Int) := by omega
  clear hI2 hM hcg hEL HC1
  go_wp2_with fail
  refine (pick_calls which (EL : Int) w2 HWL.out (by omega)).mono ?_
  rintro e w' ⟨rfl, hw⟩
  obtain rfl := hw.symm
  rw [hk]
  clear hk hpl q1
  obtain ⟨e, he⟩ : ∃ e, E[k]? = some e := ⟨_, List.getElem?_eq_getElem (by have := HEL.out; omega)⟩
  have HE := hid he
  obtain ⟨m, hm⟩ : ∃ m, e.shape.length = m := ⟨_, rfl⟩
  have HMM := hid hm
  have HSH : Hid (okShape e.shape) := hid (HM.out.aok he).shape
  have HRLV : Hid ((e.ranks.length : Int) = vol e.shape) := hid (HM.out.rlen he)
  have HRK : Hid (∀ j, j < e.ranks.length → 0 ≤ nth e.ranks j ∧ nth e.ranks j < n) := hid (fun j hj => HM.out.rk he j hj)
  have hn125 := HM.out.n2
  have hm4 : m ≤ 4 := by have := HSH.out.1; omega
  obtain ⟨sa, hsa⟩ : ∃ sa, (P k).1 = sa := ⟨_, rfl⟩
  obtain ⟨sd, hsd⟩ : ∃ sd, (P k).2.1 = sd := ⟨_, rfl⟩
  have HPA := hid (And.intro hsa hsd)
  have q2 := HCG.out.q2
  obtain ⟨-, -, u2, -, -, -⟩ := HCG.out.ent k e he
  rw [hsa, hsd, hm] at u2
  clear he hm hsa hsd
  by_cases hm0 : m = 0
  · have HKW := hid HCG.out.ki.keep
    have bz : ((m : Int) == 0) = true := by simp; omega
    clear hm0
    go_wp2
    go_ret
    exact ⟨rfl, HKW.out⟩
  have bz : ((m : Int) == 0) = false := by simp; omega
  have hm1 : 1 ≤ m := by omega
  clear hm0
  obtain ⟨gs, os, hsa, hcap⟩ : ∃ gs os, sa = some ⟨gs, os, none⟩ ∧ m ≤ sd := by
    obtain ⟨-, -, -, -, r1, -⟩ := HCG.out.ent k e HE.out
    rw [HPA.out.1, HPA.out.2] at r1
    obtain ⟨a, c, ev, hh⟩ := rd_parts r1.1
    obtain ⟨g, o, rfl, hc⟩ := hh (by have := HMM.out; omega)
    simp at ev
    obtain ⟨-, q, ⟨-, hq⟩, -⟩ := r1.2 g (by rw [ev.1]; rfl)
    rw [HMM.out] at hq
    exact ⟨g, o, ev.1, hq⟩
  subst hsa
  obtain ⟨oq, hoq⟩ : ∃ q : Nat, pickN op 4 = (q : Int) := ⟨(pickN op 4).toNat, by have := pick_small (c := op) (n := 4) (by omega); omega⟩
  have hoq4 : oq < 4 := by have := pick_small (c := op) (n := 4) (by omega); omega
  have HOQ := hid hoq
  obtain ⟨o, ho⟩ : ∃ o, nth [1, 3, 4, 5] oq = o := ⟨_, rfl⟩
  have HFO : Hid (foldOp o) := hid (by rw [← ho]; exact foldOp_nth oq hoq4)
  obtain ⟨W2, hW2⟩ : ∃ W2, w2.alloc (.cells #[.int .i64 1, .int .i64 3, .int .i64 4, .int .i64 5] 3) = W2 := ⟨_, rfl⟩
  have HW2 := hid hW2
  have x0 : W2.cell? ⟨w2.heap.size, oq, none⟩ = some (.int .i64 o) := by
    rw [← hW2, cell_of_row _ _ _ _ _ _ (heap_alloc_new w2 _), ← ho]
    match oq, hoq4 with
    | 0, _ => rfl
    | 1, _ => rfl
    | 2, _ => rfl
    | 3, _ => rfl
  have HC2 : Hid (CG w W2 (retag w2 T2 (2, 0)) pc ps σ E EL g1 g2 g3 g4 c1 c2 c3 c4 P) := hid (by rw [← hW2]; exact HCG.out.kp0 (retag_to w2 T2 _) (Kp.alloc (Kp.refl _ _) _))
  have o0 : (0 : Int) ≤ (oq : Int) := by omega
  have o1 : (oq : Int) < 4 := by omega
  clear hoq ho hW2 HCG
  go_wp2_with fail
  rw [HW2.out]
  refine (pick_calls op 4 W2 HWO.out (by omega)).mono ?_
  rintro e' w' ⟨rfl, hw⟩
  obtain rfl := hw.symm
  rw [HOQ.out]
  have hpx := pick_small (c := axis) (n := (m : Int)) (by omega)
  obtain ⟨b, hbq⟩ : ∃ b : Nat, pickN axis (m : Int) = (b : Int) := ⟨(pickN axis (m : Int)).toNat, by omega⟩
  have hbm : b < m := by omega
  have HBQ := hid hbq
  clear hbq hpx q2 u2 bz
  go_wp2_with fail
  refine (pick_calls axis (m : Int) W2 HWX.out (by omega)).mono ?_
  rintro e' w' ⟨rfl, hw⟩
  obtain rfl := hw.symm
  rw [HBQ.out]
  clear x0 HW2
  generalize retag w2 T2 (2, 0) = T3 at HC2
  obtain ⟨cn, hcn⟩ : ∃ cn : Nat, nth e.shape b = (cn : Int) := ⟨(nth e.shape b).toNat, by have := HSH.out.2.1 b (by have := HMM.out; omega); omega⟩
  have hcb : 1 ≤ cn ∧ cn ≤ 60 := by have := HSH.out.2.1 b (by have := HMM.out; omega); omega
  have HCN := hid hcn
  have HBM : Hid (b < e.shape.length) := hid (by rw [HMM.out]; exact hbm)
  obtain ⟨mm, hmm⟩ : ∃ mm, (vol (foldS e.shape b)).toNat = mm := ⟨_, rfl⟩
  have HMV : Hid (vol (foldS e.shape b) = (mm : Int)) := hid (by have := vol_whole (foldS_ok HSH.out HBM.out); omega)
  have hmmb : 1 ≤ mm ∧ mm ≤ 3600 := by have h1 := vol_whole (foldS_ok HSH.out HBM.out); have h2 := (foldS_ok HSH.out HBM.out).2.2; omega
  obtain ⟨xs, h1, h2, h3, hfd⟩ := HM.out.folds HE.out (by rw [HEL.out]; omega) o HFO.out b cn mm HBM.out hcn hmm
  have HFD := hid hfd
  have HMB := hid (And.intro HM.out.many HM.out.bufs)
  clear hcn hmm hfd
  obtain ⟨σ1, hσ1⟩ : ∃ σ1, (σ.fold o e.h b).1 = σ1 := ⟨_, rfl⟩
  obtain ⟨σ2, hσ2⟩ : ∃ σ2, (σ1.cut e.h b ((cn : Int) - 1) cn (-1)).1 = σ2 := ⟨_, rfl⟩
  obtain ⟨σ3, hσ3⟩ : ∃ σ3, (σ2.fold o h2 b).1 = σ3 := ⟨_, rfl⟩
  have HD1 : Hid (σ.fold o e.h b = (σ1, h1, 0)) := hid (by have := HFD.out.one; rw [← hσ1, ← this])
  have HD2 : Hid (σ1.cut e.h b ((cn : Int) - 1) cn (-1) = (σ2, h2, 0)) := hid (by have := HFD.out.two; rw [hσ1] at this; rw [← hσ2, ← this])
  have HD3 : Hid (σ2.fold o h2 b = (σ3, h3, 0)) := hid (by have := HFD.out.three; rw [hσ1, hσ2] at this; rw [← hσ3, ← this])
  have HDX : Hid (σ3.values h1 = (xs, 0)) := hid (by have := HFD.out.x; rw [hσ1, hσ2, hσ3] at this; exact this)
  have HDY : Hid (σ3.values h3 = (xs, 0)) := hid (by have := HFD.out.y; rw [hσ1, hσ2, hσ3] at this; exact this)
  have HRM : Hid (σ1.arrs.length ≤ B0 + 1 ∧ σ1.bufs.length ≤ B0 + 1 ∧ σ2.arrs.length ≤ B0 + 2 ∧ σ2.bufs.length ≤ B0 + 2) := hid (by have := HFD.out.room; rw [hσ1, hσ2] at this; exact this)
  have HXL : Hid (xs.length = mm) := hid HFD.out.len
  have HXT : Hid (∀ r, r < mm → nth xs r = foldV o 2 (fun q => 100 + nth e.ranks (rank e.shape (foldL (idx (foldS e.shape b) r) b q)).toNat) (cn - 1)) := hid (fun r hr => by
    rw [HFD.out.tells r hr]
    refine foldV_congr _ (fun q hq => ?_)
    have hin := foldL_in (i := idx (foldS e.shape b) r) HBM.out (x := (q : Int)) (by rw [HCN.out]; omega) (idx_in _ _ (foldS_ok HSH.out HBM.out).2.1)
    have hbd := rank_bd e.shape _ HSH.out.2.1 (fun j hj => hin.2 j hj) e.shape.length (Nat.le_refl _)
    rw [List.take_length] at hbd
    rw [rank_in hin]
    have hrv := HRLV.out
    have hrk := HRK.out (rankTo e.shape (foldL (idx (foldS e.shape b) r) b q) e.shape.length).toNat (by omega)
    rw [rng_nth _ _ _ (by omega)]
    omega)
  clear hσ1 hσ2 hσ3 HFD HM
  have HX1 : Hid (∀ W, Kp0 W2 W → Calls Tryz.prog 30 #[.pointer (some ⟨ps, 0, none⟩), .int .i64 o, .int .i64 e.h, .int .i64 (b : Int)] W fun e' w3 => e' = .returned (.tuple #[.int .i64 h1, .int .i64 0]) ∧ ∃ T4, CG w w3 T4 pc ps σ1 E EL g1 g2 g3 g4 c1 c2 c3 c4 P) := hid (fun W kW => by
    have hb := HC2.out.bg.kp0 (fun _ _ => rfl) kW
    refine (xc_fold o e.h b hb.cg.ki.rep (by have := HMB.out.1; omega) (by have := HMB.out.2; omega)).mono ?_
    rintro e' w3 ⟨rfl, hst⟩
    rw [HD1.out] at hst ⊢
    obtain ⟨T4, h4⟩ := hb.cg.bgs hst
    exact ⟨rfl, T4, h4.cg⟩)
  have s0 := HC2.out.q0
  have s1 := HC2.out.q1
  obtain ⟨s2, -⟩ := HC2.out.ent k e HE.out
  go_wp2
  go_region_held3 (fun W => W.cell? ⟨pc, 0, none⟩ = some (.pointer (some ⟨ps, 0, none⟩)) ∧ W.cell? ⟨pc, 1, none⟩ = some (.slice (some ⟨g1, 0, none⟩) EL c1) ∧ W.cell? ⟨g1, k, none⟩ = some (.int .i64 e.h)) (first | go_keep | (go_split_ands; exact ⟨h4.q0, h4.q1, (h4.ent k e HE.out).1⟩))
    ((go_at_call 30; refine (HX1.out _ ?_).mono ?_; (first | exact Kp0.refl _ | exact Kp0.drew (Kp0.refl _)); rintro e' w3 ⟨rfl, T4, h4⟩))
  have HC4 := hid h4
  clear h4 HX1 s0 s1 s2 HC2 HD1
  have HX2 : Hid (∀ W, Kp0 w3 W → Calls Tryz.prog 21 #[.pointer (some ⟨ps, 0, none⟩), .int .i64 e.h, .int .i64 (b : Int), .int .i64 ((cn : Int) - 1), .int .i64 (cn : Int), .int .i64 (-1)] W fun e' w4 => e' = .returned (.tuple #[.int .i64 h2, .int .i64 0]) ∧ ∃ T5, CG w w4 T5 pc ps σ2 E EL g1 g2 g3 g4 c1 c2 c3 c4 P) := hid (fun W kW => by
    have hb := HC4.out.bg.kp0 (fun _ _ => rfl) kW
    refine (xc_cut e.h b ((cn : Int) - 1) cn (-1) hb.cg.ki.rep (by have := HRM.out.1; omega)).mono ?_
    rintro e' w4 ⟨rfl, hst⟩
    rw [HD2.out] at hst ⊢
    obtain ⟨T5, h5⟩ := hb.cg.bgs hst
    exact ⟨rfl, T5, h5.cg⟩)
  have s0 := HC4.out.q0
  have s1 := HC4.out.q1
  obtain ⟨s2, -⟩ := HC4.out.ent k e HE.out
  have s3 := HC4.out.shc HE.out HPA.out.1 HMM.out b hbm
  rw [HCN.out] at s3
  have ew : IntKind.i64.wrap ((cn : Int) - 1) = (cn : Int) - 1 := bd_wf (by omega)
  have b0 : (0 : Int) ≤ (b : Int) := by omega
  have b1 : (b : Int) < (m : Int) := by omega
  go_wp2
  go_region_held3 (fun W => W.cell? ⟨pc, 0, none⟩ = some (.pointer (some ⟨ps, 0, none⟩)) ∧ W.cell? ⟨pc, 1, none⟩ = some (.slice (some ⟨g1, 0, none⟩) EL c1) ∧ W.cell? ⟨g1, k, none⟩ = some (.int .i64 e.h) ∧ W.cell? ⟨gs, os + b, none⟩ = some (.int .i64 (cn : Int))) (first | go_keep | (go_split_ands; exact ⟨h5.q0, h5.q1, (h5.ent k e HE.out).1, (by have := h5.shc HE.out HPA.out.1 HMM.out b hbm; rw [HCN.out] at this; exact this)⟩))
    ((go_at_call 21; refine (HX2.out _ ?_).mono ?_; (first | exact Kp0.refl _ | exact Kp0.drew (Kp0.refl _)); rintro e' w4 ⟨rfl, T5, h5⟩))
  have HC5 := hid h5
  clear h5 HX2 s0 s1 s2 s3 HC4 HD2
  have s0 := HC5.out.q0
  go_wp2_with fail
  refine (xc_fold o h2 b HC5.out.ki.rep (by have := HRM.out.2.2.1; omega) (by have := HRM.out.2.2.2; omega)).mono ?_
  rintro e' w5 ⟨rfl, hst⟩
  rw [HD3.out] at hst ⊢
  obtain ⟨T6, h6⟩ := HC5.out.bgs hst
  have HC6 := hid h6.cg
  clear h6 hst s0 HC5 HD3 HRM HMB
  have s0 := HC6.out.q0
  go_wp2_with fail
  refine (xc_values h1 (0, 16) HC6.out.ki.rep).mono ?_
  rintro e' w6 ⟨v', rfl, hst⟩
  rw [HDX.out] at hst ⊢
  obtain ⟨T7, ao7, d7, rfl, t7, h7, k7, l7⟩ := HC6.out.stepL hst
  have HB7 : Hid (BG w w5 T6 w6 T7 pc ps σ3 E EL g1 g2 g3 g4 c1 c2 c3 c4 P) := hid ⟨h7, t7, k7⟩
  have HL7 := hid l7
  rw [HXL.out] at HL7
  rw [HXL.out]
  clear hst t7 h7 k7 l7 s0
  have s0 := HB7.out.cg.q0
  go_wp2_with fail
  refine (xc_values h3 (0, 16) HB7.out.cg.ki.rep).mono ?_
  rintro e' w7 ⟨v', rfl, hst⟩
  rw [HDY.out] at hst ⊢
  obtain ⟨T8, ao8, d8, rfl, t8, h8, k8, l8⟩ := HB7.out.cg.stepL hst
  have HB8 : Hid (BG w w6 T7 w7 T8 pc ps σ3 E EL g1 g2 g3 g4 c1 c2 c3 c4 P) := hid ⟨h8, t8, k8⟩
  have HL8 := hid l8
  rw [HXL.out] at HL8
  rw [HXL.out]
  have HX8 := hid (HL7.out.bg HB8.out)
  clear hst t8 h8 k8 l8 s0 HL7
  go_wp2_with fail
  refine (ksame_calls _ _ xs xs w7 HX8.out.1 HL8.out.1 (by rw [HXL.out]; omega)).mono ?_
  rintro e' w8 ⟨rfl, hk8⟩
  rw [show decide (xs = xs) = true by simp]
  have HC8 := hid (HB8.out.cg.kp0 (fun _ _ => rfl) hk8)
  have HX9 : Hid (RdI w8 (.slice ao7 mm d7) xs) := hid (HX8.out.1.kp0 hk8)
  clear hk8 HB7 HB8 HX8 HL8 HDX HDY
  have HCS : Hid (∀ W, Kp0 w8 W → ∀ j, j < m → W.cell? ⟨gs, os + j, none⟩ = some (.int .i64 (nth e.shape j))) := hid (fun W kW j hj => (HC8.out.kp0 (fun _ _ => rfl) kW).shc HE.out HPA.out.1 HMM.out j hj)
  have HLT : Hid (gs < w8.heap.size) := hid (block_lt_of_cell (HCS.out w8 (Kp0.refl _) b hbm))
  have b2 : (b : Int) ≤ (sd : Int) := by omega
  have HTL : Hid ((e.shape.take b).length = b) := hid (by simp; have := HMM.out; omega)
  have HR1 : Hid (RdI w8 (.slice (some ⟨gs, os, none⟩) b sd) (e.shape.take b)) := hid (rd_front HMM.out (HCS.out w8 (Kp0.refl _)) (by omega))
  obtain ⟨tb, htb⟩ : ∃ tb, e.shape.take b = tb := ⟨_, rfl⟩
  rw [htb] at HTL HR1
  have HTB := hid htb
  have HN1 : Hid (0 + tb.length ≤ 1000000000000) := hid (by rw [HTL.out]; omega)
  clear htb
  go_wp2_with (at_builtin; refine wpList_app (by rfl) _ _ (by rfl) none 0 0 [] tb _ (by rfl) (by rfl) (OwI.nil _) HR1.out HN1.out w8.heap.size (by rfl) ?_)
  intro aN cN w9 hO9 hG9 hB9
  simp only [HTL.out] at hO9 hB9 ⊢
  have HK9 : Hid (Kp0 w8 w9) := hid ((Kp.refl _ w8).grown hG9 (by simp [Value.ownBlock]))
  have HO9 := hid hO9
  have HB9 : Hid (∀ b', (Value.slice aN b cN).ownBlock = some b' → w8.heap.size ≤ b') := hid (fun b' hb' => by
    rcases hB9 b' hb' with h | h
    · simp [Value.ownBlock] at h
    · omega)
  clear hO9 hG9 hB9 HR1 HN1
  have eb : IntKind.i64.wrap ((b : Int) + 1) = (b : Int) + 1 := bd_wf (by omega)
  go_upto_region 23 with (fail)
  go_cut [27] from 173 (fun s27 W => ∃ ao c, s27 = .slice ao (m - 1) c ∧ OwI W (.slice ao (m - 1) c) (foldS e.shape b) ∧ Kp0 w8 W)
  case first =>
    have HN2 : Hid (b + (e.shape.drop (b + 1)).length ≤ 1000000000000) := hid (by simp; have := HMM.out; omega)
    have HTD : Hid (b + (e.shape.drop (b + 1)).length = m - 1) := hid (by simp; have := HMM.out; omega)
    have HFS : Hid (tb ++ e.shape.drop (b + 1) = foldS e.shape b) := hid (by rw [← HTB.out]; rfl)
    have HR9 : Hid (∀ j, j < m → w9.cell? ⟨gs, os + j, none⟩ = some (.int .i64 (nth e.shape j))) := hid (HCS.out w9 HK9.out)
    obtain ⟨td, htd⟩ : ∃ td, e.shape.drop (b + 1) = td := ⟨_, rfl⟩
    have HR2 : Hid (∀ c, RdI w9 (.slice (some ⟨gs, os + (b + 1), none⟩) (m - (b + 1)) c) td) := hid (fun c => by rw [← htd]; exact rd_back HMM.out HR9.out (by omega))
    have HR3 : Hid (m ≤ b + 1 → ∀ a c, RdI w9 (.slice a 0 c) td) := hid (fun h a c => by rw [← htd]; exact rd_none HMM.out h)
    rw [htd] at HN2 HTD HFS
    clear htd
    by_cases hsd : sd = b + 1
    · have hmb : m = b + 1 := by omega
      have HR4 : Hid (∀ a c, RdI w9 (.slice a 0 c) td) := hid (HR3.out (by omega))
      subst hsd
      subst hmb
      clear HR2 HR3
      go_wp2_with (at_builtin; refine wpList_app (by rfl) _ _ (by rfl) aN b cN tb td _ (by rfl) (by rfl) HO9.out (HR4.out _ _) HN2.out w9.heap.size (by rfl) ?_)
      intro ao' c' w' hC hG hB
      rw [HFS.out] at hC
      simp only [HTD.out] at hC ⊢
      have HC' := hid hC
      have HK' : Hid (Kp0 w8 w') := hid (Kp.grown HK9.out hG (fun b' hb' hlt => by have := HB9.out b' hb'; omega))
      clear hC hG hB
      go_wp2_with fail
      go_meet
      case rel => exact ⟨_, _, rfl, HC'.out, HK'.out⟩
    · have c1' : (b : Int) + 1 ≤ (m : Int) := by omega
      have c2' : (m : Int) ≤ (sd : Int) := by omega
      have c3' : ¬ (sd : Int) = (b : Int) + 1 := by omega
      go_wp2_with (at_builtin; refine wpList_app (by rfl) _ _ (by rfl) aN b cN tb td _ (by rfl) (by rfl) HO9.out (HR2.out _) HN2.out w9.heap.size (by rfl) ?_)
      intro ao' c' w' hC hG hB
      rw [HFS.out] at hC
      simp only [HTD.out] at hC ⊢
      have HC' := hid hC
      have HK' : Hid (Kp0 w8 w') := hid (Kp.grown HK9.out hG (fun b' hb' hlt => by have := HB9.out b' hb'; omega))
      clear hC hG hB
      go_wp2_with fail
      go_meet
      case rel => exact ⟨_, _, rfl, HC'.out, HK'.out⟩
  case rest =>
    generalize wc = wF at hcut ⊢
    obtain ⟨aF, cF, rfl, hOF, hKF⟩ := hcut
    have HOF := hid hOF
    have HCF := hid (HC8.out.kp0 (fun _ _ => rfl) hKF)
    have HXF : Hid (RdI wF (.slice ao7 mm d7) xs) := hid (HX9.out.kp0 hKF)
    have HSF : Hid (∀ W, Kp0 wF W → W.cell? ⟨gs, os + b, none⟩ = some (.int .i64 (cn : Int))) := hid (fun W kW => by have := HCS.out W (hKF.trans kW) b hbm; rw [HCN.out] at this; exact this)
    have HFO' : Hid (okShape (foldS e.shape b)) := hid (foldS_ok HSH.out HBM.out)
    have HFL : Hid ((foldS e.shape b).length = m - 1) := hid (by rw [foldS_length _ _ HBM.out, HMM.out])
    obtain ⟨s', hs'⟩ : ∃ s', foldS e.shape b = s' := ⟨_, rfl⟩
    rw [hs'] at HOF HFO' HFL HMV HXT
    have HS' := hid hs'
    clear hOF hKF hs' HC8 HX9 HO9 HK9 HB9 HTL HTB HCS HC6 eb
    obtain ⟨gx, ox, rfl, hcx⟩ : ∃ gl ol, ao7 = some ⟨gl, ol, none⟩ ∧ ∀ j, j < mm → wF.cell? ⟨gl, ol + j, none⟩ = some (.int .i64 (nth xs j)) := by
      obtain ⟨a, c, ev, hh⟩ := rd_parts HXF.out
      obtain ⟨g, o, rfl, hc⟩ := hh (by rw [HXL.out]; omega)
      simp at ev
      exact ⟨g, o, by rw [ev.1], fun j hj => hc j (by rw [HXL.out]; exact hj)⟩
    have HCX := hid hcx
    clear hcx HXF
    go_wp2
    go_loopw [28, 29, 30, 31, 32, 33] (fun t _ _ _ _ _ w' => ∃ r : Nat, r ≤ mm ∧ t = .int .i64 r ∧ Kp0 wF w') (fun t _ _ _ _ _ _ => mm - (intOf t).toNat)
    case atStart => exact ⟨0, Nat.zero_le _, rfl, Kp0.refl _⟩
    case round =>
      obtain ⟨r, hrm, rfl, hKr⟩ := hrel
      have HKr := hid hKr
      clear hKr
      go_wp2_with fail
      refine (kvolume_calls _ s' wr (HOF.out.rd.kp0 HKr.out) HFO'.out.2.1 HFO'.out.1).mono ?_
      rintro e' w' ⟨rfl, hw⟩
      obtain rfl := hw.symm
      rw [HMV.out]
      by_cases hr : r < mm
      · have r1 : (r : Int) < (mm : Int) := by omega
        go_wp2_with fail
        refine (kindex_calls _ s' (r : Int) wr (HOF.out.rd.kp0 HKr.out) HFO'.out.2.1 HFO'.out.1 (by omega) (by omega)).mono ?_
        rintro e' w10 ⟨rfl, hk10, hg10⟩
        rw [HFL.out]
        obtain ⟨il, hil⟩ : ∃ il, idx s' r = il := ⟨_, rfl⟩
        rw [hil] at hg10
        have HIN : Hid (inB (foldS e.shape b) il) := hid (by rw [HS'.out, ← hil]; exact idx_in s' r HFO'.out.2.1)
        have HILL : Hid (il.length = m - 1) := hid (by rw [← HIN.out.1, HS'.out]; exact HFL.out)
        have HK10 : Hid (Kp0 wF w10) := hid (HKr.out.trans hk10)
        obtain ⟨ib, hib⟩ : ∃ ib, wr.heap.size = ib := ⟨_, rfl⟩
        rw [hib] at hg10 ⊢
        have HIC : Hid (∀ W, Kp0 w10 W → ∀ j, j < m - 1 → W.cell? ⟨ib, 0 + j, none⟩ = some (.int .i64 (nth il j))) := hid (fun W kW j hj => by
          rw [cell_of_row _ _ _ _ _ _ (kW.heap hg10)]
          simpa using ints_get (xs := il) (j := j) (by rw [HILL.out]; exact hj))
        have HSUM : Hid (nth xs r = foldV o 2 (fun q => 100 + nth e.ranks (rank e.shape (foldL il b q)).toNat) (cn - 1)) := hid (by rw [HXT.out r hr, hil])
        clear hk10 hg10 hil hib HKr
        obtain ⟨G, hG⟩ : ∃ G : Nat → Int, G = fun q : Nat => 100 + nth e.ranks (rank e.shape (foldL il b q)).toNat := ⟨_, rfl⟩
        rw [← hG] at HSUM
        have HG := hid hG
        clear hG
        go_wp2
        go_loopw [30, 31, 32, 33] (fun s30 t _ _ w' => ∃ p : Nat, p ≤ cn ∧ t = .int .i64 p ∧ s30 = .int .i64 (if p = 0 then 0 else foldV o 2 G (p - 1)) ∧ Kp0 w10 w') (fun _ t _ _ _ => cn - (intOf t).toNat)
        case atStart => exact ⟨0, Nat.zero_le _, rfl, rfl, Kp0.refl _⟩
        case round =>
          obtain ⟨p, hp, rfl, rfl, hKp⟩ := hrel
          have HKp := hid hKp
          have s3 := HSF.out wr (HK10.out.trans hKp)
          clear hKp
          obtain ⟨sm, hsm⟩ : ∃ sm, (if p = 0 then 0 else foldV o 2 G (p - 1)) = sm := ⟨_, rfl⟩
          have HSM := hid hsm
          rw [hsm]
          clear hsm
          by_cases hpc : p < cn
          · have p1 : (p : Int) < (cn : Int) := by omega
            have HR1 : Hid (RdI wr (.slice (some ⟨ib, 0, none⟩) b (m - 1)) (il.take b)) := hid (rd_front HILL.out (HIC.out wr HKp.out) (by omega))
            have HTL : Hid ((il.take b).length = b) := hid (by simp; have := HILL.out; omega)
            obtain ⟨tb, htb⟩ : ∃ tb, il.take b = tb := ⟨_, rfl⟩
            rw [htb] at HTL HR1
            have HTB := hid htb
            have HN1 : Hid (0 + tb.length ≤ 1000000000000) := hid (by rw [HTL.out]; omega)
            have b3 : (b : Int) ≤ ((m - 1 : Nat) : Int) := by omega
            clear htb
            go_wp2_with (at_builtin; refine wpList_app (by rfl) _ _ (by rfl) none 0 0 [] tb _ (by rfl) (by rfl) (OwI.nil _) HR1.out HN1.out wr.heap.size (by rfl) ?_)
            intro aN cN w11 hO11 hG11 hB11
            simp only [HTL.out] at hO11 hB11 ⊢
            have HK11 : Hid (Kp0 w10 w11) := hid (HKp.out.trans ((Kp.refl _ wr).grown hG11 (by simp [Value.ownBlock])))
            have HO11 := hid hO11
            have HB11 : Hid (∀ b', (Value.slice aN b cN).ownBlock = some b' → w10.heap.size ≤ b') := hid (fun b' hb' => by
              rcases hB11 b' hb' with h | h
              · simp [Value.ownBlock] at h
              · have := HKp.out.size; omega)
            have HN2 : Hid (b + [(p : Int)].length ≤ 1000000000000) := hid (by simp; omega)
            clear hO11 hG11 hB11 HR1 HN1 s3
            go_wp2_with (at_builtin; refine wpList_app (by rfl) _ _ (by rfl) aN b cN tb [(p : Int)] _ (by rfl) (by rfl) (HO11.out.alloc _) (RdI.one _ _) HN2.out (w11.heap.size + 1) (by simp) ?_)
            intro aM cM w12 hO12 hG12 hB12
            have HK12 : Hid (Kp0 w10 w12) := hid (Kp.grown (Kp.alloc HK11.out _) hG12 (fun b' hb' hlt => by have := HB11.out b' hb'; omega))
            have HO12 : Hid (OwI w12 (.slice aM (b + 1) cM) (tb ++ [(p : Int)])) := hid hO12
            have HB12 : Hid (∀ b', (Value.slice aM (b + 1) cM).ownBlock = some b' → w10.heap.size ≤ b') := hid (fun b' hb' => by
              rcases hB12 b' hb' with h | h
              · exact HB11.out b' h
              · have := HK11.out.size; omega)
            clear hO12 hG12 hB12 HN2 HO11 HB11 HK11
            go_upto_region 35 with (fail)
            go_cut [32] from 188 to 229 (fun s32 W => ∃ ao c, s32 = .slice ao m c ∧ OwI W (.slice ao m c) (foldL il b p) ∧ Kp0 w10 W)
            case first =>
              have HN3 : Hid (b + 1 + (il.drop b).length ≤ 1000000000000) := hid (by simp; have := HILL.out; omega)
              have HTD : Hid (b + 1 + (il.drop b).length = m) := hid (by simp; have := HILL.out; omega)
              have HFS : Hid (tb ++ (p : Int) :: il.drop b = foldL il b p) := hid (by rw [← HTB.out]; simp [foldL])
              have HR9 : Hid (∀ j, j < m - 1 → w12.cell? ⟨ib, 0 + j, none⟩ = some (.int .i64 (nth il j))) := hid (HIC.out w12 HK12.out)
              obtain ⟨td, htd⟩ : ∃ td, il.drop b = td := ⟨_, rfl⟩
              have HR2 : Hid (∀ c, RdI w12 (.slice (some ⟨ib, 0 + b, none⟩) (m - 1 - b) c) td) := hid (fun c => by rw [← htd]; exact rd_back HILL.out HR9.out (by omega))
              have HR3 : Hid (m - 1 ≤ b → ∀ a c, RdI w12 (.slice a 0 c) td) := hid (fun h a c => by rw [← htd]; exact rd_none HILL.out h)
              rw [Nat.zero_add] at HR2
              rw [htd] at HN3 HTD HFS
              clear htd
              by_cases hsd : m - 1 = b
              · have HR4 : Hid (∀ a c, RdI w12 (.slice a 0 c) td) := hid (HR3.out (by omega))
                have hmb : m = b + 1 := by omega
                clear HR2 HR3 hsd
                subst hmb
                go_wp2_with (at_builtin; refine wpList_app (by rfl) _ _ (by rfl) aM (b + 1) cM (tb ++ [(p : Int)]) td _ (by rfl) (by rfl) HO12.out (HR4.out _ _) HN3.out w12.heap.size (by rfl) ?_)
                intro ao' c' w' hC hG hB
                rw [HFS.out] at hC
                simp only [HTD.out] at hC ⊢
                have HC' := hid hC
                have HK' : Hid (Kp0 w10 w') := hid (Kp.grown HK12.out hG (fun b' hb' hlt => by have := HB12.out b' hb'; omega))
                clear hC hG hB
                go_wp2_with fail
                go_meet
                case rel => exact ⟨_, _, rfl, HC'.out, HK'.out⟩
              · have c1' : (b : Int) ≤ ((m - 1 : Nat) : Int) := by omega
                have c3' : ¬ ((m - 1 : Nat) : Int) = (b : Int) := by omega
                go_wp2_with (at_builtin; refine wpList_app (by rfl) _ _ (by rfl) aM (b + 1) cM (tb ++ [(p : Int)]) td _ (by rfl) (by rfl) HO12.out (HR2.out _) HN3.out w12.heap.size (by rfl) ?_)
                intro ao' c' w' hC hG hB
                rw [HFS.out] at hC
                simp only [HTD.out] at hC ⊢
                have HC' := hid hC
                have HK' : Hid (Kp0 w10 w') := hid (Kp.grown HK12.out hG (fun b' hb' hlt => by have := HB12.out b' hb'; omega))
                clear hC hG hB
                go_wp2_with fail
                go_meet
                case rel => exact ⟨_, _, rfl, HC'.out, HK'.out⟩
            case rest =>
              obtain ⟨aO, cO, rfl, hOO, hKO⟩ := hcut
              have HOO := hid hOO
              have HKO : Hid (Kp0 wF wc) := hid (HK10.out.trans hKO)
              have HKOw := hid hKO
              clear hOO hKO HO12 HB12 HK12 HTL HTB
              have HIF := hid (foldL_in (i := il) HBM.out (x := (p : Int)) (by rw [HCN.out]; omega) HIN.out)
              obtain ⟨j, hj, hjl⟩ : ∃ j : Nat, rank e.shape (foldL il b p) = (j : Int) ∧ j < e.ranks.length := by
                have hbd := rank_bd e.shape _ HSH.out.2.1 (fun j hj => HIF.out.2 j hj) e.shape.length (Nat.le_refl _)
                rw [List.take_length] at hbd
                have hrv := HRLV.out
                refine ⟨(rank e.shape (foldL il b p)).toNat, ?_, ?_⟩ <;> rw [rank_in HIF.out] <;> omega
              have HJ := hid hj
              obtain ⟨RL, hRL⟩ : ∃ RL, e.ranks.length = RL := ⟨_, rfl⟩
              have HRL := hid hRL
              have HGP : Hid (G p = 100 + nth e.ranks j) := hid (by rw [HG.out]; simp only; rw [hj, Int.toNat_natCast])
              have hjb := HRK.out j hjl
              rw [hRL] at hjl
              clear hj hRL
              have HXR : Hid (∀ W, Kp0 wc W → Calls Tryz.prog 33 #[.slice (some ⟨gs, os, none⟩) m sd, .slice aO m cO] W fun e' w' => e' = .returned (.int .i64 (j : Int)) ∧ Kp0 wc w') := hid (fun W kW => by
                obtain ⟨-, -, -, -, r1, -⟩ := (HCF.out.kp0 (fun _ _ => rfl) (HKO.out.trans kW)).ent k e HE.out
                rw [HPA.out.1, HPA.out.2, HMM.out] at r1
                have := krank_calls (.slice (some ⟨gs, os, none⟩) m sd) (.slice aO m cO) e.shape (foldL il b p) W r1.1 (HOO.out.rd.kp0 kW) HSH.out HIF.out
                rw [HJ.out] at this
                refine this.mono ?_
                rintro e' w' ⟨rfl, hk'⟩
                exact ⟨rfl, kW.trans hk'⟩)
              obtain ⟨gr, og, hpk, -⟩ := HCF.out.rk HE.out (by have := HRL.out; omega)
              have HPK := hid hpk
              clear hpk
              have HT : Hid (∀ W, Kp0 wc W → W.cell? ⟨pc, 3, none⟩ = some (.slice (some ⟨g3, 0, none⟩) EL c3) ∧ W.cell? ⟨g3, k, none⟩ = some (.slice (some ⟨gr, og, none⟩) RL (P k).2.2.2) ∧ W.cell? ⟨gr, og + j, none⟩ = some (.int .i64 (nth e.ranks j))) := hid (fun W kW => by
                have hc := HCF.out.kp0 (fun _ _ => rfl) (HKO.out.trans kW)
                obtain ⟨-, -, -, u3, -, -⟩ := hc.ent k e HE.out
                rw [HRL.out, HPK.out] at u3
                exact ⟨hc.q3, u3, hc.rkc HE.out HPK.out HRL.out j hjl⟩)
              obtain ⟨s0, s1, s2⟩ := HT.out wc (Kp0.refl _)
              have j0 : (0 : Int) ≤ (j : Int) := by omega
              have j1 : (j : Int) < (RL : Int) := by omega
              generalize nth e.ranks j = rj at *
              have ev : IntKind.i64.wrap (100 + rj) = 100 + rj := bd_wf (by omega)
              generalize (P k).2.2.2 = pd at *
              go_wp2
              go_region_held3 (fun W => W.cell? ⟨pc, 3, none⟩ = some (.slice (some ⟨g3, 0, none⟩) EL c3) ∧ W.cell? ⟨g3, k, none⟩ = some (.slice (some ⟨gr, og, none⟩) RL pd) ∧ W.cell? ⟨gr, og + j, none⟩ = some (.int .i64 rj)) (first | go_keep | (go_split_ands; exact HT.out _ hk13))
                ((go_at_call 33; refine (HXR.out _ ?_).mono ?_; (first | exact Kp0.refl _ | exact Kp0.drew (Kp0.refl _)); rintro e' w13 ⟨rfl, hk13⟩))
              have HK13 := hid (HKOw.out.trans hk13)
              rw [← HGP.out]
              clear s0 s1 s2 hk13 HXR HT HOO HKO HKOw ev
              by_cases hp0 : p = 0
              · have bz : ((p : Int) == 0) = true := by simp [hp0]
                have HV : Hid (G p = if p + 1 = 0 then 0 else foldV o 2 G (p + 1 - 1)) := hid (by rw [if_neg (by omega), hp0]; rfl)
                clear hp0
                go_wp2
                go_roundw
                case rel => exact ⟨p + 1, by omega, by go_num, by rw [← HV.out], HK13.out⟩
                case measure => simp [intOf]; omega
              · have bz : ((p : Int) == 0) = false := by simp [hp0]
                have HV : Hid (opK o 2 sm (G p) = if p + 1 = 0 then 0 else foldV o 2 G (p + 1 - 1)) := hid (by
                  rw [if_neg (by omega), ← HSM.out, if_neg hp0, show p + 1 - 1 = p - 1 + 1 by omega, foldV, show p - 1 + 1 = p by omega])
                clear hp0
                go_wp2_with fail
                refine (made_calls o sm (G p) w13 HFO.out.bd.1 HFO.out.bd.2).mono ?_
                rintro e' w' ⟨rfl, hw⟩
                obtain rfl := hw.symm
                go_wp2
                go_roundw
                case rel => exact ⟨p + 1, by omega, by go_num, by rw [← HV.out], HK13.out⟩
                case measure => simp [intOf]; omega
          · have p1 : ¬ (p : Int) < (cn : Int) := by omega
            have hsx : sm = nth xs r := by
              rw [← HSM.out, HSUM.out, if_neg (by omega), show p = cn by omega]
            have HKq := hid (HK10.out.trans HKp.out)
            have x1 := HKq.out.cell (HCX.out r hr)
            rw [← hsx] at x1
            have r2 : ¬ (mm : Int) ≤ (r : Int) := by omega
            have r3 : (0 : Int) ≤ (r : Int) := by omega
            have bb : (sm != sm) = false := by simp
            clear hsx hpc
            go_wp2
            go_roundw
            case rel => exact ⟨r + 1, by omega, by go_num, HKq.out⟩
            case measure => simp [intOf]; omega
      · have r1 : ¬ (r : Int) < (mm : Int) := by omega
        have HKQ := hid (HCF.out.kp0 (fun _ _ => rfl) HKr.out).ki.keep
        have bb : ((mm : Int) == (mm : Int)) = true := by simp
        clear hr
        go_wp2_with fail
        refine (kvolume_calls _ s' wr (HOF.out.rd.kp0 HKr.out) HFO'.out.2.1 HFO'.out.1).mono ?_
        rintro e' w' ⟨rfl, hw⟩
        obtain rfl := hw.symm
        rw [HMV.out]
        go_wp2
        go_ret
        exact ⟨rfl, HKQ.out⟩

end Go.Proofs.YticbbncdcannlaaGreat
