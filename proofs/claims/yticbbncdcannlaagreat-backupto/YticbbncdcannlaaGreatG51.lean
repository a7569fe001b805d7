/- The cast: tells, walked. -/
import Derived.Deep.RegionHeld3
import Derived.Deep.Cut
import Derived.Test.YticbbncdcannlaaGreatG50
import Derived.Test.YticbbncdcannlaaGreatG04
import Derived.Test.YticbbncdcannlaaGreatG36
import Derived.Test.YticbbncdcannlaaGreatG44

namespace Go.Proofs.YticbbncdcannlaaGreat
open Go.RowKit

theorem KM.look {σ : Sp} {E : List CE} {n : Nat} {V : List Int} {B : Nat} (h : KM σ E n V B) {i : Nat} {e : CE} (he : E[i]? = some e) : σ.look e.h = (2, e.shape, e.ro, 0) ∧ σ.values e.h = (e.told V, 0) := by
  constructor
  · unfold Sp.look
    rw [h.find he]
    rfl
  · unfold Sp.values
    rw [h.find he]
    simp only
    rw [h.told he]

theorem told_nth (e : CE) (V : List Int) (j : Nat) (h : j < e.ranks.length) : nth (e.told V) j = nth V (nth e.ranks j).toNat := by
  rw [nth_lt (by rw [CE.told_length]; exact h)]
  simp [CE.told, nth_lt h]

/-- A list that no call of the space's changes. -/
def RdV (T : Tags) (w : World) (v : Value) (xs : List Int) : Prop := RdI w v xs ∧ ∀ b, v.ownBlock = some b → b < w.heap.size ∧ (T b).1 ≠ 1
end Go.Proofs.YticbbncdcannlaaGreat

/- The cast with the names of all its parts; what Meant reckons. -/
namespace Go.Proofs.YticbbncdcannlaaGreat
open Go.RowKit

/-- The cast, with the names of its parts and of all its arrays' lists. -/
structure CG (w0 w : World) (T : Tags) (pc ps : Nat) (σ : Sp) (E : List CE) (EL g1 g2 g3 g4 c1 c2 c3 c4 : Nat) (P : Nat → Option Addr × Nat × Option Addr × Nat) : Prop where
  ki : KI w0 w T pc ps σ E
  q0 : w.cell? ⟨pc, 0, none⟩ = some (.pointer (some ⟨ps, 0, none⟩))
  q1 : w.cell? ⟨pc, 1, none⟩ = some (.slice (some ⟨g1, 0, none⟩) EL c1)
  q2 : w.cell? ⟨pc, 2, none⟩ = some (.slice (some ⟨g2, 0, none⟩) EL c2)
  q3 : w.cell? ⟨pc, 3, none⟩ = some (.slice (some ⟨g3, 0, none⟩) EL c3)
  q4 : w.cell? ⟨pc, 4, none⟩ = some (.slice (some ⟨g4, 0, none⟩) EL c4)
  ent : ∀ (i : Nat) (e : CE), E[i]? = some e → w.cell? ⟨g1, i, none⟩ = some (.int .i64 e.h) ∧ w.cell? ⟨g4, i, none⟩ = some (.bool e.ro) ∧ w.cell? ⟨g2, i, none⟩ = some (.slice (P i).1 e.shape.length (P i).2.1) ∧ w.cell? ⟨g3, i, none⟩ = some (.slice (P i).2.2.1 e.ranks.length (P i).2.2.2) ∧ RdT T w (.slice (P i).1 e.shape.length (P i).2.1) e.shape ∧ RdT T w (.slice (P i).2.2.1 e.ranks.length (P i).2.2.2) e.ranks
  tg : (T pc).1 = 0 ∧ (T g1).1 = 0 ∧ (T g2).1 = 0 ∧ (T g3).1 = 0 ∧ (T g4).1 = 0
  lt : pc < w.heap.size ∧ g1 < w.heap.size ∧ g2 < w.heap.size ∧ g3 < w.heap.size ∧ g4 < w.heap.size

theorem KI.cg {w0 w : World} {T : Tags} {pc ps : Nat} {σ : Sp} {E : List CE} (h : KI w0 w T pc ps σ E) (h1 : 1 ≤ E.length) : ∃ g1 g2 g3 g4 c1 c2 c3 c4 P, CG w0 w T pc ps σ E E.length g1 g2 g3 g4 c1 c2 c3 c4 P := by
  obtain ⟨q0, g1, g2, g3, g4, c1, c2, c3, c4, hq, ht, hg⟩ := h.cells
  obtain ⟨q1, q2, q3, q4⟩ := hq (by omega)
  have key : ∀ i : Nat, ∃ p : Option Addr × Nat × Option Addr × Nat, ∀ e, E[i]? = some e → w.cell? ⟨g2, i, none⟩ = some (.slice p.1 e.shape.length p.2.1) ∧ w.cell? ⟨g3, i, none⟩ = some (.slice p.2.2.1 e.ranks.length p.2.2.2) ∧ RdT T w (.slice p.1 e.shape.length p.2.1) e.shape ∧ RdT T w (.slice p.2.2.1 e.ranks.length p.2.2.2) e.ranks := fun i => by
    cases he : E[i]? with
    | none => exact ⟨(none, 0, none, 0), fun e h => by cases h⟩
    | some e =>
      obtain ⟨u1, u4, a1, d1, a2, d2, u2, u3, r1, r2⟩ := hg i e he
      exact ⟨(a1, d1, a2, d2), fun e' h => by cases h; exact ⟨u2, u3, r1, r2⟩⟩
  obtain ⟨P, hP⟩ := Classical.axiomOfChoice key
  obtain ⟨e0, he0⟩ : ∃ e, E[0]? = some e := ⟨_, List.getElem?_eq_getElem (by omega)⟩
  obtain ⟨u1, u4, a1, d1, a2, d2, u2, u3, -, -⟩ := hg 0 e0 he0
  refine ⟨g1, g2, g3, g4, c1, c2, c3, c4, P, h, q0, q1, q2, q3, q4, fun i e he => ?_, ht (by omega), block_lt_of_cell q0, block_lt_of_cell u1, block_lt_of_cell u2, block_lt_of_cell u3, block_lt_of_cell u4⟩
  obtain ⟨v1, v4, -⟩ := hg i e he
  obtain ⟨v2, v3, r1, r2⟩ := hP i e he
  exact ⟨v1, v4, v2, v3, r1, r2⟩

section
variable {w0 w w' : World} {T T' : Tags} {pc ps : Nat} {σ σ' : Sp} {E : List CE} {EL g1 g2 g3 g4 c1 c2 c3 c4 : Nat} {P : Nat → Option Addr × Nat × Option Addr × Nat}

theorem CG.goes (h : CG w0 w T pc ps σ E EL g1 g2 g3 g4 c1 c2 c3 c4 P) {Z : Nat → Prop} (ht : TagsTo w T T') (hr : XRep T' 1 w' ps σ') (kk : Kp Z w w') (hz : ∀ b, b < w.heap.size → Z b → (T b).1 ≠ 0) : CG w0 w' T' pc ps σ' E EL g1 g2 g3 g4 c1 c2 c3 c4 P := by
  obtain ⟨l0, l1, l2, l3, l4⟩ := h.lt
  have n0 : ∀ b, b < w.heap.size → (T b).1 = 0 → ¬ Z b := fun b hb h0 z => hz b hb z h0
  refine ⟨h.ki.goes ht hr kk hz, kk.cell h.q0 (n0 _ l0 h.tg.1), kk.cell h.q1 (n0 _ l0 h.tg.1), kk.cell h.q2 (n0 _ l0 h.tg.1), kk.cell h.q3 (n0 _ l0 h.tg.1), kk.cell h.q4 (n0 _ l0 h.tg.1), fun i e he => ?_,
    by rw [ht _ l0, ht _ l1, ht _ l2, ht _ l3, ht _ l4]; exact h.tg, Nat.lt_of_lt_of_le l0 kk.size, Nat.lt_of_lt_of_le l1 kk.size, Nat.lt_of_lt_of_le l2 kk.size, Nat.lt_of_lt_of_le l3 kk.size, Nat.lt_of_lt_of_le l4 kk.size⟩
  obtain ⟨u1, u4, u2, u3, r1, r2⟩ := h.ent i e he
  exact ⟨kk.cell u1 (n0 _ l1 h.tg.2.1), kk.cell u4 (n0 _ l4 h.tg.2.2.2.2), kk.cell u2 (n0 _ l2 h.tg.2.2.1), kk.cell u3 (n0 _ l3 h.tg.2.2.2.1),
    r1.kp ht kk (fun b i hb _ e z => hz b hb z (by rw [e])), r2.kp ht kk (fun b i hb _ e z => hz b hb z (by rw [e]))⟩

theorem CG.kp0 (h : CG w0 w T pc ps σ E EL g1 g2 g3 g4 c1 c2 c3 c4 P) (ht : TagsTo w T T') (kk : Kp0 w w') : CG w0 w' T' pc ps σ E EL g1 g2 g3 g4 c1 c2 c3 c4 P :=
  h.goes ht ((h.ki.rep.tags ht).kp kk (fun _ _ e => e)) kk (fun _ _ e => e.elim)

theorem CG.step (h : CG w0 w T pc ps σ E EL g1 g2 g3 g4 c1 c2 c3 c4 P) (hs : Step XRep T 1 w ps σ' w') : ∃ T', TagsTo w T T' ∧ CG w0 w' T' pc ps σ' E EL g1 g2 g3 g4 c1 c2 c3 c4 P ∧ Kp (fun b => (T b).1 = 1) w w' := by
  obtain ⟨T', h1, h2, h3⟩ := hs
  exact ⟨T', h1, h.goes h1 h2 h3 (fun b _ e => by rw [e]; simp), h3⟩

theorem CG.stepL (h : CG w0 w T pc ps σ E EL g1 g2 g3 g4 c1 c2 c3 c4 P) {v : Value} {xs : List Int} (hs : StepL XRep T 1 w ps σ' w' (0, 16) v xs) : ∃ T' ao c, v = .slice ao xs.length c ∧ TagsTo w T T' ∧ CG w0 w' T' pc ps σ' E EL g1 g2 g3 g4 c1 c2 c3 c4 P ∧ Kp (fun b => (T b).1 = 1) w w' ∧ RdT T' w' (.slice ao xs.length c) xs := by
  obtain ⟨T', h1, h2, h3, ao, c, rfl, h4, h5, h6⟩ := hs
  exact ⟨T', ao, c, rfl, h1, h.goes h1 h2 h3 (fun b _ e => by rw [e]; simp), h3, h4.rd, fun b hb => ⟨own_lt h4 hb, 16, Nat.le_refl _, h5 b hb⟩⟩

/-- The cells of an array's ranks. -/
theorem CG.rk (h : CG w0 w T pc ps σ E EL g1 g2 g3 g4 c1 c2 c3 c4 P) {i : Nat} {e : CE} (he : E[i]? = some e) (hp : 0 < e.ranks.length) : ∃ gr og, (P i).2.2.1 = some ⟨gr, og, none⟩ ∧ ∀ j, j < e.ranks.length → w.cell? ⟨gr, og + j, none⟩ = some (.int .i64 (nth e.ranks j)) := by
  obtain ⟨-, -, -, -, -, r2⟩ := h.ent i e he
  obtain ⟨a, c, ev, hh⟩ := rd_parts r2.1
  obtain ⟨g, o, rfl, hc⟩ := hh hp
  simp at ev
  exact ⟨g, o, ev.1, hc⟩
end

end Go.Proofs.YticbbncdcannlaaGreat

/- The cast: what writes keeps to while it goes. -/
namespace Go.Proofs.YticbbncdcannlaaGreat
open Go.RowKit

/-- What a write leaves: the cast, with values that a list in memory tells. -/
def Wrote (w0 w : World) (T : Tags) (pc ps n : Nat) (E : List CE) (B : Nat) (v : Value) (w' : World) : Prop :=
  ∃ T' σ' V', TagsTo w T T' ∧ KI w0 w' T' pc ps σ' E ∧ KM σ' E n V' B ∧ RdV T' w' v V'

/-- While a write goes: the cast, the write's own numbers, the list of the values as they were, the list of those that they must be. -/
structure WG (w0 w : World) (T : Tags) (W : World) (T1 : Tags) (pc ps : Nat) (σ : Sp) (E : List CE) (EL g1 g2 g3 g4 c1 c2 c3 c4 : Nat) (P : Nat → Option Addr × Nat × Option Addr × Nat) (A gN cN n : Nat) (V' : List Int) (d : VD) (gv ov : Nat) (V : List Int) : Prop where
  cg : CG w0 W T1 pc ps σ E EL g1 g2 g3 g4 c1 c2 c3 c4 P
  tt : TagsTo w T T1
  sz : w.heap.size ≤ W.heap.size
  tA : T1 A = (2, 0)
  tN : T1 gN = (2, 0)
  ne : A ≠ gN
  box : ∀ (f : Nat) (x : Value), d.cells[f]? = some x → W.cell? ⟨A, f, none⟩ = some x
  own : OwI W (.slice (some ⟨gN, 0, none⟩) n cN) V'
  len : V'.length = n
  val : ∀ j, j < n → W.cell? ⟨gv, ov + j, none⟩ = some (.int .i64 (nth V j))
  tv : gv < w.heap.size ∧ (T gv).1 ≠ 1
  gn : w.heap.size ≤ gN

section
variable {w0 w W W' : World} {T T1 T2 : Tags} {pc ps : Nat} {σ σ' : Sp} {E : List CE} {EL g1 g2 g3 g4 c1 c2 c3 c4 : Nat} {P : Nat → Option Addr × Nat × Option Addr × Nat} {A gN cN n : Nat} {V' : List Int} {d : VD} {gv ov : Nat} {V : List Int} {B : Nat}

theorem WG.goes (h : WG w0 w T W T1 pc ps σ E EL g1 g2 g3 g4 c1 c2 c3 c4 P A gN cN n V' d gv ov V) (ht : TagsTo W T1 T2) (hr : XRep T2 1 W' ps σ') (k : Kp (fun b => (T1 b).1 = 1) W W') : WG w0 w T W' T2 pc ps σ' E EL g1 g2 g3 g4 c1 c2 c3 c4 P A gN cN n V' d gv ov V := by
  have lN : gN < W.heap.size := own_lt h.own rfl
  have lA : A < W.heap.size := block_lt_of_cell (h.box 0 _ rfl)
  exact ⟨h.cg.goes ht hr k (fun b _ e => by rw [e]; simp), fun b hb => by rw [ht b (Nat.lt_of_lt_of_le hb h.sz)]; exact h.tt b hb, Nat.le_trans h.sz k.size, by rw [ht _ lA]; exact h.tA, by rw [ht _ lN]; exact h.tN, h.ne,
    fun f x hx => k.cell (h.box f x hx) (by rw [h.tA]; simp), h.own.kp k (fun b hb e => by
      have hb' : gN = b := by simpa [Value.ownBlock] using hb
      rw [← hb', h.tN] at e
      simp at e), h.len, fun j hj => k.cell (h.val j hj) (by rw [h.tt _ h.tv.1]; exact h.tv.2), h.tv, h.gn⟩

theorem WG.kp0 (h : WG w0 w T W T1 pc ps σ E EL g1 g2 g3 g4 c1 c2 c3 c4 P A gN cN n V' d gv ov V) (k : Kp0 W W') : WG w0 w T W' T1 pc ps σ E EL g1 g2 g3 g4 c1 c2 c3 c4 P A gN cN n V' d gv ov V :=
  h.goes (fun _ _ => rfl) (h.cg.ki.rep.kp k (fun _ _ e => e)) (Kp.of0 k)
theorem WG.drew (h : WG w0 w T W T1 pc ps σ E EL g1 g2 g3 g4 c1 c2 c3 c4 P A gN cN n V' d gv ov V) : WG w0 w T W.drew T1 pc ps σ E EL g1 g2 g3 g4 c1 c2 c3 c4 P A gN cN n V' d gv ov V := h.kp0 (Kp0.refl _).drew
theorem WG.at (h : WG w0 w T W T1 pc ps σ E EL g1 g2 g3 g4 c1 c2 c3 c4 P A gN cN n V' d gv ov V) (c : Nat) (hc : c < n) : W.cell? ⟨gN, c, none⟩ = some (.int .i64 (nth V' c)) ∧ W.frozen? ⟨gN, c, none⟩ = false := by
  obtain ⟨g, e, -, h1, h2⟩ := h.own.store c 0 (by rw [h.len]; exact hc)
  simp at e
  subst e
  exact ⟨h1, h2⟩

theorem WG.store (h : WG w0 w T W T1 pc ps σ E EL g1 g2 g3 g4 c1 c2 c3 c4 P A gN cN n V' d gv ov V) (c : Nat) (hc : c < n) (v : Int) : WG w0 w T (W.setCell ⟨gN, c, none⟩ (.int .i64 v)) T1 pc ps σ E EL g1 g2 g3 g4 c1 c2 c3 c4 P A gN cN n (V'.set c v) d gv ov V := by
  have k : Kp (fun b => b = gN) W (W.setCell ⟨gN, c, none⟩ (.int .i64 v)) := (Kp.refl _ _).setCell _ _ (fun _ => rfl)
  exact ⟨h.cg.goes (fun _ _ => rfl) (h.cg.ki.rep.kp k (fun b e z => by rw [z, h.tN] at e; cases e)) k (fun b _ e => by rw [e, h.tN]; simp), h.tt, Nat.le_trans h.sz k.size, h.tA, h.tN, h.ne,
    fun f x hx => k.cell (h.box f x hx) h.ne, h.own.set c hc v, by rw [List.length_set]; exact h.len, fun j hj => k.cell (h.val j hj) (fun e => by
      have h1 := h.tv.1
      have h2 := h.gn
      have h3 : gv = gN := e
      omega), h.tv, h.gn⟩

theorem WG.new (h : WG w0 w T W T1 pc ps σ E EL g1 g2 g3 g4 c1 c2 c3 c4 P A gN cN n V' d gv ov V) (hM : KM σ E n V' B) : Wrote w0 w T pc ps n E B (.slice (some ⟨gN, 0, none⟩) n cN) W :=
  ⟨T1, σ, V', h.tt, h.cg.ki, hM, h.own.rd, fun b hb => ⟨own_lt h.own hb, by
    have hb' : gN = b := by simpa [Value.ownBlock] using hb
    rw [← hb', h.tN]
    simp⟩⟩

end

end Go.Proofs.YticbbncdcannlaaGreat

/- The cast: alike, walked. -/
namespace Go.Proofs.YticbbncdcannlaaGreat
open Go.RowKit

/-- From w on, the space's calls alone have changed what there was: the cast as it stands. -/
structure BG (w0 w : World) (T : Tags) (W : World) (T1 : Tags) (pc ps : Nat) (σ : Sp) (E : List CE) (EL g1 g2 g3 g4 c1 c2 c3 c4 : Nat) (P : Nat → Option Addr × Nat × Option Addr × Nat) : Prop where
  cg : CG w0 W T1 pc ps σ E EL g1 g2 g3 g4 c1 c2 c3 c4 P
  tt : TagsTo w T T1
  kp : Kp (fun b => (T b).1 = 1) w W

section
variable {w0 w W W' : World} {T T1 T2 : Tags} {pc ps : Nat} {σ σ' : Sp} {E F : List CE} {EL g1 g2 g3 g4 c1 c2 c3 c4 : Nat} {P : Nat → Option Addr × Nat × Option Addr × Nat} {n : Nat} {V : List Int} {B : Nat}

theorem CG.bg (h : CG w0 w T pc ps σ E EL g1 g2 g3 g4 c1 c2 c3 c4 P) : BG w0 w T w T pc ps σ E EL g1 g2 g3 g4 c1 c2 c3 c4 P := ⟨h, fun _ _ => rfl, Kp.refl _ _⟩

theorem BG.trans (h : BG w0 w T W T1 pc ps σ E EL g1 g2 g3 g4 c1 c2 c3 c4 P) (h2 : BG w0 W T1 W' T2 pc ps σ' E EL g1 g2 g3 g4 c1 c2 c3 c4 P) : BG w0 w T W' T2 pc ps σ' E EL g1 g2 g3 g4 c1 c2 c3 c4 P :=
  ⟨h2.cg, fun b hb => by rw [h2.tt b (Nat.lt_of_lt_of_le hb h.kp.size)]; exact h.tt b hb, h.kp.trans h2.kp (fun b hb e => by rw [h.tt b hb] at e; exact e)⟩

theorem BG.kp0 (h : BG w0 w T W T1 pc ps σ E EL g1 g2 g3 g4 c1 c2 c3 c4 P) (ht : TagsTo W T1 T2) (k : Kp0 W W') : BG w0 w T W' T2 pc ps σ E EL g1 g2 g3 g4 c1 c2 c3 c4 P :=
  h.trans ⟨h.cg.kp0 ht k, ht, Kp.of0 k⟩

theorem CG.bgs (h : CG w0 W T1 pc ps σ E EL g1 g2 g3 g4 c1 c2 c3 c4 P) (hs : Step XRep T1 1 W ps σ' W') : ∃ T2, BG w0 W T1 W' T2 pc ps σ' E EL g1 g2 g3 g4 c1 c2 c3 c4 P := by
  obtain ⟨T2, h1, h2, h3⟩ := h.step hs
  exact ⟨T2, h2, h1, h3⟩

theorem RdT.bg {v : Value} {xs : List Int} (h : RdT T1 W v xs) (hb : BG w0 W T1 W' T2 pc ps σ' E EL g1 g2 g3 g4 c1 c2 c3 c4 P) : RdT T2 W' v xs :=
  h.kp hb.tt hb.kp (fun b i _ _ e z => by rw [e] at z; simp at z)

theorem bk_values (h : CG w0 W T1 pc ps σ E EL g1 g2 g3 g4 c1 c2 c3 c4 P) (hM : KM σ F n V B) {i : Nat} {e : CE} (he : F[i]? = some e) {RL : Nat} (hRL : e.ranks.length = RL) :
    Calls Tryz.prog 26 #[.pointer (some ⟨ps, 0, none⟩), .int .i64 e.h] W fun e' w1 => ∃ ao c T2, e' = .returned (.tuple #[.slice ao RL c, .int .i64 0]) ∧ BG w0 W T1 w1 T2 pc ps σ E EL g1 g2 g3 g4 c1 c2 c3 c4 P ∧ RdT T2 w1 (.slice ao RL c) (e.told V) := by
  refine (xc_values e.h (0, 16) h.ki.rep).mono ?_
  rintro e' w1 ⟨v', rfl, hst⟩
  rw [(hM.look he).2] at hst ⊢
  obtain ⟨T2, ao, c, rfl, h1, h2, h3, h4⟩ := h.stepL hst
  simp only [CE.told_length, hRL] at h4 ⊢
  exact ⟨ao, c, T2, rfl, ⟨h2, h1, h3⟩, h4⟩

theorem bk_look (h : CG w0 W T1 pc ps σ E EL g1 g2 g3 g4 c1 c2 c3 c4 P) (hM : KM σ F n V B) {i : Nat} {e : CE} (he : F[i]? = some e) {m : Nat} (hm : e.shape.length = m) :
    Calls Tryz.prog 49 #[.pointer (some ⟨ps, 0, none⟩), .int .i64 e.h] W fun e' w1 => ∃ ao c T2, e' = .returned (.tuple #[.agg #[.int .i64 2, .slice ao m c, .bool e.ro], .int .i64 0]) ∧ BG w0 W T1 w1 T2 pc ps σ E EL g1 g2 g3 g4 c1 c2 c3 c4 P ∧ RdT T2 w1 (.slice ao m c) e.shape := by
  refine (xc_look e.h (0, 16) h.ki.rep).mono ?_
  rintro e' w1 ⟨v', rfl, hst⟩
  rw [(hM.look he).1] at hst ⊢
  obtain ⟨T2, ao, c, rfl, h1, h2, h3, h4⟩ := h.stepL hst
  simp only [hm] at h4 ⊢
  exact ⟨ao, c, T2, rfl, ⟨h2, h1, h3⟩, h4⟩

theorem bk_set (h : CG w0 W T1 pc ps σ E EL g1 g2 g3 g4 c1 c2 c3 c4 P) (hM : KM σ F n V B) {i : Nat} {e : CE} (he : F[i]? = some e) (hro : e.ro = false) (v : Int) (hv : IntKind.i64.wrap v = v) (j : Nat) (hj : j < e.ranks.length) (vi : Value) (hri : RdI W vi (idx e.shape j)) :
    Calls Tryz.prog 36 #[.pointer (some ⟨ps, 0, none⟩), .int .i64 e.h, .int .i64 v, vi] W fun e' w1 => e' = .returned (.int .i64 0) ∧ ∃ T2 σ2, BG w0 W T1 w1 T2 pc ps σ2 E EL g1 g2 g3 g4 c1 c2 c3 c4 P ∧ KM σ2 F n (V.set (nth e.ranks j).toNat v) B := by
  refine (xc_set e.h v _ (idx e.shape j) h.ki.rep hri hv).mono ?_
  rintro e' w1 ⟨rfl, hst⟩
  rw [hM.wset he v j hj, hro] at hst ⊢
  simp only [Bool.false_eq_true, if_false] at hst ⊢
  obtain ⟨T2, hb⟩ := h.bgs hst
  have := hM.rk he j hj
  exact ⟨trivial, T2, _, hb, hM.put _ (by omega) v⟩

theorem told_set (e : CE) (V : List Int) (hV : V.length = n) (hb : ∀ j, j < e.ranks.length → 0 ≤ nth e.ranks j ∧ nth e.ranks j < n) (ho : Once e.ranks) (i : Nat) (hi : i < e.ranks.length) (v : Int) (k : Nat) (hk : k < e.ranks.length) :
    nth (e.told (V.set (nth e.ranks i).toNat v)) k = if k = i then v else nth (e.told V) k := by
  rw [told_nth e _ k hk, told_nth e _ k hk, nth_set, hV]
  have h1 := hb i hi
  have h2 := hb k hk
  by_cases hki : k = i
  · subst hki
    rw [if_pos ⟨rfl, by omega⟩, if_pos rfl]
  · have := ho.ne hk hi hki
    rw [if_neg (fun e => by omega), if_neg hki]

set_option maxRecDepth 100000 in
set_option maxHeartbeats 8000000 in
theorem alike_calls (h : CG w0 w T pc ps σ E EL g1 g2 g3 g4 c1 c2 c3 c4 P) (hM : KM σ F n V B) {i j : Nat} {a b : CE} (ha : F[i]? = some a) (hb : F[j]? = some b) (hr : a.ranks = b.ranks) (rd : Bool) (hro : a.ro = rd) (v : Int) (wv : IntKind.i64.wrap v = v) :
    Calls Tryz.prog 22 #[.pointer (some ⟨pc, 0, none⟩), .int .i64 a.h, .int .i64 b.h, .bool rd, .int .i64 v] w fun e w' => e = .returned (.bool true) ∧ ∃ T' σ', BG w0 w T w' T' pc ps σ' E EL g1 g2 g3 g4 c1 c2 c3 c4 P ∧ ∃ V', KM σ' F n V' B := by
  obtain ⟨RL, hRL⟩ : ∃ RL, a.ranks.length = RL := ⟨_, rfl⟩
  have hRLb : 1 ≤ RL ∧ RL ≤ 400 := by
    have x1 := hM.rlen ha
    have x2 : 1 ≤ vol a.shape := vol_whole (hM.aok ha).shape
    have x3 := (hM.ent _ _ ha).2.2.1
    omega
  obtain ⟨tv, htv⟩ : ∃ tv, a.told V = tv := ⟨_, rfl⟩
  have HTB : Hid (∀ V, b.told V = a.told V) := hid (fun V => by unfold CE.told; rw [hr])
  have HTV := hid htv
  have HTL : Hid (tv.length = RL) := hid (by rw [← htv, CE.told_length, hRL])
  have HRL := hid hRL
  have HRB : Hid (b.ranks.length = RL) := hid (by rw [← hr, hRL])
  have HM := hid hM
  have HA := hid ha
  have HB := hid hb
  have HWV := hid wv
  have HRO := hid hro
  have HC0 := hid h
  have s0 := h.q0
  clear h hM ha hb hr hro wv hRL htv
  go_enter Tryz.func22, Tryz.ntmps22
  go_wp2_with fail
  refine (bk_values HC0.out HM.out HA.out HRL.out).mono ?_
  rintro e' w1 ⟨ao1, d1, T1, rfl, hB1, hl1⟩
  rw [HTV.out] at hl1
  have HB1 := hid hB1
  have HL1 := hid hl1
  clear s0
  have s0 := hB1.cg.q0
  clear hB1 hl1
  go_wp2_with fail
  refine (bk_values HB1.out.cg HM.out HB.out HRB.out).mono ?_
  rintro e' w2 ⟨ao2, d2, T2, rfl, hB2, hl2⟩
  rw [HTB.out, HTV.out] at hl2
  have HB2 := hid hB2
  have HL12 := hid (HL1.out.bg hB2)
  have HL2 := hid hl2
  clear hB2 hl2 HL1 s0
  go_wp2_with fail
  refine (ksame_calls _ _ tv tv w2 HL12.out.1 HL2.out.1 (by rw [HTL.out]; omega)).mono ?_
  rintro e' w3 ⟨rfl, hk3⟩
  rw [show decide (tv = tv) = true by simp]
  have HB3 : Hid (BG w0 w T w3 T2 pc ps σ E EL g1 g2 g3 g4 c1 c2 c3 c4 P) := hid ((HB1.out.trans HB2.out).kp0 (fun _ _ => rfl) hk3)
  have HL3 : Hid (RdT T2 w3 (.slice ao1 RL d1) tv) := hid (HL12.out.bg ⟨HB2.out.cg.kp0 (fun _ _ => rfl) hk3, fun _ _ => rfl, Kp.of0 hk3⟩)
  clear hk3 HB1 HB2 HL12 HL2
  cases rd with
  | true =>
    go_wp2
    go_ret
    exact ⟨rfl, T2, σ, HB3.out, V, HM.out⟩
  | false =>
    obtain ⟨m, hm⟩ : ∃ m, a.shape.length = m := ⟨_, rfl⟩
    have HMM := hid hm
    have s0 := HB3.out.cg.q0
    clear hm
    go_wp2_with fail
    refine (bk_look HB3.out.cg HM.out HA.out HMM.out).mono ?_
    rintro e' w4 ⟨ao4, d4, T4, rfl, hB4, hl4⟩
    rw [HRO.out]
    obtain ⟨A, hA⟩ : ∃ A, w4.heap.size = A := ⟨_, rfl⟩
    obtain ⟨W4, hW4⟩ : ∃ W4, w4.alloc (.cells #[.int .i64 2, .slice ao4 m d4, .bool false] 96) = W4 := ⟨_, rfl⟩
    have HW4 := hid hW4
    have HA' := hid hA
    have hbA : W4.heap[A]? = some (.cells #[.int .i64 2, .slice ao4 m d4, .bool false] 96 (0, 0)) := by rw [← hW4, ← hA]; exact heap_alloc_new _ _
    have HBA := hid hbA
    have hB5 : BG w0 w4 T4 W4 (retag w4 T4 (2, 0)) pc ps σ E EL g1 g2 g3 g4 c1 c2 c3 c4 P := by rw [← hW4]; exact hB4.cg.bg.kp0 (retag_to w4 T4 _) (Kp.alloc (Kp.refl _ _) _)
    have HB5 : Hid (BG w0 w T W4 (retag w4 T4 (2, 0)) pc ps σ E EL g1 g2 g3 g4 c1 c2 c3 c4 P) := hid ((HB3.out.trans hB4).trans hB5)
    have HTA : Hid ((retag w4 T4 (2, 0)) A = (2, 0)) := hid (by rw [← hA]; exact retag_new (Nat.le_refl _))
    have HX5 : Hid (RdT (retag w4 T4 (2, 0)) W4 (.slice ao1 RL d1) tv) := hid ((HL3.out.bg hB4).bg hB5)
    have HL5 : Hid (RdT (retag w4 T4 (2, 0)) W4 (.slice ao4 m d4) a.shape) := hid (hl4.bg hB5)
    clear hB4 hB5 hl4 hA hW4 hbA s0 HB3 HL3
    generalize retag w4 T4 (2, 0) = T5 at *
    have hpv := pick_small (c := v) (n := (RL : Int)) (by omega)
    obtain ⟨q, hq⟩ : ∃ q : Nat, pickN v (RL : Int) = (q : Int) := ⟨(pickN v (RL : Int)).toNat, by omega⟩
    rw [hq] at hpv
    have HQ := hid hq
    have hqR : q < RL := by omega
    clear hq
    go_wp2_with fail
    simp only [HA'.out]
    rw [HW4.out]
    refine (pick_calls v (RL : Int) W4 HWV.out (by omega)).mono ?_
    rintro e' w' ⟨rfl, hw⟩
    obtain rfl := hw.symm
    rw [HQ.out]
    have HSH : Hid (okShape a.shape) := hid (HM.out.aok HA.out).shape
    have HXI : Hid (∀ W, Kp0 W4 W → Calls Tryz.prog 32 #[.slice ao4 m d4, .int .i64 (q : Int)] W fun e' w3 => ∃ vi, e' = .returned (.slice (some vi) m m) ∧ Kp0 W4 w3 ∧ RdI w3 (.slice (some vi) m m) (idx a.shape q)) := hid (fun W kW => by
      have hx := HSH.out.1
      have hr1 := HL5.out.1.kp0 kW
      rw [HMM.out] at hx
      refine (kindex_calls _ a.shape (q : Int) W hr1 HSH.out.2.1 HSH.out.1 (by omega) (by omega)).mono ?_
      rintro e' w3 ⟨rfl, hk3, hb3⟩
      rw [HMM.out]
      refine ⟨_, rfl, kW.trans hk3, rd_of_blk hb3 ?_⟩
      rw [← (idx_in a.shape q HSH.out.2.1).1, HMM.out])
    have HXS : Hid (∀ W vi, Kp0 W4 W → RdI W (.slice (some vi) m m) (idx a.shape q) → Calls Tryz.prog 36 #[.pointer (some ⟨ps, 0, none⟩), .int .i64 a.h, .int .i64 v, .slice (some vi) m m] W fun e' w4 => e' = .returned (.int .i64 0) ∧ ∃ T6 σ6, BG w0 W4 T5 w4 T6 pc ps σ6 E EL g1 g2 g3 g4 c1 c2 c3 c4 P ∧ KM σ6 F n (V.set (nth a.ranks q).toNat v) B) := hid (fun W vi kW hri => by
      have hk := HB5.out.cg.bg.kp0 (fun _ _ => rfl) kW
      refine (bk_set hk.cg HM.out HA.out HRO.out v HWV.out q (by rw [HRL.out]; exact hqR) _ hri).mono ?_
      rintro e' w4 ⟨rfl, T6, σ6, h1, h2⟩
      exact ⟨rfl, T6, σ6, hk.trans h1, h2⟩)
    have s0 := HB5.out.cg.q0
    have s1 : W4.cell? ⟨A, 1, none⟩ = some (.slice ao4 m d4) := by simp [World.cell?, HBA.out]
    go_wp2
    go_region_held3 (fun W => W.cell? ⟨pc, 0, none⟩ = some (.pointer (some ⟨ps, 0, none⟩)) ∧ W.cell? ⟨A, 1, none⟩ = some (.slice ao4 m d4))
      (first | go_keep | (go_split_ands; exact ⟨hk3.cell s0, hk3.cell s1⟩) | (go_split_ands; exact ⟨h6.cg.q0, h6.kp.cell s1 (by rw [HTA.out]; simp)⟩))
      ((first
        | (go_at_call 32; refine (HXI.out _ ?_).mono ?_; (first | exact Kp0.refl _ | exact Kp0.drew (Kp0.refl _)); rintro e' w3 ⟨vi, rfl, hk3, hri⟩)
        | (go_at_call 36; refine (HXS.out _ vi ?_ ?_).mono ?_; (first | exact hk3 | exact Kp0.drew hk3); (first | exact hri | exact hri.kp0 (Kp0.drew (Kp0.refl _))); rintro e' w6 ⟨rfl, T6, σ6, h6, hM6⟩)))
    have HX6 := hid (HX5.out.bg h6)
    have HB6 := hid (HB5.out.trans h6)
    have HM6 := hid hM6
    clear h6 hM6 hk3 hri HXI HXS s0 s1 HB5 HX5 HL5 HBA HW4 HA' HTA HMM HSH
    obtain ⟨V', hV'⟩ : ∃ V', V.set (nth a.ranks q).toNat v = V' := ⟨_, rfl⟩
    rw [hV'] at HM6
    have HTS : Hid (∀ k, k < RL → nth (a.told V') k = if k = q then v else nth tv k) := hid (fun k hk => by
      rw [← hV', ← HTV.out]
      exact told_set a V HM.out.len (fun j hj => HM.out.rk HA.out j hj) (HM.out.inj _ _ HA.out HRO.out) q (by rw [HRL.out]; exact hqR) v k (by rw [HRL.out]; exact hk))
    clear hV'
    obtain ⟨ty, hty⟩ : ∃ ty, a.told V' = ty := ⟨_, rfl⟩
    rw [hty] at HTS
    have HTY : Hid (b.told V' = ty) := hid (by rw [HTB.out]; exact hty)
    have HTYL : Hid (ty.length = RL) := hid (by rw [← hty, CE.told_length, HRL.out])
    clear hty
    have s0 := HB6.out.cg.q0
    go_wp2_with fail
    refine (bk_values HB6.out.cg HM6.out HB.out HRB.out).mono ?_
    rintro e' w7 ⟨ao7, d7, T7, rfl, hB7, hl7⟩
    rw [HTY.out] at hl7
    have HX7 := hid (HX6.out.bg hB7)
    have HB7 := hid (HB6.out.trans hB7)
    have HY7 := hid hl7
    clear hB7 hl7 HX6 HB6 s0
    obtain ⟨gx, ox, rfl, hcx⟩ : ∃ gl ol, ao1 = some ⟨gl, ol, none⟩ ∧ ∀ j, j < RL → w7.cell? ⟨gl, ol + j, none⟩ = some (.int .i64 (nth tv j)) := by
      obtain ⟨a, c, ev, hh⟩ := rd_parts HX7.out.1
      obtain ⟨g, o, rfl, hc⟩ := hh (by rw [HTL.out]; omega)
      simp at ev
      exact ⟨g, o, by rw [ev.1], fun j hj => hc j (by rw [HTL.out]; exact hj)⟩
    obtain ⟨gy, oy, rfl, hcy⟩ : ∃ gl ol, ao7 = some ⟨gl, ol, none⟩ ∧ ∀ j, j < RL → w7.cell? ⟨gl, ol + j, none⟩ = some (.int .i64 (nth ty j)) := by
      obtain ⟨a, c, ev, hh⟩ := rd_parts HY7.out.1
      obtain ⟨g, o, rfl, hc⟩ := hh (by rw [HTYL.out]; omega)
      simp at ev
      exact ⟨g, o, by rw [ev.1], fun j hj => hc j (by rw [HTYL.out]; exact hj)⟩
    have HCX := hid hcx
    have HCY := hid hcy
    clear hcx hcy HX7 HY7
    have b2 : ((RL : Int) != (RL : Int)) = false := by simp
    go_wp2
    go_loopw [21] (fun t w' => ∃ k : Nat, k ≤ RL ∧ t = .int .i64 k ∧ ∃ d, w' = w7.drewN d) (fun t _ => RL - (intOf t).toNat)
    case atStart => exact ⟨0, Nat.zero_le _, rfl, 0, rfl⟩
    case round =>
      obtain ⟨k, hk, rfl, d, rfl⟩ := hrel
      by_cases hkR : k < RL
      · have x1 := HCX.out k hkR
        have x2 := HCY.out k hkR
        rw [HTS.out k hkR] at x2
        have k0 : (0 : Int) ≤ (k : Int) := by omega
        have k1 : (k : Int) < (RL : Int) := by omega
        by_cases hkq : k = q
        · subst hkq
          rw [if_pos rfl] at x2
          have e1 : ((k : Int) == (k : Int)) = true := by simp
          have e2 : ((k : Int) != (k : Int)) = false := by simp
          have e3 : (v != v) = false := by simp
          go_wp2
          go_quiet (fail)
          go_wp2
          go_roundw
          case rel => exact ⟨k + 1, by omega, by go_num, _, rfl⟩
          case measure => simp [intOf]; omega
        · rw [if_neg hkq] at x2
          have e1 : ((k : Int) == (q : Int)) = false := by simp; omega
          have e2 : ((k : Int) != (q : Int)) = true := by simp; omega
          generalize nth tv k = y at *
          have e3 : (y != y) = false := by simp
          clear hkq
          go_wp2
          go_quiet (fail)
          go_wp2
          go_roundw
          case rel => exact ⟨k + 1, by omega, by go_num, _, rfl⟩
          case measure => simp [intOf]; omega
      · have k1 : ¬ (k : Int) < (RL : Int) := by omega
        have HB8 := hid (HB7.out.kp0 (fun _ _ => rfl) ((Kp.refl _ _).drewN d))
        clear hkR
        go_wp2
        go_ret
        exact ⟨rfl, T7, σ6, HB8.out, V', HM6.out⟩
end

end Go.Proofs.YticbbncdcannlaaGreat

/- The cast: one more array in the space that the cast doesn't know of. -/
namespace Go.Proofs.YticbbncdcannlaaGreat
open Go.RowKit

/-- One of them. -/
def In (F : List CE) (e : CE) : Prop := ∃ i : Nat, F[i]? = some e

/-- One more of them. -/
def Nx (F F' : List CE) (x : CE) : Prop := F'.length = F.length + 1 ∧ (∀ y, In F y → In F' y) ∧ In F' x

theorem nx_app (F : List CE) (x : CE) : Nx F (F ++ [x]) x := by
  refine ⟨by simp, fun y ⟨i, hi⟩ => ⟨i, ?_⟩, F.length, by simp⟩
  rw [List.getElem?_append_left (List.getElem?_eq_some_iff.1 hi).1]
  exact hi

section
variable {w0 w W W' : World} {T T1 T2 : Tags} {pc ps : Nat} {σ σ' : Sp} {E F : List CE} {EL g1 g2 g3 g4 c1 c2 c3 c4 : Nat} {P : Nat → Option Addr × Nat × Option Addr × Nat} {n : Nat} {V : List Int} {B : Nat}

theorem bk_turn (h : CG w0 W T1 pc ps σ E EL g1 g2 g3 g4 c1 c2 c3 c4 P) (hM : KM σ F n V B) {e : CE} (he : In F e) (hlt : F.length < 40) (ax : List Int) (hax : ax.length = e.shape.length) (ha : axesTo e.shape.length ax e.shape.length) (va : Value) (hr : RdI W va ax) (hB : B + 1 ≤ 100000000) :
    Calls Tryz.prog 20 #[.pointer (some ⟨ps, 0, none⟩), .int .i64 e.h, va] W fun e' w1 => ∃ hN T2 σ2 F', e' = .returned (.tuple #[.int .i64 hN, .int .i64 0]) ∧ BG w0 W T1 w1 T2 pc ps σ2 E EL g1 g2 g3 g4 c1 c2 c3 c4 P ∧ KM σ2 F' n V (B + 1) ∧ Nx F F' ⟨hN, turnS e.shape ax, picked e.ranks (turnRk e.shape ax), e.ro⟩ := by
  obtain ⟨i, hi⟩ := he
  have hm := hM.many
  refine (xc_turn e.h va ax hr h.ki.rep (by omega)).mono ?_
  rintro e' w1 ⟨rfl, hst⟩
  obtain ⟨k1, k2⟩ := hM.turn hi hlt ax hax ha (by omega)
  obtain ⟨T2, hb⟩ := h.bgs hst
  rw [k1]
  exact ⟨_, T2, _, _, rfl, hb, k2, nx_app _ _⟩

theorem bk_cut (h : CG w0 W T1 pc ps σ E EL g1 g2 g3 g4 c1 c2 c3 c4 P) (hM : KM σ F n V B) {e : CE} (he : In F e) (hlt : F.length < 40) (k : Nat) (hk : k < e.shape.length) (cn : Nat) (hc : 1 ≤ cn) (start step : Int) (hst : step ≠ 0) (h60 : -60 ≤ step ∧ step ≤ 60) (hr : ∀ i : Nat, i < cn → 0 ≤ start + (i : Int) * step ∧ start + (i : Int) * step < nth e.shape k) (hB : B + 1 ≤ 100000000) :
    Calls Tryz.prog 21 #[.pointer (some ⟨ps, 0, none⟩), .int .i64 e.h, .int .i64 (k : Int), .int .i64 start, .int .i64 (cn : Int), .int .i64 step] W fun e' w1 => ∃ hN T2 σ2 F', e' = .returned (.tuple #[.int .i64 hN, .int .i64 0]) ∧ BG w0 W T1 w1 T2 pc ps σ2 E EL g1 g2 g3 g4 c1 c2 c3 c4 P ∧ KM σ2 F' n V (B + 1) ∧ Nx F F' ⟨hN, e.shape.set k (cn : Int), picked e.ranks (cutRk e.shape k start cn step), e.ro⟩ := by
  obtain ⟨i, hi⟩ := he
  have hm := hM.many
  refine (xc_cut e.h k start cn step h.ki.rep (by omega)).mono ?_
  rintro e' w1 ⟨rfl, hs⟩
  obtain ⟨k1, k2⟩ := hM.cut hi hlt k hk cn hc start step hst h60 hr (by omega)
  obtain ⟨T2, hb⟩ := h.bgs hs
  rw [k1]
  exact ⟨_, T2, _, _, rfl, hb, k2, nx_app _ _⟩

/-- A reshape to a line: what may follow it. -/
theorem bk_line (h : CG w0 W T1 pc ps σ E EL g1 g2 g3 g4 c1 c2 c3 c4 P) (hM : KM σ F n V B) {e : CE} (he : In F e) (hlt : F.length + 1 < 40) (hv : vol e.shape ≤ 60) (va : Value) (hr : RdI W va [vol e.shape]) (hB : B + 2 ≤ 100000000) :
    Calls Tryz.prog 24 #[.pointer (some ⟨ps, 0, none⟩), .int .i64 e.h, va] W fun e' w1 => ∃ hu vw T2 σ2, e' = .returned (.tuple #[.int .i64 hu, .bool vw, .int .i64 0]) ∧ BG w0 W T1 w1 T2 pc ps σ2 E EL g1 g2 g3 g4 c1 c2 c3 c4 P ∧
      ∀ W2 T3 va2, CG w0 W2 T3 pc ps σ2 E EL g1 g2 g3 g4 c1 c2 c3 c4 P → RdI W2 va2 e.shape → Calls Tryz.prog 24 #[.pointer (some ⟨ps, 0, none⟩), .int .i64 hu, va2] W2 fun e' w3 => ∃ hw T4 σ4, e' = .returned (.tuple #[.int .i64 hw, .bool true, .int .i64 0]) ∧ BG w0 W2 T3 w3 T4 pc ps σ4 E EL g1 g2 g3 g4 c1 c2 c3 c4 P ∧ (vw = true → ∃ F' V' B', KM σ4 F' n V' B' ∧ (∀ y, In F y → In F' y) ∧ In F' ⟨hw, e.shape, e.ranks, e.ro⟩) := by
  obtain ⟨i, hi⟩ := he
  have hm := hM.many
  have hbf := hM.bufs
  obtain ⟨vw, hw, r1, r2, r3, r4, r5⟩ := hM.round hi hlt hv hB
  refine (xc_reshape e.h va _ hr h.ki.rep (by omega) (by omega)).mono ?_
  rintro e' w1 ⟨rfl, hs⟩
  obtain ⟨T2, hb⟩ := h.bgs hs
  rw [r1]
  refine ⟨_, vw, T2, _, rfl, hb, fun W2 T3 va2 h2 hr2 => ?_⟩
  refine (xc_reshape _ va2 _ hr2 h2.ki.rep (by omega) (by omega)).mono ?_
  rintro e' w3 ⟨rfl, hs3⟩
  obtain ⟨T4, hb4⟩ := h2.bgs hs3
  rw [r2]
  refine ⟨hw, T4, _, rfl, hb4, fun hvw => ?_⟩
  obtain ⟨X, x1, x2⟩ := r3 hvw
  refine ⟨_, V, _, x1, fun y ⟨q, hq⟩ => ⟨q, ?_⟩, F.length + 1, ?_⟩
  · rw [List.getElem?_append_left (List.getElem?_eq_some_iff.1 hq).1]
    exact hq
  · rw [List.getElem?_append_right (by omega), show F.length + 1 - F.length = 1 by omega]
    exact x2

theorem bk_alike (h : CG w0 W T1 pc ps σ E EL g1 g2 g3 g4 c1 c2 c3 c4 P) (hM : KM σ F n V B) {a b : CE} (ha : In F a) (hb : In F b) (hr : a.ranks = b.ranks) (rd : Bool) (hro : a.ro = rd) (v : Int) (wv : IntKind.i64.wrap v = v) :
    Calls Tryz.prog 22 #[.pointer (some ⟨pc, 0, none⟩), .int .i64 a.h, .int .i64 b.h, .bool rd, .int .i64 v] W fun e w' => e = .returned (.bool true) ∧ ∃ T' σ', BG w0 W T1 w' T' pc ps σ' E EL g1 g2 g3 g4 c1 c2 c3 c4 P ∧ ∃ V', KM σ' F n V' B := by
  obtain ⟨i, hi⟩ := ha
  obtain ⟨j, hj⟩ := hb
  exact alike_calls h hM hi hj hr rd hro v wv
end

/-- There and home. -/
def hmB (m b : Nat) : Nat := (m - b) % m
theorem hmB_lt (m b : Nat) (h1 : 1 ≤ m) : hmB m b < m := Nat.mod_lt _ (by omega)
theorem hmAt (m b : Nat) (h1 : 1 ≤ m) (h4 : m ≤ 4) (hb : b < m) (i : Nat) (hi : i < m) : ((i : Int) + (m : Int) - (b : Int)) % (m : Int) = axAt m (hmB m b) false i := by
  simp only [axAt, hmB]
  rcases (by omega : m = 1 ∨ m = 2 ∨ m = 3 ∨ m = 4) with rfl | rfl | rfl | rfl <;> simp <;> omega
theorem there_home (m b : Nat) (h1 : 1 ≤ m) (h4 : m ≤ 4) (hb : b < m) (k : Nat) (hk : k < m) : nth (axT m b false) (nth (axT m (hmB m b) false) k).toNat = k := by
  have hbd := axAt_bd m (hmB m b) false h1 h4 (hmB_lt m b h1) k hk
  rw [axT_nth _ _ _ _ hk, axT_nth _ _ _ _ (by omega)]
  simp only [axAt, hmB] at hbd ⊢
  rcases (by omega : m = 1 ∨ m = 2 ∨ m = 3 ∨ m = 4) with rfl | rfl | rfl | rfl <;> simp at hbd ⊢ <;> omega

end Go.Proofs.YticbbncdcannlaaGreat

/- The law Back, walked. -/
namespace Go.Proofs.YticbbncdcannlaaGreat
open Go.RowKit

theorem CG.shc {w0 w : World} {T : Tags} {pc ps : Nat} {σ : Sp} {E : List CE} {EL g1 g2 g3 g4 c1 c2 c3 c4 : Nat} {P : Nat → Option Addr × Nat × Option Addr × Nat} (h : CG w0 w T pc ps σ E EL g1 g2 g3 g4 c1 c2 c3 c4 P) {i : Nat} {e : CE} (he : E[i]? = some e) {gs os m : Nat} (hp : (P i).1 = some ⟨gs, os, none⟩) (hl : e.shape.length = m) (j : Nat) (hj : j < m) : w.cell? ⟨gs, os + j, none⟩ = some (.int .i64 (nth e.shape j)) := by
  obtain ⟨-, -, -, -, r1, -⟩ := h.ent i e he
  rw [hp] at r1
  obtain ⟨a, c, ev, hh⟩ := rd_parts r1.1
  obtain ⟨g, o, rfl, hc⟩ := hh (by omega)
  simp at ev
  obtain ⟨⟨rfl, rfl⟩, -⟩ := ev
  exact hc j (by omega)

set_option maxRecDepth 100000 in
set_option maxHeartbeats 8000000 in
theorem backLaw_calls (w : World) (va : Value) (raw : List Int) (hr : RdI w va raw) (hb : raw.length ≤ 1000000000) (hwf : ∀ j, j < raw.length → IntKind.i64.wrap (nth raw j) = nth raw j) (aS : Option Addr) (N cS : Nat) (vs : List VD) (hN : vs.length = N) (hS : 0 < N → ∃ g off, aS = some ⟨g, off, none⟩ ∧ VS w g off vs) (hNb : N ≤ 50000000) (which turn v : Int) (wl : IntKind.i64.wrap which = which) (wt : IntKind.i64.wrap turn = turn) (wv : IntKind.i64.wrap v = v) :
    Calls Tryz.prog 6 #[va, .slice aS N cS, .int .i64 which, .int .i64 turn, .int .i64 v] w fun e w' => e = .returned (.bool true) ∧ Kp0 w w' := by
  obtain ⟨n, hn⟩ : ∃ n, (vol (sizesOf raw)).toNat = n := ⟨_, rfl⟩
  have hsh := sizesOf_shape raw
  have HBG := hid (began_calls w va raw hr hb hwf n hn)
  have HKM0 : Hid ((bg (sizesOf raw) n n).ok → KM (bg (sizesOf raw) n n) [⟨1, sizesOf raw, rng 0 n, false⟩] n (rng 100 n) 1) := hid (fun hok => bg_km _ hsh.1 n hn (by have := hsh.2; omega) hok)
  have HS := hid hS
  have HN := hid hN
  have HWL := hid wl
  have HWT := hid wt
  have HWV := hid wv
  clear hr hb hwf hS hN hsh hn wl wt wv
  go_enter Tryz.func6, Tryz.ntmps6
  go_wp2_with fail
  refine HBG.out.mono ?_
  rintro e w1 ⟨pc, ps, T1, rfl, hI1⟩
  have HC1 : Hid (Casts w w1 pc ps n (rng 100 n) 1) := hid ⟨T1, _, _, hI1, HKM0.out hI1.ok, by simp, by simp⟩
  clear hI1 HBG HKM0
  go_wp2_with fail
  refine (plays_calls HC1.out aS N cS vs HN.out HS.out (by omega)).mono ?_
  rintro e w2 ⟨rfl, T2, σ, E, hI2, hM, hE1, hE30⟩
  obtain ⟨g1, g2, g3, g4, c1, c2, c3, c4, P, hcg⟩ := hI2.cg hE1
  obtain ⟨EL, hEL⟩ : ∃ EL, E.length = EL := ⟨_, rfl⟩
  rw [hEL] at hcg hE1 hE30
  have HEL := hid hEL
  have HM := hid hM
  have HCG := hid hcg
  obtain ⟨B0, hB⟩ : ∃ B0, 1 + N = B0 := ⟨_, rfl⟩
  have hB0 : B0 ≤ 60000000 := by omega
  rw [hB] at HM
  clear hB
  generalize rng 100 n = V at HM
  have q1 := hcg.q1
  have hpl := pick_small (c := which) (n := (EL : Int)) (by omega)
  obtain ⟨k, hk⟩ : ∃ k : Nat, pickN which (EL : Int) = (k : Int) := ⟨(pickN which (EL : Int)).toNat, by omega⟩
  have hkE : k < EL := by omega
  have k0 : (0 : Int) ≤ (k : Int) := by omega
  have k1 : (k : Int) < (EL : Int) := by omega
  clear hI2 hM hcg hEL HC1
  go_wp2_with fail
  refine (pick_calls which (EL : Int) w2 HWL.out (by omega)).mono ?_
  rintro e w' ⟨rfl, hw⟩
  obtain rfl := hw.symm
  rw [hk]
  clear hk hpl q1
  obtain ⟨e, he⟩ : ∃ e, E[k]? = some e := ⟨_, List.getElem?_eq_getElem (by have := HEL.out; omega)⟩
  have HE := hid he
  obtain ⟨m, hm⟩ : ∃ m, e.shape.length = m := ⟨_, rfl⟩
  have HMM := hid hm
  have HSH : Hid (okShape e.shape) := hid (HM.out.aok he).shape
  have HRLV : Hid ((e.ranks.length : Int) = vol e.shape) := hid (HM.out.rlen he)
  have hm4 : m ≤ 4 := by have := HSH.out.1; omega
  obtain ⟨sa, hsa⟩ : ∃ sa, (P k).1 = sa := ⟨_, rfl⟩
  obtain ⟨sd, hsd⟩ : ∃ sd, (P k).2.1 = sd := ⟨_, rfl⟩
  have HPA := hid (And.intro hsa hsd)
  have q2 := HCG.out.q2
  obtain ⟨-, -, u2, -, -, -⟩ := HCG.out.ent k e he
  rw [hsa, hsd, hm] at u2
  clear he hm hsa hsd
  by_cases hm0 : m = 0
  · have HKW := hid HCG.out.ki.keep
    have bz : ((m : Int) == 0) = true := by simp; omega
    clear hm0
    go_wp2
    go_ret
    exact ⟨rfl, HKW.out⟩
  have bz : ((m : Int) == 0) = false := by simp; omega
  have hm1 : 1 ≤ m := by omega
  clear hm0
  obtain ⟨gs, os, hsa⟩ : ∃ gs os, sa = some ⟨gs, os, none⟩ := by
    obtain ⟨-, -, -, -, r1, -⟩ := HCG.out.ent k e HE.out
    rw [HPA.out.1, HPA.out.2] at r1
    obtain ⟨a, c, ev, hh⟩ := rd_parts r1.1
    obtain ⟨g, o, rfl, hc⟩ := hh (by have := HMM.out; omega)
    simp at ev
    exact ⟨g, o, ev.1⟩
  subst hsa
  have hpt := pick_small (c := turn) (n := (m : Int)) (by omega)
  obtain ⟨b, hbq⟩ : ∃ b : Nat, pickN turn (m : Int) = (b : Int) := ⟨(pickN turn (m : Int)).toNat, by omega⟩
  have hbm : b < m := by omega
  have HBQ := hid hbq
  clear hbq hpt
  go_wp2_with fail
  refine (pick_calls turn (m : Int) w2 HWT.out (by omega)).mono ?_
  rintro e' w' ⟨rfl, hw⟩
  obtain rfl := hw.symm
  rw [HBQ.out]
  clear q2 u2 bz
  obtain ⟨ax, hax⟩ : ∃ ax, axT m b false = ax := ⟨_, rfl⟩
  obtain ⟨hx, hhx⟩ : ∃ hx, axT m (hmB m b) false = hx := ⟨_, rfl⟩
  have HAXL : Hid (ax.length = m ∧ hx.length = m) := hid ⟨by rw [← hax, axT_length], by rw [← hhx, axT_length]⟩
  have HAXT : Hid (∀ i, i < m → ax.take (i + 1) = ax.take i ++ [((i : Int) + (b : Int)) % (m : Int)]) := hid (fun i hi => by rw [← hax]; exact axT_take m b false i hi)
  have HHXT : Hid (∀ i, i < m → hx.take (i + 1) = hx.take i ++ [((i : Int) + (m : Int) - (b : Int)) % (m : Int)]) := hid (fun i hi => by rw [← hhx, hmAt m b hm1 hm4 hbm i hi]; exact axT_take m (hmB m b) false i hi)
  have HAXO : Hid (axesTo m ax m ∧ axesTo m hx m) := hid ⟨by rw [← hax]; exact axT_ok m b false hm1 hm4 hbm, by rw [← hhx]; exact axT_ok m (hmB m b) false hm1 hm4 (hmB_lt m b hm1)⟩
  have HINV : Hid (∀ q, q < m → nth ax (nth hx q).toNat = q) := hid (fun q hq => by rw [← hax, ← hhx]; exact there_home m b hm1 hm4 hbm q hq)
  clear hax hhx
  go_wp2
  go_loopw [17, 18, 19] (fun la ls t w' => ∃ i : Nat, i ≤ m ∧ t = .int .i64 i ∧ ∃ aa ca ab cb, la = .slice aa i ca ∧ ls = .slice ab i cb ∧ OwI w' (.slice aa i ca) (ax.take i) ∧ OwI w' (.slice ab i cb) (hx.take i) ∧ Kp0 w2 w' ∧ (∀ b, (Value.slice aa i ca).ownBlock = some b → w2.heap.size ≤ b ∧ (Value.slice ab i cb).ownBlock ≠ some b) ∧ (∀ b, (Value.slice ab i cb).ownBlock = some b → w2.heap.size ≤ b)) (fun _ _ t _ => m - (intOf t).toNat)
  case atStart => exact ⟨0, Nat.zero_le _, rfl, none, 0, none, 0, rfl, rfl, OwI.nil _, OwI.nil _, Kp0.refl _, fun b hb => by simp [Value.ownBlock] at hb, fun b hb => by simp [Value.ownBlock] at hb⟩
  case round =>
    obtain ⟨i, hi, rfl, aa, ca, ab, cb, rfl, rfl, hOa, hOb, hK, hBa, hBb⟩ := hrel
    have HOa := hid hOa
    have HOb := hid hOb
    have HK := hid hK
    have HBa := hid hBa
    have HBb := hid hBb
    clear hOa hOb hK hBa hBb
    by_cases him : i < m
    · have i1 : (i : Int) < (m : Int) := by omega
      have HTA := hid (HAXT.out i him)
      have HTS := hid (HHXT.out i him)
      have hmd : 0 ≤ ((i : Int) + (b : Int)) % (m : Int) ∧ ((i : Int) + (b : Int)) % (m : Int) < m := ⟨Int.emod_nonneg _ (by omega), Int.emod_lt_of_pos _ (by omega)⟩
      have hmd2 : 0 ≤ ((i : Int) + (m : Int) - (b : Int)) % (m : Int) ∧ ((i : Int) + (m : Int) - (b : Int)) % (m : Int) < m := ⟨Int.emod_nonneg _ (by omega), Int.emod_lt_of_pos _ (by omega)⟩
      have hnn : 0 ≤ (i : Int) + (m : Int) - (b : Int) := by omega
      have HBN1 : Hid (i + [((i : Int) + (b : Int)) % (m : Int)].length ≤ 1000000000000) := hid (by simp; omega)
      go_wp2_with (at_builtin; refine wpList_app (by rfl) _ _ (by rfl) aa i ca (ax.take i) [((i : Int) + (b : Int)) % (m : Int)] _ (by rfl) (by rfl) (HOa.out.alloc _) (RdI.one _ _) HBN1.out (wr.heap.size + 1) (by simp) ?_)
      intro aa' ca' w6 hC6 hG6 hB6
      have hK6 : Kp0 w2 w6 := Kp.grown (Kp.alloc HK.out _) hG6 (fun b hb h => by have := (HBa.out b hb).1; omega)
      have hOb6 : OwI w6 (.slice ab i cb) (hx.take i) := (HOb.out.alloc _).grown hG6 (fun b hb e => (HBa.out b e.symm).2 hb)
      have hB6' : ∀ b, (Value.slice aa' (i + 1) ca').ownBlock = some b → w2.heap.size ≤ b ∧ (Value.slice ab i cb).ownBlock ≠ some b := by
        intro b hb
        rcases hB6 b hb with h | h
        · exact HBa.out b h
        · refine ⟨by have := HK.out.size; omega, fun e => ?_⟩
          have := HOb.out.lt e
          omega
      have hs6 : wr.heap.size + 1 ≤ w6.heap.size := by have := hG6.size; simpa using this
      have HC6 := hid hC6
      have HK6 := hid hK6
      have HOb6 := hid hOb6
      have HB6 := hid hB6'
      have HBN2 : Hid (i + [((i : Int) + (m : Int) - (b : Int)) % (m : Int)].length ≤ 1000000000000) := hid (by simp; omega)
      clear hC6 hK6 hOb6 hB6 hB6' hG6
      go_wp2_with (at_builtin; refine wpList_app (by rfl) _ _ (by rfl) ab i cb (hx.take i) [((i : Int) + (m : Int) - (b : Int)) % (m : Int)] _ (by rfl) (by rfl) (HOb6.out.alloc _) (RdI.one _ _) HBN2.out (w6.heap.size + 1) (by simp) ?_)
      intro ab' cb' w7 hC7 hG7 hB7
      have hK7 : Kp0 w2 w7 := Kp.grown (Kp.alloc HK6.out _) hG7 (fun b hb h => by have := HBb.out b hb; omega)
      have hOa7 : OwI w7 (.slice aa' (i + 1) ca') (ax.take (i + 1)) := by
        rw [HTA.out]
        exact (HC6.out.alloc _).grown hG7 (fun b hb e => (HB6.out b hb).2 e.symm)
      have hB7' : ∀ b, (Value.slice ab' (i + 1) cb').ownBlock = some b → w2.heap.size ≤ b := by
        intro b hb
        rcases hB7 b hb with h | h
        · exact HBb.out b h
        · have := HK6.out.size; omega
      have hA7' : ∀ b, (Value.slice aa' (i + 1) ca').ownBlock = some b → w2.heap.size ≤ b ∧ (Value.slice ab' (i + 1) cb').ownBlock ≠ some b := by
        intro b hb
        refine ⟨(HB6.out b hb).1, fun e => ?_⟩
        rcases hB7 b e with h | h
        · exact (HB6.out b hb).2 h
        · have := HC6.out.lt hb
          omega
      have HC7 : Hid (OwI w7 (.slice ab' (i + 1) cb') (hx.take (i + 1))) := hid (by rw [HTS.out]; exact hC7)
      have HK7 := hid hK7
      have HOa7 := hid hOa7
      have HB7 := hid hB7'
      have HA7 := hid hA7'
      clear hC7 hK7 hOa7 hB7 hB7' hA7' hG7 hmd hmd2
      go_wp2
      go_roundw
      case rel => exact ⟨i + 1, by omega, by go_num, aa', ca', ab', cb', rfl, rfl, HOa7.out, HC7.out, HK7.out, HA7.out, HB7.out⟩
      case measure => simp [intOf]; omega
    · obtain rfl : i = m := by omega
      have i1 : ¬ (i : Int) < (i : Int) := by omega
      have HOA : Hid (OwI wr (.slice aa i ca) ax) := hid (by have := HOa.out; rw [List.take_of_length_le (by rw [HAXL.out.1]; exact Nat.le_refl _)] at this; exact this)
      have HOH : Hid (OwI wr (.slice ab i cb) hx) := hid (by have := HOb.out; rw [List.take_of_length_le (by rw [HAXL.out.2]; exact Nat.le_refl _)] at this; exact this)
      have HC2 := hid (HCG.out.kp0 (retag_to w2 T2 (2, 0)) HK.out)
      have HTH : Hid (∀ b, (Value.slice ab i cb).ownBlock = some b → (retag w2 T2 (2, 0) b).1 ≠ 1) := hid (fun b hb => by rw [retag_new (HBb.out b hb)]; simp)
      clear HOa HOb HK HBa HBb HCG him hi HAXT HHXT
      generalize retag w2 T2 (2, 0) = T3 at HC2 HTH
      obtain ⟨cn, hcn⟩ : ∃ cn : Nat, nth e.shape b = (cn : Int) := ⟨(nth e.shape b).toNat, by have := HSH.out.2.1 b (by have := HMM.out; omega); omega⟩
      have hcb : 1 ≤ cn ∧ cn ≤ 60 := by have := HSH.out.2.1 b (by have := HMM.out; omega); omega
      have HCN := hid hcn
      have HBM : Hid (b < e.shape.length) := hid (by rw [HMM.out]; exact hbm)
      clear hcn
      have HFE : Hid (In E e) := hid ⟨k, HE.out⟩
      have HX1 : Hid (∀ W, Kp0 wr W → Calls Tryz.prog 20 #[.pointer (some ⟨ps, 0, none⟩), .int .i64 e.h, .slice aa i ca] W fun e' w3 => ∃ hN T4 σ4 F4, e' = .returned (.tuple #[.int .i64 hN, .int .i64 0]) ∧ BG w wr T3 w3 T4 pc ps σ4 E EL g1 g2 g3 g4 c1 c2 c3 c4 P ∧ KM σ4 F4 n V (B0 + 1) ∧ Nx E F4 ⟨hN, turnS e.shape ax, picked e.ranks (turnRk e.shape ax), e.ro⟩) := hid (fun W kW => by
        have hb := HC2.out.bg.kp0 (fun _ _ => rfl) kW
        refine (bk_turn hb.cg HM.out HFE.out (by rw [HEL.out]; omega) ax (by rw [HAXL.out.1, HMM.out]) (by rw [HMM.out]; exact HAXO.out.1) _ (HOA.out.rd.kp0 kW) (by omega)).mono ?_
        rintro e' w3 ⟨hN, T4, σ4, F4, rfl, x1, x2, x3⟩
        exact ⟨hN, T4, σ4, F4, rfl, hb.trans x1, x2, x3⟩)
      have s0 := HC2.out.q0
      have s1 := HC2.out.q1
      obtain ⟨s2, -⟩ := HC2.out.ent k e HE.out
      go_wp2
      go_region_held3 (fun W => W.cell? ⟨pc, 0, none⟩ = some (.pointer (some ⟨ps, 0, none⟩)) ∧ W.cell? ⟨pc, 1, none⟩ = some (.slice (some ⟨g1, 0, none⟩) EL c1) ∧ W.cell? ⟨g1, k, none⟩ = some (.int .i64 e.h)) (first | go_keep | (go_split_ands; exact ⟨h3.cg.q0, h3.cg.q1, (h3.cg.ent k e HE.out).1⟩))
        ((go_at_call 20; refine (HX1.out _ ?_).mono ?_; (first | exact Kp0.refl _ | exact Kp0.drew (Kp0.refl _)); rintro e' w3 ⟨hN1, T4, σ4, F4, rfl, h3, hM4, hx4⟩))
      have HM4 := hid hM4
      have HX4 := hid hx4
      have HOH4 : Hid (RdI w3 (.slice ab i cb) hx) := hid (HOH.out.kp h3.kp (fun b hb e => HTH.out b hb e)).rd
      have HC4 := hid h3.cg
      have s0 := h3.cg.q0
      clear h3 hM4 hx4 HX1 s1 s2 HOH HOA HC2 HTH
      have HX2 : Hid (∀ W, Kp0 w3 W → Calls Tryz.prog 20 #[.pointer (some ⟨ps, 0, none⟩), .int .i64 hN1, .slice ab i cb] W fun e' w5 => ∃ hN T5 σ5 F5, e' = .returned (.tuple #[.int .i64 hN, .int .i64 0]) ∧ CG w w5 T5 pc ps σ5 E EL g1 g2 g3 g4 c1 c2 c3 c4 P ∧ KM σ5 F5 n V (B0 + 2) ∧ F5.length = EL + 2 ∧ In F5 e ∧ In F5 ⟨hN, e.shape, e.ranks, e.ro⟩) := hid (fun W kW => by
        have hb := HC4.out.bg.kp0 (fun _ _ => rfl) kW
        have hl1 : (turnS e.shape ax).length = i := by rw [turnS_length, HAXL.out.1]
        refine (bk_turn hb.cg HM4.out HX4.out.2.2 (by rw [HX4.out.1, HEL.out]; omega) hx (by show _ = (turnS e.shape ax).length; rw [hl1, HAXL.out.2]) (by show axesTo (turnS e.shape ax).length hx (turnS e.shape ax).length; rw [hl1]; exact HAXO.out.2) _ (HOH4.out.kp0 kW) (by omega)).mono ?_
        rintro e' w5 ⟨hN, T5, σ5, F5, rfl, x1, x2, x3⟩
        obtain ⟨t1, t2⟩ := turn_back (R := e.ranks) HSH.out (by rw [HAXL.out.1, HMM.out]) (by rw [HMM.out]; exact HAXO.out.1) (hm := hx) (by rw [HAXL.out.2, HMM.out]) (by rw [HMM.out]; exact HAXO.out.2) (by rw [HMM.out]; exact HINV.out) HRLV.out
        simp only [t1, t2] at x3
        exact ⟨hN, T5, σ5, F5, rfl, x1.cg, x2, by rw [x3.1, HX4.out.1, HEL.out], x3.2.1 _ (HX4.out.2.1 _ HFE.out), x3.2.2⟩)
      go_wp2_with fail
      refine (HX2.out _ (by first | exact Kp0.refl _ | exact Kp0.drew (Kp0.refl _))).mono ?_
      rintro e' w5 ⟨hN2, T5, σ5, F5, rfl, h5, hM5, hl5, hi5, hj5⟩
      have HC5 := hid h5
      have HM5 := hid hM5
      have HF5 := hid (And.intro hl5 (And.intro hi5 hj5))
      clear s0 h5 hM5 hl5 hi5 hj5 HX2 HM4 HX4 HOH4 HC4 HINV HAXO HAXL HM HFE
      have HSS : Hid (e.shape.set b (cn : Int) = e.shape) := hid (by rw [← HCN.out]; exact set_self _ _ HBM.out)
      have HX3 : Hid (∀ W, Kp0 w5 W → Calls Tryz.prog 21 #[.pointer (some ⟨ps, 0, none⟩), .int .i64 e.h, .int .i64 (b : Int), .int .i64 ((cn : Int) - 1), .int .i64 (cn : Int), .int .i64 (-1)] W fun e' w6 => ∃ hN T6 σ6 F6, e' = .returned (.tuple #[.int .i64 hN, .int .i64 0]) ∧ CG w w6 T6 pc ps σ6 E EL g1 g2 g3 g4 c1 c2 c3 c4 P ∧ KM σ6 F6 n V (B0 + 3) ∧ F6.length = EL + 3 ∧ In F6 e ∧ In F6 ⟨hN2, e.shape, e.ranks, e.ro⟩ ∧ In F6 ⟨hN, e.shape, picked e.ranks (cutRk e.shape b ((cn : Int) - 1) cn (-1)), e.ro⟩) := hid (fun W kW => by
        have hb := HC5.out.bg.kp0 (fun _ _ => rfl) kW
        refine (bk_cut hb.cg HM5.out HF5.out.2.1 (by rw [HF5.out.1]; omega) b HBM.out cn hcb.1 ((cn : Int) - 1) (-1) (by omega) (by omega) (fun i hi => by rw [HCN.out]; omega) (by omega)).mono ?_
        rintro e' w6 ⟨hN, T6, σ6, F6, rfl, x1, x2, x3⟩
        rw [HSS.out] at x3
        exact ⟨hN, T6, σ6, F6, rfl, x1.cg, x2, by rw [x3.1, HF5.out.1], x3.2.1 _ HF5.out.2.1, x3.2.1 _ HF5.out.2.2, x3.2.2⟩)
      have s0 := HC5.out.q0
      have s1 := HC5.out.q1
      obtain ⟨s2, -⟩ := HC5.out.ent k e HE.out
      have s3 := HC5.out.shc HE.out HPA.out.1 HMM.out b hbm
      rw [HCN.out] at s3
      have ew : IntKind.i64.wrap ((cn : Int) - 1) = (cn : Int) - 1 := bd_wf (by omega)
      have b0 : (0 : Int) ≤ (b : Int) := by omega
      have b1 : (b : Int) < (i : Int) := by omega
      go_wp2
      go_region_held3 (fun W => W.cell? ⟨pc, 0, none⟩ = some (.pointer (some ⟨ps, 0, none⟩)) ∧ W.cell? ⟨pc, 1, none⟩ = some (.slice (some ⟨g1, 0, none⟩) EL c1) ∧ W.cell? ⟨g1, k, none⟩ = some (.int .i64 e.h) ∧ W.cell? ⟨gs, os + b, none⟩ = some (.int .i64 (cn : Int))) (first | go_keep | (go_split_ands; exact ⟨h6.q0, h6.q1, (h6.ent k e HE.out).1, (by have := h6.shc HE.out HPA.out.1 HMM.out b hbm; rw [HCN.out] at this; exact this)⟩))
        ((go_at_call 21; refine (HX3.out _ ?_).mono ?_; (first | exact Kp0.refl _ | exact Kp0.drew (Kp0.refl _)); rintro e' w6 ⟨hN3, T6, σ6, F6, rfl, h6, hM6, hl6, hi6, hj6, hk6⟩))
      have HC6 := hid h6
      have HM6 := hid hM6
      have HF6 := hid (And.intro hl6 (And.intro hi6 (And.intro hj6 hk6)))
      clear s0 s1 s2 s3 h6 hM6 hl6 hi6 hj6 hk6 HX3 HC5 HM5 HF5
      have HX4 : Hid (∀ W, Kp0 w6 W → Calls Tryz.prog 21 #[.pointer (some ⟨ps, 0, none⟩), .int .i64 hN3, .int .i64 (b : Int), .int .i64 ((cn : Int) - 1), .int .i64 (cn : Int), .int .i64 (-1)] W fun e' w7 => ∃ hN T7 σ7 F7, e' = .returned (.tuple #[.int .i64 hN, .int .i64 0]) ∧ CG w w7 T7 pc ps σ7 E EL g1 g2 g3 g4 c1 c2 c3 c4 P ∧ KM σ7 F7 n V (B0 + 4) ∧ F7.length = EL + 4 ∧ In F7 e ∧ In F7 ⟨hN2, e.shape, e.ranks, e.ro⟩ ∧ In F7 ⟨hN, e.shape, e.ranks, e.ro⟩) := hid (fun W kW => by
        have hb := HC6.out.bg.kp0 (fun _ _ => rfl) kW
        refine (bk_cut hb.cg HM6.out HF6.out.2.2.2 (by rw [HF6.out.1]; omega) b HBM.out cn hcb.1 ((cn : Int) - 1) (-1) (by omega) (by omega) (fun i hi => by rw [HCN.out]; omega) (by omega)).mono ?_
        rintro e' w7 ⟨hN, T7, σ7, F7, rfl, x1, x2, x3⟩
        simp only [HSS.out, cut_back HSH.out HBM.out HCN.out hcb.1 HRLV.out] at x3
        exact ⟨hN, T7, σ7, F7, rfl, x1.cg, x2, by rw [x3.1, HF6.out.1], x3.2.1 _ HF6.out.2.1, x3.2.1 _ HF6.out.2.2.1, x3.2.2⟩)
      have s0 := HC6.out.q0
      have s3 := HC6.out.shc HE.out HPA.out.1 HMM.out b hbm
      rw [HCN.out] at s3
      go_wp2
      go_region_held3 (fun W => W.cell? ⟨pc, 0, none⟩ = some (.pointer (some ⟨ps, 0, none⟩)) ∧ W.cell? ⟨gs, os + b, none⟩ = some (.int .i64 (cn : Int))) (first | go_keep | (go_split_ands; exact ⟨h7.q0, (by have := h7.shc HE.out HPA.out.1 HMM.out b hbm; rw [HCN.out] at this; exact this)⟩))
        ((go_at_call 21; refine (HX4.out _ ?_).mono ?_; (first | exact Kp0.refl _ | exact Kp0.drew (Kp0.refl _)); rintro e' w7 ⟨hN4, T7, σ7, F7, rfl, h7, hM7, hl7, hi7, hj7, hk7⟩))
      have HC7 := hid h7
      have HM7 := hid hM7
      have HF7 := hid (And.intro hl7 (And.intro hi7 (And.intro hj7 hk7)))
      clear s0 s3 h7 hM7 hl7 hi7 hj7 hk7 HX4 HC6 HM6 HF6
      have HX5 : Hid (∀ W, Kp0 w7 W → Calls Tryz.prog 22 #[.pointer (some ⟨pc, 0, none⟩), .int .i64 hN2, .int .i64 e.h, .bool e.ro, .int .i64 v] W fun e' w8 => e' = .returned (.bool true) ∧ ∃ T8 σ8 V8, CG w w8 T8 pc ps σ8 E EL g1 g2 g3 g4 c1 c2 c3 c4 P ∧ KM σ8 F7 n V8 (B0 + 4)) := hid (fun W kW => by
        have hb := HC7.out.bg.kp0 (fun _ _ => rfl) kW
        refine (bk_alike hb.cg HM7.out HF7.out.2.2.1 HF7.out.2.1 rfl e.ro rfl v HWV.out).mono ?_
        rintro e' w8 ⟨rfl, T8, σ8, x1, V8, x2⟩
        exact ⟨rfl, T8, σ8, V8, x1.cg, x2⟩)
      have s1 := HC7.out.q1
      have s4 := HC7.out.q4
      obtain ⟨s2, s5, -⟩ := HC7.out.ent k e HE.out
      go_wp2
      go_region_held3 (fun W => W.cell? ⟨pc, 1, none⟩ = some (.slice (some ⟨g1, 0, none⟩) EL c1) ∧ W.cell? ⟨pc, 4, none⟩ = some (.slice (some ⟨g4, 0, none⟩) EL c4) ∧ W.cell? ⟨g1, k, none⟩ = some (.int .i64 e.h) ∧ W.cell? ⟨g4, k, none⟩ = some (.bool e.ro)) (first | go_keep | (go_split_ands; exact ⟨h8.q1, h8.q4, (h8.ent k e HE.out).1, (h8.ent k e HE.out).2.1⟩))
        ((go_at_call 22; refine (HX5.out _ ?_).mono ?_; (first | exact Kp0.refl _ | exact Kp0.drew (Kp0.refl _)); rintro e' w8 ⟨rfl, T8, σ8, V8, h8, hM8⟩))
      have HC8 := hid h8
      have HM8 := hid hM8
      clear s1 s2 s4 s5 h8 hM8 HX5 HC7 HM7
      have HX6 : Hid (∀ W, Kp0 w8 W → Calls Tryz.prog 22 #[.pointer (some ⟨pc, 0, none⟩), .int .i64 hN4, .int .i64 e.h, .bool e.ro, .int .i64 v] W fun e' w9 => e' = .returned (.bool true) ∧ ∃ T9 σ9 V9, CG w w9 T9 pc ps σ9 E EL g1 g2 g3 g4 c1 c2 c3 c4 P ∧ KM σ9 F7 n V9 (B0 + 4)) := hid (fun W kW => by
        have hb := HC8.out.bg.kp0 (fun _ _ => rfl) kW
        refine (bk_alike hb.cg HM8.out HF7.out.2.2.2 HF7.out.2.1 rfl e.ro rfl v HWV.out).mono ?_
        rintro e' w9 ⟨rfl, T9, σ9, x1, V9, x2⟩
        exact ⟨rfl, T9, σ9, V9, x1.cg, x2⟩)
      have s1 := HC8.out.q1
      have s4 := HC8.out.q4
      obtain ⟨s2, s5, -⟩ := HC8.out.ent k e HE.out
      go_wp2
      go_region_held3 (fun W => W.cell? ⟨pc, 1, none⟩ = some (.slice (some ⟨g1, 0, none⟩) EL c1) ∧ W.cell? ⟨pc, 4, none⟩ = some (.slice (some ⟨g4, 0, none⟩) EL c4) ∧ W.cell? ⟨g1, k, none⟩ = some (.int .i64 e.h) ∧ W.cell? ⟨g4, k, none⟩ = some (.bool e.ro)) (first | go_keep | (go_split_ands; exact ⟨h9.q1, h9.q4, (h9.ent k e HE.out).1, (h9.ent k e HE.out).2.1⟩))
        ((go_at_call 22; refine (HX6.out _ ?_).mono ?_; (first | exact Kp0.refl _ | exact Kp0.drew (Kp0.refl _)); rintro e' w9 ⟨rfl, T9, σ9, V9, h9, hM9⟩))
      have HC9 := hid h9
      have HM9 := hid hM9
      clear s1 s2 s4 s5 h9 hM9 HX6 HC8 HM8
      have s3 := HC9.out.shc HE.out HPA.out.1 HMM.out b hbm
      rw [HCN.out] at s3
      by_cases hc1 : 1 < cn
      case' pos =>
        have hc1' : (1 : Int) < (cn : Int) := by omega
        obtain ⟨hf, hhf⟩ : ∃ hf : Nat, (hf : Int) = (cn : Int) / 2 := ⟨((cn : Int) / 2).toNat, by omega⟩
        have hfb : 1 ≤ hf ∧ 2 * hf ≤ cn := by omega
        have HHF := hid hhf
        have hft : (cn : Int).tdiv 2 = (hf : Int) := by rw [Int.tdiv_eq_ediv_of_nonneg (by omega)]; exact hhf.symm
        have hfe : (cn : Int) / 2 = (hf : Int) := hhf.symm
        clear hhf
        have HX7 : Hid (∀ W, Kp0 w9 W → Calls Tryz.prog 21 #[.pointer (some ⟨ps, 0, none⟩), .int .i64 e.h, .int .i64 (b : Int), .int .i64 1, .int .i64 (hf : Int), .int .i64 2] W fun e' w10 => ∃ hN T10 σ10 F10, e' = .returned (.tuple #[.int .i64 hN, .int .i64 0]) ∧ CG w w10 T10 pc ps σ10 E EL g1 g2 g3 g4 c1 c2 c3 c4 P ∧ KM σ10 F10 n V9 (B0 + 5) ∧ F10.length = EL + 5 ∧ In F10 e ∧ In F10 ⟨hN, e.shape.set b (hf : Int), picked e.ranks (cutRk e.shape b 1 hf 2), e.ro⟩) := hid (fun W kW => by
          have hb := HC9.out.bg.kp0 (fun _ _ => rfl) kW
          refine (bk_cut hb.cg HM9.out HF7.out.2.1 (by rw [HF7.out.1]; omega) b HBM.out hf hfb.1 1 2 (by omega) (by omega) (fun i hi => by rw [HCN.out]; omega) (by omega)).mono ?_
          rintro e' w10 ⟨hN, T10, σ10, F10, rfl, x1, x2, x3⟩
          exact ⟨hN, T10, σ10, F10, rfl, x1.cg, x2, by rw [x3.1, HF7.out.1], x3.2.1 _ HF7.out.2.1, x3.2.2⟩)
        have s0 := HC9.out.q0
        have s1 := HC9.out.q1
        obtain ⟨s2, -⟩ := HC9.out.ent k e HE.out
        go_wp2
        go_region_held3 (fun W => W.cell? ⟨pc, 0, none⟩ = some (.pointer (some ⟨ps, 0, none⟩)) ∧ W.cell? ⟨pc, 1, none⟩ = some (.slice (some ⟨g1, 0, none⟩) EL c1) ∧ W.cell? ⟨g1, k, none⟩ = some (.int .i64 e.h)) (first | go_keep | (go_split_ands; exact ⟨h10.q0, h10.q1, (h10.ent k e HE.out).1⟩))
          ((go_at_call 21; refine (HX7.out _ ?_).mono ?_; (first | exact Kp0.refl _ | exact Kp0.drew (Kp0.refl _)); rintro e' w10 ⟨hN5, T10, σ10, F10, rfl, h10, hM10, hl10, hi10, hj10⟩))
        have HC10 := hid h10
        have HM10 := hid hM10
        have HF10 := hid (And.intro hl10 (And.intro hi10 hj10))
        clear s0 s1 s2 s3 h10 hM10 hl10 hi10 hj10 HX7 HC9 HM9 HF7 hft hfe
        have HX8 : Hid (∀ W, Kp0 w10 W → Calls Tryz.prog 21 #[.pointer (some ⟨ps, 0, none⟩), .int .i64 e.h, .int .i64 (b : Int), .int .i64 1, .int .i64 ((cn : Int) - 1), .int .i64 1] W fun e' w11 => ∃ hN T11 σ11 F11, e' = .returned (.tuple #[.int .i64 hN, .int .i64 0]) ∧ CG w w11 T11 pc ps σ11 E EL g1 g2 g3 g4 c1 c2 c3 c4 P ∧ KM σ11 F11 n V9 (B0 + 6) ∧ F11.length = EL + 6 ∧ In F11 e ∧ In F11 ⟨hN5, e.shape.set b (hf : Int), picked e.ranks (cutRk e.shape b 1 hf 2), e.ro⟩ ∧ In F11 ⟨hN, e.shape.set b ((cn - 1 : Nat) : Int), picked e.ranks (cutRk e.shape b 1 ((cn - 1 : Nat) : Int) 1), e.ro⟩) := hid (fun W kW => by
          have hb := HC10.out.bg.kp0 (fun _ _ => rfl) kW
          rw [show (cn : Int) - 1 = ((cn - 1 : Nat) : Int) by omega]
          refine (bk_cut hb.cg HM10.out HF10.out.2.1 (by rw [HF10.out.1]; omega) b HBM.out (cn - 1) (by omega) 1 1 (by omega) (by omega) (fun i hi => by rw [HCN.out]; omega) (by omega)).mono ?_
          rintro e' w11 ⟨hN, T11, σ11, F11, rfl, x1, x2, x3⟩
          exact ⟨hN, T11, σ11, F11, rfl, x1.cg, x2, by rw [x3.1, HF10.out.1], x3.2.1 _ HF10.out.2.1, x3.2.1 _ HF10.out.2.2, x3.2.2⟩)
        have s0 := HC10.out.q0
        have s1 := HC10.out.q1
        obtain ⟨s2, -⟩ := HC10.out.ent k e HE.out
        have s3 := HC10.out.shc HE.out HPA.out.1 HMM.out b hbm
        rw [HCN.out] at s3
        go_wp2
        go_region_held3 (fun W => W.cell? ⟨pc, 0, none⟩ = some (.pointer (some ⟨ps, 0, none⟩)) ∧ W.cell? ⟨pc, 1, none⟩ = some (.slice (some ⟨g1, 0, none⟩) EL c1) ∧ W.cell? ⟨g1, k, none⟩ = some (.int .i64 e.h) ∧ W.cell? ⟨gs, os + b, none⟩ = some (.int .i64 (cn : Int))) (first | go_keep | (go_split_ands; exact ⟨h11.q0, h11.q1, (h11.ent k e HE.out).1, (by have := h11.shc HE.out HPA.out.1 HMM.out b hbm; rw [HCN.out] at this; exact this)⟩))
          ((go_at_call 21; refine (HX8.out _ ?_).mono ?_; (first | exact Kp0.refl _ | exact Kp0.drew (Kp0.refl _)); rintro e' w11 ⟨hN6, T11, σ11, F11, rfl, h11, hM11, hl11, hi11, hj11, hk11⟩))
        have HC11 := hid h11
        have HM11 := hid hM11
        have HF11 := hid (And.intro hl11 (And.intro hi11 (And.intro hj11 hk11)))
        clear s0 s1 s2 s3 h11 hM11 hl11 hi11 hj11 hk11 HX8 HC10 HM10 HF10
        have HX9 : Hid (∀ W, Kp0 w11 W → Calls Tryz.prog 21 #[.pointer (some ⟨ps, 0, none⟩), .int .i64 hN6, .int .i64 (b : Int), .int .i64 0, .int .i64 (hf : Int), .int .i64 2] W fun e' w12 => ∃ hN T12 σ12 F12, e' = .returned (.tuple #[.int .i64 hN, .int .i64 0]) ∧ CG w w12 T12 pc ps σ12 E EL g1 g2 g3 g4 c1 c2 c3 c4 P ∧ KM σ12 F12 n V9 (B0 + 7) ∧ F12.length = EL + 7 ∧ In F12 e ∧ In F12 ⟨hN5, e.shape.set b (hf : Int), picked e.ranks (cutRk e.shape b 1 hf 2), e.ro⟩ ∧ In F12 ⟨hN, (e.shape.set b ((cn - 1 : Nat) : Int)).set b (hf : Int), picked e.ranks (cutRk e.shape b 1 hf 2), e.ro⟩) := hid (fun W kW => by
          have hb := HC11.out.bg.kp0 (fun _ _ => rfl) kW
          have hn1 : nth (e.shape.set b ((cn - 1 : Nat) : Int)) b = ((cn - 1 : Nat) : Int) := by rw [nth_setN _ _ _ _ HBM.out, if_pos rfl]
          refine (bk_cut hb.cg HM11.out HF11.out.2.2.2 (by rw [HF11.out.1]; omega) b (by simpa using HBM.out) hf hfb.1 0 2 (by omega) (by omega) (fun i hi => by show 0 ≤ _ ∧ _ < nth (e.shape.set b ((cn - 1 : Nat) : Int)) b; rw [hn1]; omega) (by omega)).mono ?_
          rintro e' w12 ⟨hN, T12, σ12, F12, rfl, x1, x2, x3⟩
          simp only [← cut_steps HSH.out HBM.out HCN.out hc1 HHF.out e.ranks] at x3
          exact ⟨hN, T12, σ12, F12, rfl, x1.cg, x2, by rw [x3.1, HF11.out.1], x3.2.1 _ HF11.out.2.1, x3.2.1 _ HF11.out.2.2.1, x3.2.2⟩)
        have s0 := HC11.out.q0
        go_wp2_with fail
        refine (HX9.out _ (by first | exact Kp0.refl _ | exact Kp0.drew (Kp0.refl _))).mono ?_
        rintro e' w12 ⟨hN7, T12, σ12, F12, rfl, h12, hM12, hl12, hi12, hj12, hk12⟩
        have HC12 := hid h12
        have HM12 := hid hM12
        have HF12 := hid (And.intro hl12 (And.intro hi12 (And.intro hj12 hk12)))
        clear s0 h12 hM12 hl12 hi12 hj12 hk12 HX9 HC11 HM11 HF11
        have s4 := HC12.out.q4
        obtain ⟨-, s5, -⟩ := HC12.out.ent k e HE.out
        go_wp2_with fail
        refine (bk_alike HC12.out HM12.out HF12.out.2.2.1 HF12.out.2.2.2 rfl e.ro rfl v HWV.out).mono ?_
        rintro e' wc ⟨rfl, T13, σ13, h13, V13, hM13⟩
        have HG13 : Hid (∃ T σ F V B, CG w wc T pc ps σ E EL g1 g2 g3 g4 c1 c2 c3 c4 P ∧ KM σ F n V B ∧ In F e ∧ F.length ≤ EL + 7 ∧ B ≤ B0 + 7) := hid ⟨T13, σ13, F12, V13, _, h13.cg, hM13, HF12.out.2.1, by rw [HF12.out.1]; exact Nat.le_refl _, Nat.le_refl _⟩
        clear s4 s5 h13 hM13 HC12 HM12 HF12 HHF hc1 hc1' hfb
        go_wp2_with fail
      case' neg =>
        have hc1' : ¬ (1 : Int) < (cn : Int) := by omega
        have HG13 : Hid (∃ T σ F V B, CG w w9 T pc ps σ E EL g1 g2 g3 g4 c1 c2 c3 c4 P ∧ KM σ F n V B ∧ In F e ∧ F.length ≤ EL + 7 ∧ B ≤ B0 + 7) := hid ⟨T9, σ9, F7, V9, _, HC9.out, HM9.out, HF7.out.2.1, by rw [HF7.out.1]; omega, by omega⟩
        clear HC9 HM9 HF7
        go_wp2_with fail
        clear hc1 s3 hc1'
        generalize w9 = wc at HG13 ⊢
      all_goals
        obtain ⟨T10, σ10, F10, V10, B10, h10, hM10, hi10, hl10, hB10⟩ := HG13.out
        have HC10 := hid h10
        have HM10 := hid hM10
        have HF10 := hid (And.intro hi10 (And.intro hl10 hB10))
        have HKW := hid h10.ki.keep
        clear h10 hM10 hi10 hl10 hB10 HG13
        obtain ⟨vl, hvl⟩ : ∃ vl, vol e.shape = vl := ⟨_, rfl⟩
        have HVL := hid hvl
        have hvb : 1 ≤ vl ∧ vl ≤ 3600 := by
          have h1 := vol_whole HSH.out
          have h2 := HSH.out.2.2
          omega
        clear hvl
        have HXV : Hid (∀ W, Kp0 wc W → Calls Tryz.prog 23 #[.slice (some ⟨gs, os, none⟩) i sd] W fun e' w' => e' = .returned (.int .i64 vl) ∧ w' = W) := hid (fun W kW => by
          obtain ⟨-, -, -, -, r1, -⟩ := (HC10.out.kp0 (fun _ _ => rfl) kW).ent k e HE.out
          rw [HPA.out.1, HPA.out.2, HMM.out] at r1
          rw [← HVL.out]
          exact kvolume_calls _ e.shape W r1.1 HSH.out.2.1 HSH.out.1)
        go_wp2_with fail
        refine (HXV.out _ (by first | exact Kp0.refl _ | exact Kp0.drew (Kp0.refl _))).mono ?_
        rintro e' w' ⟨rfl, hw⟩
        obtain rfl := hw.symm
        by_cases hv60 : 60 < vl
        · have hv' : (60 : Int) < vl := hv60
          go_wp2
          go_ret
          exact ⟨rfl, HKW.out⟩
        have hv' : ¬ (60 : Int) < vl := hv60
        have HXR : Hid (∀ W va, Kp0 wc W → RdI W va [vl] → Calls Tryz.prog 24 #[.pointer (some ⟨ps, 0, none⟩), .int .i64 e.h, va] W fun e' w1 => ∃ hu vw T2 σ2, e' = .returned (.tuple #[.int .i64 hu, .bool vw, .int .i64 0]) ∧ CG w w1 T2 pc ps σ2 E EL g1 g2 g3 g4 c1 c2 c3 c4 P ∧
            ∀ W2 T3 va2, CG w W2 T3 pc ps σ2 E EL g1 g2 g3 g4 c1 c2 c3 c4 P → RdI W2 va2 e.shape → Calls Tryz.prog 24 #[.pointer (some ⟨ps, 0, none⟩), .int .i64 hu, va2] W2 fun e' w3 => ∃ hw T4 σ4, e' = .returned (.tuple #[.int .i64 hw, .bool true, .int .i64 0]) ∧ CG w w3 T4 pc ps σ4 E EL g1 g2 g3 g4 c1 c2 c3 c4 P ∧ (vw = true → ∃ F' V' B', KM σ4 F' n V' B' ∧ In F' e ∧ In F' ⟨hw, e.shape, e.ranks, e.ro⟩)) := hid (fun W va kW hr => by
          have hb := HC10.out.bg.kp0 (fun _ _ => rfl) kW
          have hl := HF10.out.2.1
          have hB := HF10.out.2.2
          refine (bk_line hb.cg HM10.out HF10.out.1 (by omega) (by rw [HVL.out]; omega) va (by rw [HVL.out]; exact hr) (by omega)).mono ?_
          rintro e' w1 ⟨hu, vw, T2, σ2, rfl, x1, x2⟩
          refine ⟨hu, vw, T2, σ2, rfl, x1.cg, fun W2 T3 va2 y1 y2 => (x2 W2 T3 va2 y1 y2).mono ?_⟩
          rintro e' w3 ⟨hw, T4, σ4, rfl, z1, z2⟩
          refine ⟨hw, T4, σ4, rfl, z1.cg, fun hvw => ?_⟩
          obtain ⟨F', V', B', a1, a2, a3⟩ := z2 hvw
          exact ⟨F', V', B', a1, a2 _ HF10.out.1, a3⟩)
        have s0 := HC10.out.q0
        have s1 := HC10.out.q1
        obtain ⟨s2, -⟩ := HC10.out.ent k e HE.out
        clear hv60
        go_wp2
        go_region_held3 (fun W => W.cell? ⟨pc, 0, none⟩ = some (.pointer (some ⟨ps, 0, none⟩)) ∧ W.cell? ⟨pc, 1, none⟩ = some (.slice (some ⟨g1, 0, none⟩) EL c1) ∧ W.cell? ⟨g1, k, none⟩ = some (.int .i64 e.h)) (first | go_keep | (go_split_ands; exact ⟨h11.q0, h11.q1, (h11.ent k e HE.out).1⟩))
          ((first
            | (go_at_call 23; refine (HXV.out _ ?_).mono ?_; (first | exact Kp0.refl _ | exact Kp0.drew (Kp0.refl _)); rintro e' w' ⟨rfl, hw⟩; obtain rfl := hw.symm)
            | (go_at_call 24; refine (HXR.out _ _ ?_ ?_).mono ?_; (first | exact Kp.alloc (Kp0.refl _) _ | exact Kp.alloc (Kp0.drew (Kp0.refl _)) _); exact RdI.one _ _; rintro e' w11 ⟨hu, vw, T11, σ11, rfl, h11, hn11⟩)))
        have HC11 := hid h11
        have HN11 := hid hn11
        clear s0 s1 s2 h11 hn11 HXR HXV HC10 HM10 HF10 HKW
        have s0 := HC11.out.q0
        have HRS : Hid (RdI w11 (.slice (some ⟨gs, os, none⟩) i sd) e.shape) := hid (by
          obtain ⟨-, -, -, -, r1, -⟩ := HC11.out.ent k e HE.out
          rw [HPA.out.1, HPA.out.2, HMM.out] at r1
          exact r1.1)
        go_wp2_with fail
        refine (HN11.out _ _ _ HC11.out HRS.out).mono ?_
        rintro e' w12 ⟨hw, T12, σ12, rfl, h12, hm12⟩
        have HC12 := hid h12
        have HM12 := hid hm12
        have HKW := hid h12.ki.keep
        clear s0 h12 hm12 HN11 HRS HC11
        cases vw with
        | false =>
          go_wp2
          go_quiet (fail)
          go_wp2
          go_ret
          exact ⟨rfl, HKW.out.drewN _⟩
        | true =>
          obtain ⟨F', V', B', a1, a2, a3⟩ := HM12.out rfl
          have HA := hid (And.intro a1 (And.intro a2 a3))
          clear a1 a2 a3 HM12
          have HX13 : Hid (∀ W, Kp0 w12 W → Calls Tryz.prog 22 #[.pointer (some ⟨pc, 0, none⟩), .int .i64 hw, .int .i64 e.h, .bool e.ro, .int .i64 v] W fun e' w13 => e' = .returned (.bool true) ∧ Kp0 w w13 ∧ ∃ T8 σ8, CG w w13 T8 pc ps σ8 E EL g1 g2 g3 g4 c1 c2 c3 c4 P) := hid (fun W kW => by
            have hb := HC12.out.bg.kp0 (fun _ _ => rfl) kW
            refine (bk_alike hb.cg HA.out.1 HA.out.2.2 HA.out.2.1 rfl e.ro rfl v HWV.out).mono ?_
            rintro e' w8 ⟨rfl, T8, σ8, x1, V8, x2⟩
            exact ⟨rfl, x1.cg.ki.keep, T8, σ8, x1.cg⟩)
          have s1 := HC12.out.q1
          have s4 := HC12.out.q4
          obtain ⟨s2, s5, -⟩ := HC12.out.ent k e HE.out
          go_wp2
          go_region_held3 (fun W => W.cell? ⟨pc, 1, none⟩ = some (.slice (some ⟨g1, 0, none⟩) EL c1) ∧ W.cell? ⟨pc, 4, none⟩ = some (.slice (some ⟨g4, 0, none⟩) EL c4) ∧ W.cell? ⟨g1, k, none⟩ = some (.int .i64 e.h) ∧ W.cell? ⟨g4, k, none⟩ = some (.bool e.ro)) (first | go_keep | (go_split_ands; exact ⟨h13.q1, h13.q4, (h13.ent k e HE.out).1, (h13.ent k e HE.out).2.1⟩))
            ((go_at_call 22; refine (HX13.out _ ?_).mono ?_; (first | exact Kp0.refl _ | exact Kp0.drew (Kp0.refl _)); rintro e' w13 ⟨rfl, hk13, T13, σ13, h13⟩))
          have HKW := hid hk13
          clear s1 s2 s4 s5 h13 hk13 HX13
          go_wp2
          go_ret
          exact ⟨rfl, HKW.out⟩

end Go.Proofs.YticbbncdcannlaaGreat
