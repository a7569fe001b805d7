/- The law's own world: keep, walked. -/
import Derived.Test.YticbbncdcannlaaGreatG03
import Derived.Test.YticbbncdcannlaaGreatG02
import Derived.Deep.QuietTactic
import Derived.BigQuiet

namespace Go.Proofs.YticbbncdcannlaaGreat
open Go.RowKit

theorem OwI.store {w : World} {ao : Option Addr} {n c : Nat} {xs : List Int} (h : OwI w (.slice ao n c) xs) (k : Nat) (m : Int) (hk : k < xs.length) :
    ∃ g, ao = some ⟨g, 0, none⟩ ∧ OwI (w.setCell ⟨g, k, none⟩ (.int .i64 m)) (.slice ao n c) (xs.set k m) ∧ w.cell? ⟨g, k, none⟩ = some (.int .i64 (nth xs k)) ∧ w.frozen? ⟨g, k, none⟩ = false := by
  obtain ⟨g, cap, hv, hcap, hg, hc⟩ := h.slice (by omega)
  simp at hv
  obtain ⟨rfl, rfl, rfl⟩ := hv
  refine ⟨g, rfl, ?_, hc k hk, World.ownsRow.frozenAt h k⟩
  have := (World.ownsRow.stored h k (.int .i64 m)).1
  unfold OwI
  rw [List.length_set]
  have e : (ints xs).set k (.int .i64 m) = ints (xs.set k m) := by simp [ints, List.map_set]
  rw [← e]
  exact this

theorem Same.tags {w : World} {v : Value} {m : Int} {T T' : Tags} {t : Nat × Nat} (hs : Same w v m) (hv : Tagged T v t) (k : TagsTo w T T') : Tagged T' v t := fun b e => by
  obtain ⟨_, _, _, hb⟩ := hs
  rw [k b (hb b e)]; exact hv b e

theorem WAt.tags {T T' : Tags} {o : Nat} {w : World} {p : Nat} {S : WS} (h : WAt T o w p S) (k : TagsTo w T T') : WAt T' o w p S :=
  { blk := h.blk, sd := h.sd, li := h.li, ma := h.ma, tu := h.tu, len := h.len
    okl := fun i v m hv hm => ⟨(h.okl i v m hv hm).1, (h.okl i v m hv hm).1.tags (h.okl i v m hv hm).2 k⟩
    okt := fun i v hv => ⟨(h.okt i v hv).1, (h.okt i v hv).1.tags (h.okt i v hv).2 k⟩
    tp := (k p (lt_of_heap h.blk)).trans h.tp
    ts := fun b hb => (k b (own_lt h.sd hb)).trans (h.ts b hb)
    tl := fun b hb => (k b (own_lt h.li hb)).trans (h.tl b hb)
    tm := fun b hb => (k b (own_lt h.ma hb)).trans (h.tm b hb)
    tt := fun b hb => (k b (own_lt h.tu hb)).trans (h.tt b hb)
    nl := h.nl, nt := h.nt, l0 := h.l0, l1 := h.l1 }

end Go.Proofs.YticbbncdcannlaaGreat

/- What the law asks of a program's space: its contracts, as one notion; the state of the law's world with its spaces. -/
namespace Go.Proofs.YticbbncdcannlaaGreat
open Go.RowKit

/-- The space of owner o is σ' behind the call; all that is not his is as it was. -/
def Step (R : Tags → Nat → World → Nat → Sp → Prop) (T : Tags) (o : Nat) (w : World) (p : Nat) (σ' : Sp) (w' : World) : Prop :=
  ∃ T', TagsTo w T T' ∧ R T' o w' p σ' ∧ Kp (fun b => (T b).1 = o) w w'

/-- Likewise; and a list came out, in new memory, which bears the tag t. -/
def StepL (R : Tags → Nat → World → Nat → Sp → Prop) (T : Tags) (o : Nat) (w : World) (p : Nat) (σ' : Sp) (w' : World) (t : Nat × Nat) (v : Value) (xs : List Int) : Prop :=
  ∃ T', TagsTo w T T' ∧ R T' o w' p σ' ∧ Kp (fun b => (T b).1 = o) w w' ∧ ∃ ao c, v = .slice ao xs.length c ∧ OwI w' (.slice ao xs.length c) xs ∧ Tagged T' (.slice ao xs.length c) t ∧ ∀ b, (Value.slice ao xs.length c).ownBlock = some b → w.heap.size ≤ b

theorem YRep.kp {T : Tags} {o : Nat} {Z : Nat → Prop} {w w' : World} {p : Nat} {σ : Sp} (h : YRep T o w p σ) (k : Kp Z w w') (hs : ∀ b, (T b).1 = o → ¬ Z b) : YRep T o w' p σ := by
  obtain ⟨h1, L, h2⟩ := h
  exact ⟨h1, L, h2.kp k hs⟩
theorem YRep.tags {T T' : Tags} {o : Nat} {w : World} {p : Nat} {σ : Sp} (h : YRep T o w p σ) (k : TagsTo w T T') : YRep T' o w p σ := by
  obtain ⟨h1, L, h2⟩ := h
  exact ⟨h1, L, h2.tags k⟩

/-- What a program's space must keep to. -/
structure XC (R : Tags → Nat → World → Nat → Sp → Prop) : Prop where
  kp : ∀ {T : Tags} {o : Nat} {Z : Nat → Prop} {w w' : World} {p : Nat} {σ : Sp}, R T o w p σ → Kp Z w w' → (∀ b, (T b).1 = o → ¬ Z b) → R T o w' p σ
  tags : ∀ {T T' : Tags} {o : Nat} {w : World} {p : Nat} {σ : Sp}, R T o w p σ → TagsTo w T T' → R T' o w p σ
  newNo : ∀ (b i : Int) (w : World), mayNew b i = false → Calls Tryz.prog 35 #[.int .i64 b, .int .i64 i] w fun e w' => e = .returned (.tuple #[.pointer none, .int .i64 1]) ∧ Kp0 w w'
  newYes : ∀ (b i : Nat) (w : World) (T : Tags) (o : Nat), b ≤ 10000 → i ≤ 10000 → Calls Tryz.prog 35 #[.int .i64 (b : Int), .int .i64 (i : Int)] w fun e w' => ∃ p, e = .returned (.tuple #[.pointer (some ⟨p, 0, none⟩), .int .i64 0]) ∧ ∃ T', TagsTo w T T' ∧ R T' o w' p (Sp.new b i) ∧ Kp0 w w'
  make : ∀ {T : Tags} {o : Nat} {w : World} {p : Nat} {σ : Sp} (kind : Int) (vs : Value) (s : List Int), R T o w p σ → RdI w vs s → (∀ b, vs.ownBlock = some b → (T b).1 ≠ o) → s.length ≤ 1000000000 → σ.arrs.length + 1 ≤ 100000000 → σ.bufs.length + 1 ≤ 100000000 →
    Calls Tryz.prog 28 #[.pointer (some ⟨p, 0, none⟩), .int .i64 kind, vs] w fun e w' => e = .returned (.tuple #[.int .i64 (σ.make kind s).2.1, .int .i64 (σ.make kind s).2.2]) ∧ Step R T o w p (σ.make kind s).1 w'
  free : ∀ {T : Tags} {o : Nat} {w : World} {p : Nat} {σ : Sp} (h : Int), R T o w p σ → Calls Tryz.prog 25 #[.pointer (some ⟨p, 0, none⟩), .int .i64 h] w fun e w' => e = .returned (.int .i64 (σ.free h).2) ∧ Step R T o w p (σ.free h).1 w'
  set : ∀ {T : Tags} {o : Nat} {w : World} {p : Nat} {σ : Sp} (h v : Int) (vi : Value) (i : List Int), R T o w p σ → RdI w vi i → (∀ b, vi.ownBlock = some b → (T b).1 ≠ o) → i.length ≤ 1000000000 → IntKind.i64.wrap v = v →
    Calls Tryz.prog 36 #[.pointer (some ⟨p, 0, none⟩), .int .i64 h, .int .i64 v, vi] w fun e w' => e = .returned (.int .i64 (σ.set h v i).2) ∧ Step R T o w p (σ.set h v i).1 w'
  get : ∀ {T : Tags} {o : Nat} {w : World} {p : Nat} {σ : Sp} (h : Int) (vi : Value) (i : List Int), R T o w p σ → RdI w vi i → (∀ b, vi.ownBlock = some b → (T b).1 ≠ o) → i.length ≤ 1000000000 →
    Calls Tryz.prog 37 #[.pointer (some ⟨p, 0, none⟩), .int .i64 h, vi] w fun e w' => e = .returned (.tuple #[.int .i64 (σ.get h i).1, .int .i64 (σ.get h i).2]) ∧ Step R T o w p σ w'
  fill : ∀ {T : Tags} {o : Nat} {w : World} {p : Nat} {σ : Sp} (h v : Int), R T o w p σ → IntKind.i64.wrap v = v →
    Calls Tryz.prog 64 #[.pointer (some ⟨p, 0, none⟩), .int .i64 h, .int .i64 v] w fun e w' => e = .returned (.int .i64 (σ.fill h v).2) ∧ Step R T o w p (σ.fill h v).1 w'
  values : ∀ {T : Tags} {o : Nat} {w : World} {p : Nat} {σ : Sp} (h : Int) (t : Nat × Nat), R T o w p σ → t.1 ≠ o →
    Calls Tryz.prog 26 #[.pointer (some ⟨p, 0, none⟩), .int .i64 h] w fun e w' => ∃ v, e = .returned (.tuple #[v, .int .i64 (σ.values h).2]) ∧ StepL R T o w p σ w' t v (σ.values h).1
  look : ∀ {T : Tags} {o : Nat} {w : World} {p : Nat} {σ : Sp} (h : Int) (t : Nat × Nat), R T o w p σ → t.1 ≠ o →
    Calls Tryz.prog 49 #[.pointer (some ⟨p, 0, none⟩), .int .i64 h] w fun e w' => ∃ v, e = .returned (.tuple #[.agg #[.int .i64 (σ.look h).1, v, .bool (σ.look h).2.2.1], .int .i64 (σ.look h).2.2.2]) ∧ StepL R T o w p σ w' t v (σ.look h).2.1
  store : ∀ {T : Tags} {o : Nat} {w : World} {p : Nat} {σ : Sp} (kind : Int), R T o w p σ →
    Calls Tryz.prog 27 #[.pointer (some ⟨p, 0, none⟩), .int .i64 kind] w fun e w' => e = .returned (.tuple #[.agg #[.int .i64 (σ.store kind).1, .int .i64 (σ.store kind).2.1, .int .i64 (σ.store kind).2.2.1], .int .i64 (σ.store kind).2.2.2]) ∧ Step R T o w p σ w'

/-- A side: its block, the two spaces' blocks, what they are. -/
structure SD where
  sb : Nat
  px : Nat
  py : Nat
  σx : Sp
  σy : Sp

/-- One side of the law's world. -/
structure Side (R : Tags → Nat → World → Nat → Sp → Prop) (T : Tags) (w : World) (i : Nat) (d : SD) : Prop where
  blk : w.heap[d.sb]? = some (.cells #[.pointer (some ⟨d.px, 0, none⟩), .pointer (some ⟨d.py, 0, none⟩)] 85 (0, 0))
  tag : T d.sb = (6, 0)
  x : R T (10 + 2 * i) w d.px d.σx
  y : YRep T (11 + 2 * i) w d.py d.σy

/-- The law's world with its sides: the world's owner is 5, the sides' blocks' 6, the i-th side's spaces' 10 + 2 i and 11 + 2 i. -/
structure Inv (R : Tags → Nat → World → Nat → Sp → Prop) (T : Tags) (w : World) (p : Nat) (S : WS) (L : List SD) : Prop where
  wat : WAt T 5 w p S
  sides : S.sides = L.map SD.sb
  side : ∀ (i : Nat) (d : SD), L[i]? = some d → Side R T w i d

theorem Side.kp {R : Tags → Nat → World → Nat → Sp → Prop} (X : XC R) {T T' : Tags} {Z : Nat → Prop} {w w' : World} {i : Nat} {d : SD} (h : Side R T w i d) (ht : TagsTo w T T') (k : Kp Z w w') (hs : ∀ b, b < w.heap.size → (T b).1 = 6 ∨ (T b).1 = 10 + 2 * i ∨ (T b).1 = 11 + 2 * i → ¬ Z b) : Side R T' w' i d := by
  have k' : Kp (fun b => b < w.heap.size ∧ Z b) w w' := k.mono (fun b hb e => ⟨hb, e⟩)
  have hb := lt_of_heap h.blk
  refine ⟨k'.heap h.blk (fun e => hs _ hb (.inl (by rw [h.tag])) e.2), (ht _ hb).trans h.tag, X.kp (X.tags h.x ht) k' (fun b e z => hs b z.1 ?_ z.2), (h.y.tags ht).kp k' (fun b e z => hs b z.1 ?_ z.2)⟩
  · rw [ht b z.1] at e; exact .inr (.inl e)
  · rw [ht b z.1] at e; exact .inr (.inr e)

theorem Inv.kp0 {R : Tags → Nat → World → Nat → Sp → Prop} (X : XC R) {T T' : Tags} {w w' : World} {p : Nat} {S : WS} {L : List SD} (h : Inv R T w p S L) (ht : TagsTo w T T') (k : Kp0 w w') : Inv R T' w' p S L :=
  ⟨(h.wat.tags ht).kp k (fun _ _ e => e), h.sides, fun j e he => (h.side j e he).kp X ht k (fun _ _ _ e => e)⟩

end Go.Proofs.YticbbncdcannlaaGreat

/- The document's answer, walked: Index. -/
namespace Go.Proofs.YticbbncdcannlaaGreat
open Go.RowKit

/-- What is left of a rank behind the last m axes. -/
def remTo (s : List Int) (r : Int) : Nat → Int
  | 0 => r
  | m + 1 => remTo s r m / nth s (s.length - 1 - m)

/-- The index of a rank. -/
def idx (s : List Int) (r : Int) : List Int := (List.range s.length).map fun k => remTo s r (s.length - 1 - k) % nth s k

theorem idx_length (s : List Int) (r : Int) : (idx s r).length = s.length := by simp [idx]
theorem idx_nth (s : List Int) (r : Int) (k : Nat) (h : k < s.length) : nth (idx s r) k = remTo s r (s.length - 1 - k) % nth s k := by
  rw [nth_lt (by rw [idx_length]; exact h)]
  simp [idx]

theorem remTo_bd (s : List Int) (r : Int) (hr : 0 ≤ r) (hs : sized s) (m : Nat) (hm : m ≤ s.length) : 0 ≤ remTo s r m ∧ remTo s r m ≤ r := by
  induction m with
  | zero => simp [remTo, hr]
  | succ m ih =>
    obtain ⟨a, b⟩ := ih (by omega)
    obtain ⟨s1, -⟩ := hs (s.length - 1 - m) (by omega)
    simp only [remTo]
    refine ⟨Int.ediv_nonneg a (by omega), Int.le_trans (Int.ediv_le_self _ a) b⟩

/-- An index is one of its shape. -/
theorem idx_in (s : List Int) (r : Int) (hs : sized s) : inB s (idx s r) := by
  refine ⟨(idx_length s r).symm, fun j hj => ?_⟩
  obtain ⟨s1, -⟩ := hs j hj
  rw [idx_nth s r j hj]
  exact ⟨Int.emod_nonneg _ (by omega), Int.emod_lt_of_pos _ (by omega)⟩

theorem remTo_vol (s : List Int) (r : Int) (hs : sized s) (h1 : r < vol s) (m : Nat) (hm : m ≤ s.length) : remTo s r m < vol (s.take (s.length - m)) := by
  induction m with
  | zero => simpa [remTo] using h1
  | succ m ih =>
    have := ih (by omega)
    obtain ⟨s1, -⟩ := hs (s.length - 1 - m) (by omega)
    rw [show s.length - m = (s.length - 1 - m) + 1 by omega, vol_take s _ (by omega)] at this
    simp only [remTo]
    rw [show s.length - (m + 1) = s.length - 1 - m by omega]
    exact Int.ediv_lt_of_lt_mul (by omega) this

theorem rankTo_idx (s : List Int) (r : Int) (hs : sized s) (h0 : 0 ≤ r) (h1 : r < vol s) (m : Nat) (hm : m ≤ s.length) : rankTo s (idx s r) (s.length - m) = remTo s r m := by
  have key : ∀ k, k ≤ s.length → rankTo s (idx s r) k = remTo s r (s.length - k) := by
    intro k
    induction k with
    | zero =>
      intro _
      have a := remTo_vol s r hs h1 s.length (Nat.le_refl _)
      have b := remTo_bd s r h0 hs s.length (Nat.le_refl _)
      simp [vol] at a
      simp only [rankTo, Nat.sub_zero]
      omega
    | succ k ih =>
      intro hk
      have e := ih (by omega)
      simp only [rankTo]
      rw [e, idx_nth s r k (by omega)]
      have : remTo s r (s.length - k) = remTo s r (s.length - 1 - k) / nth s k := by
        rw [show s.length - k = (s.length - 1 - k) + 1 by omega]
        simp only [remTo]
        rw [show s.length - 1 - (s.length - 1 - k) = k by omega]
      rw [this, show s.length - (k + 1) = s.length - 1 - k by omega, Int.mul_comm]
      exact Int.mul_ediv_add_emod _ _
  have := key (s.length - m) (by omega)
  rwa [show s.length - (s.length - m) = m by omega] at this

/-- The rank of the index of a rank is that rank. -/
theorem rank_idx (s : List Int) (r : Int) (hs : sized s) (h0 : 0 ≤ r) (h1 : r < vol s) : rank s (idx s r) = r := by
  unfold rank
  rw [if_pos ((inBb_iff _ _).2 (idx_in s r hs))]
  exact rankTo_idx s r hs h0 h1 0 (by omega)

/-- The index of the rank of an index is that index. -/
theorem idx_rank (s i : List Int) (hs : sized s) (hi : inB s i) : idx s (rankTo s i s.length) = i := by
  have key : ∀ m, m ≤ s.length → remTo s (rankTo s i s.length) m = rankTo s i (s.length - m) := by
    intro m
    induction m with
    | zero => intro _; rfl
    | succ m ih =>
      intro hm
      simp only [remTo]
      rw [ih (by omega)]
      obtain ⟨k, hk⟩ : ∃ k, s.length - m = k + 1 := ⟨s.length - m - 1, by omega⟩
      obtain ⟨s1, -⟩ := hs k (by omega)
      obtain ⟨i1, i2⟩ := hi.2 k (by omega)
      rw [hk, show s.length - 1 - m = k by omega, show s.length - (m + 1) = k by omega]
      simp only [rankTo]
      rw [Int.add_comm, Int.add_mul_ediv_right _ _ (by omega), Int.ediv_eq_zero_of_lt i1 i2, Int.zero_add]
  refine ext_nth (by rw [idx_length]; exact hi.1) (fun j hj => ?_)
  rw [idx_length] at hj
  rw [idx_nth s _ j hj, key _ (by omega), show s.length - (s.length - 1 - j) = j + 1 by omega]
  obtain ⟨s1, -⟩ := hs j hj
  obtain ⟨i1, i2⟩ := hi.2 j hj
  simp only [rankTo]
  rw [Int.add_comm, Int.add_mul_emod_self_right]
  exact Int.emod_eq_of_lt i1 i2

/-- The numbers from the k-th on, 0 ahead of them. -/
def tailFrom (l : List Int) (k : Nat) : List Int := (List.range l.length).map fun j => if k ≤ j then nth l j else 0

theorem tailFrom_length (l : List Int) (k : Nat) : (tailFrom l k).length = l.length := by simp [tailFrom]
theorem tailFrom_zero (l : List Int) : tailFrom l 0 = l := by
  refine ext_nth (tailFrom_length l 0) (fun j hj => ?_)
  rw [nth_lt hj]
  simp [tailFrom]
theorem tailFrom_all (l : List Int) (n : Nat) (hn : l.length = n) : (ints (tailFrom l n)).toArray = rep n (.int .i64 0) := by
  unfold rep
  congr 1
  apply List.ext_getElem
  · simp [ints, tailFrom, hn]
  · intro i h1 h2
    simp [ints, tailFrom, hn] at h1 ⊢
    omega
theorem tailFrom_set (l : List Int) (k : Nat) (hk : k < l.length) : (ints (tailFrom l (k + 1))).toArray.setIfInBounds k (.int .i64 (nth l k)) = (ints (tailFrom l k)).toArray := by
  apply Array.ext_getElem?
  intro i
  by_cases hi : i < l.length
  · by_cases hik : i = k
    · subst hik
      rw [Array.getElem?_setIfInBounds_self_of_lt (by simp [ints, tailFrom]; exact hi)]
      simp [ints, tailFrom, hi]
    · rw [Array.getElem?_setIfInBounds_ne (by omega)]
      simp [ints, tailFrom, hi]
      by_cases h : k ≤ i
      · rw [if_pos h, if_pos (by omega)]
      · rw [if_neg h, if_neg (by omega)]
  · rw [Array.getElem?_eq_none (by simp [ints, tailFrom]; omega), Array.getElem?_eq_none (by simp [ints, tailFrom]; omega)]

end Go.Proofs.YticbbncdcannlaaGreat

/- The document's answer, walked: Meant. -/
namespace Go.Proofs.YticbbncdcannlaaGreat
open Go.RowKit

/-- Can a shape be stretched to another, as far as its first k axes say? -/
def fitsTo (s t : List Int) (k : Nat) : Prop := ∀ j, j < k → nth s j = nth t (t.length - s.length + j) ∨ nth s j = 1

/-- Can a shape be stretched to another? -/
def stretchB (s t : List Int) : Bool := decide (s.length ≤ t.length) && (List.range s.length).all fun j => decide (nth s j = nth t (t.length - s.length + j)) || decide (nth s j = 1)
theorem stretchB_iff (s t : List Int) : stretchB s t = true ↔ s.length ≤ t.length ∧ fitsTo s t s.length := by
  simp [stretchB, fitsTo]

/-- The index that one of a stretched shape means. -/
def meantOf (s t l : List Int) : List Int := (List.range s.length).map fun k => if 1 < nth s k then nth l (t.length - s.length + k) else 0
theorem meantOf_length (s t l : List Int) : (meantOf s t l).length = s.length := by simp [meantOf]
theorem meantOf_nth (s t l : List Int) (k : Nat) (h : k < s.length) : nth (meantOf s t l) k = if 1 < nth s k then nth l (t.length - s.length + k) else 0 := by
  rw [nth_lt (by rw [meantOf_length]; exact h)]
  simp [meantOf]

/-- For each index of a shape the rank of the one that it means. -/
def meant (s t : List Int) : List Int := (List.range (vol t).toNat).map fun r : Nat => rank s (meantOf s t (idx t r))

/-- The first k numbers, 0 behind them. -/
def headTo (l : List Int) (k : Nat) : List Int := (List.range l.length).map fun j => if j < k then nth l j else 0
theorem headTo_length (l : List Int) (k : Nat) : (headTo l k).length = l.length := by simp [headTo]
theorem headTo_all (l : List Int) (n : Nat) (hn : l.length = n) : headTo l n = l := by
  refine ext_nth (headTo_length l n) (fun j hj => ?_)
  rw [nth_lt hj]
  rw [headTo_length] at hj
  simp [headTo, hn ▸ hj]
theorem headTo_zero (l : List Int) (n : Nat) (hn : l.length = n) : (ints (headTo l 0)).toArray = rep n (.int .i64 0) := by
  unfold rep
  congr 1
  apply List.ext_getElem
  · simp [ints, headTo, hn]
  · intro i h1 h2
    simp [ints, headTo]
theorem headTo_set (l : List Int) (k : Nat) (hk : k < l.length) : (ints (headTo l k)).toArray.setIfInBounds k (.int .i64 (nth l k)) = (ints (headTo l (k + 1))).toArray := by
  apply Array.ext_getElem?
  intro i
  by_cases hi : i < l.length
  · by_cases hik : i = k
    · subst hik
      rw [Array.getElem?_setIfInBounds_self_of_lt (by simp [ints, headTo]; exact hi)]
      simp [ints, headTo, hi]
    · rw [Array.getElem?_setIfInBounds_ne (by omega)]
      simp [ints, headTo, hi]
      by_cases h : i < k
      · rw [if_pos h, if_pos (by omega)]
      · rw [if_neg h, if_neg (by omega)]
  · rw [Array.getElem?_eq_none (by simp [ints, headTo]; omega), Array.getElem?_eq_none (by simp [ints, headTo]; omega)]
theorem headTo_same (l : List Int) (k : Nat) (h0 : nth l k = 0) : headTo l k = headTo l (k + 1) := by
  unfold headTo
  refine List.map_congr_left (fun i _ => ?_)
  by_cases h : i < k
  · rw [if_pos h, if_pos (by omega)]
  · by_cases hik : i = k
    · subst hik; rw [if_neg h, if_pos (by omega), h0]
    · rw [if_neg h, if_neg (by omega)]

end Go.Proofs.YticbbncdcannlaaGreat

/- The document's answer, walked: Meant, where it can be. -/
namespace Go.Proofs.YticbbncdcannlaaGreat
open Go.RowKit

theorem meant_length (s t : List Int) : (meant s t).length = (vol t).toNat := by simp [meant]
theorem meantOf_small (s t l : List Int) (k : Nat) (h : k < s.length) (hk : ¬ 1 < nth s k) : nth (meantOf s t l) k = 0 := by rw [meantOf_nth s t l k h, if_neg hk]
theorem meantOf_big (s t l : List Int) (k : Nat) (h : k < s.length) (hk : 1 < nth s k) : nth (meantOf s t l) k = nth l (t.length - s.length + k) := by rw [meantOf_nth s t l k h, if_pos hk]

theorem rd_of_blk {w : World} {b n : Nat} {xs : List Int} {t : TypeId} (h : w.heap[b]? = some (.cells (ints xs).toArray t (0, 0))) (hn : xs.length = n) : RdI w (.slice (some ⟨b, 0, none⟩) n n) xs :=
  ⟨_, _, by rw [hn], fun _ => ⟨b, 0, rfl, fun j hj => by
    rw [Nat.zero_add, cell_of_row _ b j _ _ _ h]
    simpa using ints_get hj⟩⟩

end Go.Proofs.YticbbncdcannlaaGreat

/- The document's answer, walked: Meant, whole. -/
namespace Go.Proofs.YticbbncdcannlaaGreat
open Go.RowKit

theorem rd_parts {w : World} {v : Value} {xs : List Int} (h : RdI w v xs) : ∃ a c, v = .slice a xs.length c ∧ (0 < xs.length → ∃ g o, a = some ⟨g, o, none⟩ ∧ ∀ j, j < xs.length → w.cell? ⟨g, o + j, none⟩ = some (.int .i64 (nth xs j))) := by
  obtain ⟨a, c, e, h⟩ := h
  exact ⟨a, c, e, fun hp => h (fun e' => by rw [e'] at hp; simp at hp)⟩

/-- What is meant is an index: its rank is one of the stretched shape's own. -/
theorem meantOf_in (s t l : List Int) (hs : sized s) (hst : s.length ≤ t.length) (hf : fitsTo s t s.length) (hl : inB t l) : inB s (meantOf s t l) := by
  refine ⟨(meantOf_length s t l).symm, fun j hj => ?_⟩
  obtain ⟨s1, -⟩ := hs j hj
  by_cases hb : 1 < nth s j
  · rw [meantOf_big s t l j hj hb]
    have := hl.2 (t.length - s.length + j) (by omega)
    rcases hf j hj with e | e
    · rw [e]; exact this
    · omega
  · rw [meantOf_small s t l j hj hb]
    omega

theorem meant_bd (s t : List Int) (hs : okShape s) (ht : okShape t) (h : stretchB s t = true) (j : Nat) (hj : j < (vol t).toNat) : 0 ≤ nth (meant s t) j ∧ nth (meant s t) j < vol s := by
  obtain ⟨hst, hf⟩ := (stretchB_iff s t).1 h
  rw [nth_lt (by rw [meant_length]; exact hj)]
  simp only [meant, List.getElem_map, List.getElem_range]
  have hin := meantOf_in s t (idx t j) hs.2.1 hst hf (idx_in t j ht.2.1)
  unfold rank
  rw [if_pos ((inBb_iff _ _).2 hin)]
  have := rank_bd s (meantOf s t (idx t j)) hs.2.1 hin.2 s.length (Nat.le_refl _)
  rwa [List.take_length] at this

end Go.Proofs.YticbbncdcannlaaGreat

/- The document's answer, walked: Shared. -/
namespace Go.Proofs.YticbbncdcannlaaGreat
open Go.RowKit

/-- Have two arrays a cell in common? -/
def Arr.shares (x y : Arr) : Bool := (List.range x.cells.length).any fun i => (List.range y.cells.length).any fun j => decide (x.kind = y.kind) && decide (nth x.cells i = nth y.cells j)
theorem shares_iff (x y : Arr) : x.shares y = true ↔ ∃ i j, i < x.cells.length ∧ j < y.cells.length ∧ x.kind = y.kind ∧ nth x.cells i = nth y.cells j := by
  simp only [Arr.shares, List.any_eq_true, List.mem_range, Bool.and_eq_true, decide_eq_true_eq]
  exact ⟨fun ⟨i, hi, j, hj, h⟩ => ⟨i, j, hi, hj, h⟩, fun ⟨i, j, hi, hj, h⟩ => ⟨i, hi, j, hj, h⟩⟩

/-- Shared: the answer, the error. -/
def Sp.shared (σ : Sp) (a b : Int) : Bool × Int := match σ.find a, σ.find b with
  | some x, some y => (x.shares y, 0)
  | _, _ => (false, 2)

end Go.Proofs.YticbbncdcannlaaGreat
