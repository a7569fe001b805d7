/- The document's answer, walked: fresh. -/
import Derived.Test.YticbbncdcannlaaG02

namespace Go.Proofs.Yticbbncdcannlaa
open Go.RowKit

theorem RdI.kpne {S : Nat → Prop} {w w' : World} {v : Value} {xs : List Int} (h : RdI w v xs) (k : Kp S w w') (hs : xs ≠ [] → ∀ b, v.ownBlock = some b → ¬ S b) : RdI w' v xs := by
  by_cases e : xs = []
  · obtain ⟨a, cap, rfl, _⟩ := h
    exact ⟨a, cap, rfl, fun hne => absurd e hne⟩
  · exact h.kp k (hs e)

/-- Blocks of a space that may be written. -/
def Mut (o : Nat) (t : Nat × Nat) : Prop := t.1 = o ∧ 1 ≤ t.2 ∧ t.2 ≤ 5

/-- k numbers from a on. -/
def rng (a : Int) (k : Nat) : List Int := (List.range k).map fun i : Nat => a + i
theorem rng_succ (a : Int) (k : Nat) : rng a (k + 1) = rng a k ++ [a + k] := by simp [rng, List.range_succ]
theorem rng_length (a : Int) (k : Nat) : (rng a k).length = k := by simp [rng]

theorem placeIn_bd (t : Int → Bool) (size f i : Nat) (h : 0 ≤ placeIn t size f i) : placeIn t size f i + size ≤ (f : Int) + i := by
  induction f generalizing i with
  | zero => simp [placeIn] at h
  | succ f ih =>
    simp only [placeIn] at *
    split at h
    · rename_i he
      rw [if_pos he]
      omega
    · rename_i he
      rw [if_neg he]
      have := ih (i + 1) h
      omega

theorem place_bd (σ : Sp) (kind : Int) (size : Nat) (h : 0 ≤ σ.place kind size) : σ.place kind size + size ≤ σ.cap kind := by
  have := placeIn_bd (σ.taken kind) size (σ.cap kind) 0 h
  simpa [Sp.place] using this

/-- k cells written, from a on. -/
def Sp.puts (σ : Sp) (kind a : Int) (f : Nat → Int) : Nat → Sp
  | 0 => σ
  | k + 1 => (σ.puts kind a f k).put kind (a + k).toNat (f k)

theorem puts_cap (σ : Sp) (kind a : Int) (f : Nat → Int) (k : Nat) (j : Int) : (σ.puts kind a f k).cap j = σ.cap j := by
  induction k with
  | zero => rfl
  | succ k ih =>
    rw [← ih]
    simp only [Sp.puts, Sp.put, Sp.cap]
    by_cases hk : kind = 1
    · rw [if_pos hk]
    · rw [if_neg hk]
theorem puts_arrs (σ : Sp) (kind a : Int) (f : Nat → Int) (k : Nat) : (σ.puts kind a f k).arrs = σ.arrs ∧ (σ.puts kind a f k).bufs = σ.bufs ∧ (σ.puts kind a f k).n1 = σ.n1 ∧ (σ.puts kind a f k).n2 = σ.n2 ∧ (σ.puts kind a f k).v1.length = σ.v1.length ∧ (σ.puts kind a f k).v2.length = σ.v2.length := by
  induction k with
  | zero => exact ⟨rfl, rfl, rfl, rfl, rfl, rfl⟩
  | succ k ih =>
    obtain ⟨h1, h2, h3, h4, h5, h6⟩ := ih
    simp only [Sp.puts, Sp.put]
    split
    · exact ⟨h1, h2, h3, h4, by simp [h5], h6⟩
    · exact ⟨h1, h2, h3, h4, h5, by simp [h6]⟩

theorem puts_vals (σ : Sp) (kind a : Int) (f : Nat → Int) (k : Nat) (j : Int) : ((σ.puts kind a f k).vals j).length = (σ.vals j).length := by
  obtain ⟨-, -, -, -, h5, h6⟩ := puts_arrs σ kind a f k
  unfold Sp.vals
  split
  · exact h5
  · exact h6

/-- A new array with a buffer of its own. -/
def Sp.made (σ : Sp) (kind a : Int) (s : List Int) (m : Nat) (f : Nat → Int) : Sp :=
  ((σ.more ⟨kind, a, m⟩).puts kind a f m).lay ⟨kind, s, rng a m, false, σ.bufs.length⟩

theorem arr_ok_of {a : Arr} {σ σ' : Sp} (h : a.ok σ) (hc : ∀ j, σ'.cap j = σ.cap j) (hb : ∀ (i : Nat) (b : Buf), σ.bufs[i]? = some b → ∃ b', σ'.bufs[i]? = some b') : a.ok σ' :=
  ⟨h.kind, h.shape, h.length, fun j hj => by rw [hc]; exact h.inside j hj, by
    obtain ⟨b, hb'⟩ := h.buf
    exact hb _ b hb'⟩

theorem more_ok {σ : Sp} (h : σ.ok) (b : Buf) (hk : b.kind = 1 ∨ b.kind = 2) (h0 : 0 ≤ b.at') (h1 : 1 ≤ b.size) (h2 : b.size ≤ 3600) (h3 : b.at' + b.size ≤ σ.cap b.kind) (hm : σ.bufs.length + 1 ≤ 100000000) : (σ.more b).ok := by
  refine ⟨h.n1, h.n2, h.v1, h.v2, fun i a ha => ?_, fun i c hc => ?_, h.many, by simpa [Sp.more] using hm⟩
  · refine arr_ok_of (h.arr i a ha) (fun _ => rfl) (fun i b' hb' => ⟨b', ?_⟩)
    simp only [Sp.more]
    rw [List.getElem?_append_left (by
      rcases Nat.lt_or_ge i σ.bufs.length with h' | h'
      · exact h'
      · rw [List.getElem?_eq_none h'] at hb'; cases hb')]
    exact hb'
  · simp only [Sp.more] at hc
    rw [List.getElem?_append] at hc
    split at hc
    · exact h.buf i c hc
    · cases hj : i - σ.bufs.length with
      | zero =>
        rw [hj] at hc
        simp at hc
        subst hc
        exact ⟨hk, h0, h1, h2, h3⟩
      | succ j => rw [hj] at hc; simp at hc

theorem puts_ok {σ : Sp} (h : σ.ok) (kind a : Int) (f : Nat → Int) (k : Nat) : (σ.puts kind a f k).ok := by
  obtain ⟨h1, h2, h3, h4, h5, h6⟩ := puts_arrs σ kind a f k
  refine ⟨by rw [h3]; exact h.n1, by rw [h4]; exact h.n2, by rw [h5, h3]; exact h.v1, by rw [h6, h4]; exact h.v2, fun i b hb => ?_, fun i c hc => ?_, by rw [h1]; exact h.many, by rw [h2]; exact h.bufs⟩
  · rw [h1] at hb
    exact arr_ok_of (h.arr i b hb) (fun j => puts_cap σ kind a f k j) (fun i b' hb' => ⟨b', by rw [h2]; exact hb'⟩)
  · rw [h2] at hc
    rw [puts_cap]
    exact h.buf i c hc

end Go.Proofs.Yticbbncdcannlaa

/- The document's answer, walked: Make, Free, Get. -/
namespace Go.Proofs.Yticbbncdcannlaa
open Go.RowKit

theorem lay_ok {σ : Sp} (h : σ.ok) (a : Arr) (ha : a.ok σ) (hm : σ.arrs.length + 1 ≤ 100000000) : (σ.lay a).ok := by
  refine ⟨h.n1, h.n2, h.v1, h.v2, fun i b hb => ?_, h.buf, by simpa [Sp.lay] using hm, h.bufs⟩
  simp only [Sp.lay] at hb
  rw [List.getElem?_append] at hb
  split at hb
  · exact arr_ok_of (h.arr i b hb) (fun _ => rfl) (fun i b' hb' => ⟨b', hb'⟩)
  · cases hj : i - σ.arrs.length with
    | zero =>
      rw [hj] at hb
      simp at hb
      subst hb
      exact arr_ok_of ha (fun _ => rfl) (fun i b' hb' => ⟨b', hb'⟩)
    | succ j => rw [hj] at hb; simp at hb

theorem nth_rng (a : Int) (k j : Nat) (h : j < k) : nth (rng a k) j = a + j := by
  rw [nth_lt (by rw [rng_length]; exact h)]
  simp [rng]

theorem made_ok {σ : Sp} (h : σ.ok) (kind a : Int) (s : List Int) (f : Nat → Int) (hk : kind = 1 ∨ kind = 2) (hs : okShape s) (h0 : 0 ≤ a) (hc : a + (vol s).toNat ≤ σ.cap kind) (hm : σ.arrs.length + 1 ≤ 100000000) (hb : σ.bufs.length + 1 ≤ 100000000) :
    (σ.made kind a s (vol s).toNat f).ok := by
  have hv := vol_bd s hs.2.1 hs.1 s.length (Nat.le_refl _)
  rw [List.take_length] at hv
  have h1 := more_ok h ⟨kind, a, ((vol s).toNat : Nat)⟩ hk h0 (by show (1 : Int) ≤ (((vol s).toNat : Nat) : Int); omega) (by show (((vol s).toNat : Nat) : Int) ≤ 3600; have := hs.2.2; omega) hc hb
  have h2 := puts_ok h1 kind a f (vol s).toNat
  obtain ⟨e1, e2, -⟩ := puts_arrs (σ.more ⟨kind, a, ((vol s).toNat : Nat)⟩) kind a f (vol s).toNat
  refine lay_ok h2 _ ⟨hk, hs, ?_, fun j hj => ?_, ⟨⟨kind, a, ((vol s).toNat : Nat)⟩, ?_⟩⟩ (by rw [e1]; exact hm)
  · show ((rng a (vol s).toNat).length : Int) = vol s
    rw [rng_length]
    omega
  · have hj' : j < (vol s).toNat := by
      have : (rng a (vol s).toNat).length = (vol s).toNat := rng_length _ _
      rw [← this]; exact hj
    show 0 ≤ nth (rng a (vol s).toNat) j ∧ nth (rng a (vol s).toNat) j < _
    rw [nth_rng _ _ _ hj', puts_cap]
    constructor
    · omega
    · show a + j < (σ.cap kind : Int)
      omega
  · show _ = _
    rw [e2]
    simp [Sp.more]

/-- Make: the state behind it, the handle, the error. -/
def Sp.make (σ : Sp) (kind : Int) (s : List Int) : Sp × Int × Int :=
  if kind ≠ 1 ∧ kind ≠ 2 then (σ, 0, 3)
  else if shapeB s = false then (σ, 0, 4)
  else if 40 ≤ σ.live then (σ, 0, 7)
  else if σ.place kind (vol s).toNat < 0 then (σ, 0, 8)
  else (σ.made kind (σ.place kind (vol s).toNat) s (vol s).toNat fun _ => 0, (σ.arrs.length : Int) + 1, 0)

end Go.Proofs.Yticbbncdcannlaa

/- The document's answer, walked: Free. -/
namespace Go.Proofs.Yticbbncdcannlaa
open Go.RowKit

/-- Free: the state behind it, the error. -/
def Sp.free (σ : Sp) (h : Int) : Sp × Int := match σ.find h with
  | none => (σ, 2)
  | some _ => ({ σ with arrs := σ.arrs.set (ix h) none }, 0)

theorem free_ok {σ : Sp} (h : σ.ok) (d : Int) : (σ.free d).1.ok := by
  unfold Sp.free
  split
  · exact h
  · refine ⟨h.n1, h.n2, h.v1, h.v2, fun i b hb => ?_, h.buf, by simpa using h.many, h.bufs⟩
    simp only [List.getElem?_set] at hb
    split at hb
    · split at hb <;> simp at hb
    · exact arr_ok_of (h.arr i b hb) (fun _ => rfl) (fun i b' hb' => ⟨b', hb'⟩)

end Go.Proofs.Yticbbncdcannlaa

/- The document's answer, walked: Get, Set. -/
namespace Go.Proofs.Yticbbncdcannlaa
open Go.RowKit

/-- Get: the value, the error. -/
def Sp.get (σ : Sp) (h : Int) (i : List Int) : Int × Int := match σ.find h with
  | none => (0, 2)
  | some a => if rank a.shape i < 0 then (0, 5) else (nth (σ.vals a.kind) (nth a.cells (rank a.shape i).toNat).toNat, 0)

theorem OwI.slice {w : World} {v : Value} {xs : List Int} (h : OwI w v xs) (hne : 0 < xs.length) :
    ∃ g cap, v = .slice (some ⟨g, 0, none⟩) xs.length cap ∧ xs.length ≤ cap ∧ g < w.heap.size ∧ (∀ j, j < xs.length → w.cell? ⟨g, j, none⟩ = some (.int .i64 (nth xs j))) := by
  rcases row_form h with ⟨_, h0⟩ | ⟨g, cap, hv, hn, hg, hc⟩
  · omega
  · refine ⟨g, cap, hv, hn, hg, fun j hj => ?_⟩
    rw [hc j (by omega)]
    exact ints_get hj

theorem rank_cases (s i : List Int) (hs : sized s) : rank s i = -1 ∨ (0 ≤ rank s i ∧ rank s i < vol s) := by
  unfold rank
  split
  · rename_i h
    right
    have := rank_bd s i hs ((inBb_iff s i).1 h).2 s.length (Nat.le_refl _)
    rw [List.take_length] at this
    exact this
  · exact .inl rfl

theorem find_ok {σ : Sp} (h : σ.ok) {d : Int} {a : Arr} (hat : σ.arrs[ix d]? = some (some a)) : a.ok σ := h.arr _ _ hat

end Go.Proofs.Yticbbncdcannlaa
