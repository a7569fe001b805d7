/- The document's answer, walked: Set. -/
import Derived.Test.YticbbncdcannlaaG03
import Derived.Deep.RegionHeld3
import Derived.Test.YticbbncdcannlaaG02

namespace Go.Proofs.Yticbbncdcannlaa
open Go.RowKit

/-- Set: the state behind it, the error. -/
def Sp.set (σ : Sp) (h v : Int) (i : List Int) : Sp × Int := match σ.find h with
  | none => (σ, 2)
  | some a => if a.ro = true then (σ, 6) else if rank a.shape i < 0 then (σ, 5) else (σ.put a.kind (nth a.cells (rank a.shape i).toNat).toNat (asK a.kind v), 0)

theorem put_ok {σ : Sp} (h : σ.ok) (kind : Int) (c : Nat) (v : Int) : (σ.put kind c v).ok := by
  have := puts_ok h kind (c : Int) (fun _ => v) 1
  simpa [Sp.puts] using this

end Go.Proofs.Yticbbncdcannlaa

/- The document's answer, walked: Fill. -/
namespace Go.Proofs.Yticbbncdcannlaa
open Go.RowKit

/-- The first k cells of a list written. -/
def Sp.writes (σ : Sp) (kind : Int) (cs : List Int) (f : Nat → Int) : Nat → Sp
  | 0 => σ
  | k + 1 => (σ.writes kind cs f k).put kind (nth cs k).toNat (f k)

theorem put_same (σ : Sp) (kind : Int) (c : Nat) (v : Int) : (σ.put kind c v).arrs = σ.arrs ∧ (σ.put kind c v).bufs = σ.bufs ∧ (σ.put kind c v).n1 = σ.n1 ∧ (σ.put kind c v).n2 = σ.n2 ∧ (∀ j, (σ.put kind c v).cap j = σ.cap j) := by
  unfold Sp.put
  split <;> exact ⟨rfl, rfl, rfl, rfl, fun _ => rfl⟩

theorem writes_ok {σ : Sp} (h : σ.ok) (kind : Int) (cs : List Int) (f : Nat → Int) (k : Nat) : (σ.writes kind cs f k).ok := by
  induction k with
  | zero => exact h
  | succ k ih => exact put_ok ih _ _ _

theorem writes_same (σ : Sp) (kind : Int) (cs : List Int) (f : Nat → Int) (k : Nat) : (σ.writes kind cs f k).arrs = σ.arrs ∧ (σ.writes kind cs f k).bufs = σ.bufs ∧ (∀ j, (σ.writes kind cs f k).cap j = σ.cap j) := by
  induction k with
  | zero => exact ⟨rfl, rfl, fun _ => rfl⟩
  | succ k ih =>
    obtain ⟨h1, h2, h3⟩ := ih
    obtain ⟨e1, e2, -, -, e5⟩ := put_same (σ.writes kind cs f k) kind (nth cs k).toNat (f k)
    exact ⟨e1.trans h1, e2.trans h2, fun j => (e5 j).trans (h3 j)⟩

/-- Fill: the state behind it, the error. -/
def Sp.fill (σ : Sp) (h v : Int) : Sp × Int := match σ.find h with
  | none => (σ, 2)
  | some a => if a.ro = true then (σ, 6) else (σ.writes a.kind a.cells (fun _ => asK a.kind v) a.cells.length, 0)

theorem fill_ok {σ : Sp} (h : σ.ok) (d v : Int) : (σ.fill d v).1.ok := by
  unfold Sp.fill
  split
  · exact h
  · split
    · exact h
    · exact writes_ok h _ _ _ _

end Go.Proofs.Yticbbncdcannlaa

/- The document's answer, walked: values, Values. -/
namespace Go.Proofs.Yticbbncdcannlaa
open Go.RowKit

/-- The values of an array. -/
def Sp.valuesOf (σ : Sp) (a : Arr) : List Int := a.cells.map fun c => nth (σ.vals a.kind) c.toNat

theorem valuesOf_take (σ : Sp) (a : Arr) (k : Nat) (h : k < a.cells.length) : (σ.valuesOf a).take (k + 1) = (σ.valuesOf a).take k ++ [nth (σ.vals a.kind) (nth a.cells k).toNat] := by
  rw [List.take_succ_eq_append_getElem (by simpa [Sp.valuesOf] using h)]
  congr 1
  simp [Sp.valuesOf, nth_lt h]

end Go.Proofs.Yticbbncdcannlaa

/- The document's answer, walked: Values, Look. -/
namespace Go.Proofs.Yticbbncdcannlaa
open Go.RowKit

/-- Values: the list, the error. -/
def Sp.values (σ : Sp) (h : Int) : List Int × Int := match σ.find h with
  | none => ([], 2)
  | some a => (σ.valuesOf a, 0)

/-- A list that comes out: in a block that is new. -/
def NewI (w w' : World) (v : Value) (xs : List Int) : Prop := ∃ ao c, v = .slice ao xs.length c ∧ OwI w' (.slice ao xs.length c) xs ∧ Kp0 w w' ∧ ∀ b, (Value.slice ao xs.length c).ownBlock = some b → w.heap.size ≤ b

theorem NewI.nil {w w' : World} (k : Kp0 w w') : NewI w w' (.slice none 0 0) [] := ⟨none, 0, rfl, OwI.nil _, k, fun b hb => by simp [Value.ownBlock] at hb⟩

/-- Look: kind, shape, read-only, the error. -/
def Sp.look (σ : Sp) (h : Int) : Int × List Int × Bool × Int := match σ.find h with
  | none => (0, [], false, 2)
  | some a => (a.kind, a.shape, a.ro, 0)

end Go.Proofs.Yticbbncdcannlaa

/- A list of ints that is made whole and filled place by place. No program but its types. -/
namespace Go.Proofs.Yticbbncdcannlaa
open Go.RowKit

/-- The list as it is behind k of its n places. -/
def fillI (xs : List Int) (k n : Nat) : List Int := xs.take k ++ List.replicate (n - k) 0

theorem fillI_length (xs : List Int) (k n : Nat) (h : xs.length = n) (hk : k ≤ n) : (fillI xs k n).length = n := by
  simp [fillI]; omega
theorem fillI_zero (xs : List Int) (n : Nat) : fillI xs 0 n = List.replicate n 0 := by simp [fillI]
theorem fillI_end (xs : List Int) (n : Nat) (h : xs.length = n) : fillI xs n n = xs := by simp [fillI, ← h]

theorem rep_ints (n : Nat) : rep n (.int .i64 0) = (ints (List.replicate n 0)).toArray := by simp [rep, ints]

theorem fillI_set (xs : List Int) (k n : Nat) (h : xs.length = n) (hk : k < n) : (ints (fillI xs k n)).set k (.int .i64 (nth xs k)) = ints (fillI xs (k + 1) n) := by
  have e : n - k = (n - (k + 1)) + 1 := by omega
  have hl : (xs.take k).length = k := by simp; omega
  unfold fillI
  rw [take_snoc xs k (by omega), e, List.replicate_succ]
  simp only [ints, List.map_append, List.map_cons, List.map_nil]
  rw [List.set_append_right _ _ (by simp; omega)]
  simp [show min k xs.length = k by omega]

theorem fillI_step (w : World) (b : Nat) (xs : List Int) (k n : Nat) (h : xs.length = n) (hk : k < n) (hb : w.heap[b]? = some (.cells (ints (fillI xs k n)).toArray 3 (0, 0))) :
    (w.setCell ⟨b, k, none⟩ (.int .i64 (nth xs k))).heap[b]? = some (.cells (ints (fillI xs (k + 1) n)).toArray 3 (0, 0)) := by
  rw [heap_setCell_same w b k _ _ _ hb, ← fillI_set xs k n h hk]
  simp

theorem fillI_cell (w : World) (b : Nat) (xs : List Int) (k n : Nat) (h : xs.length = n) (hk : k < n) (hb : w.heap[b]? = some (.cells (ints (fillI xs k n)).toArray 3 (0, 0))) :
    ∃ v, w.cell? ⟨b, k, none⟩ = some v := by
  rw [cell_of_row w b k _ _ _ hb]
  have : k < (ints (fillI xs k n)).length := by rw [ints_length, fillI_length xs k n h (by omega)]; exact hk
  exact ⟨_, by rw [List.getElem?_toArray, List.getElem?_eq_getElem this]⟩

theorem OwI.made {w : World} {b : Nat} {xs : List Int} {n : Nat} (h : xs.length = n) (hn : n ≤ 1000000000000) (hb : w.heap[b]? = some (.cells (ints xs).toArray 3 (0, 0))) : OwI w (.slice (some ⟨b, 0, none⟩) n n) xs := by
  refine ⟨by rw [ints_length, Nat.mul_one], .inr ⟨b, n, _, by rw [h], Nat.zero_le _, hb, Nat.le_of_eq h, by unfold maxLen; omega, by simp [ints_length, h], ?_⟩⟩
  rw [Nat.mul_one, ← ints_length]
  simp

/-- A list in a block that has come since. -/
theorem NewI.made {w w' : World} {b : Nat} {xs : List Int} {n : Nat} (h : xs.length = n) (hn : n ≤ 1000000000000) (hb : w'.heap[b]? = some (.cells (ints xs).toArray 3 (0, 0))) (hk : Kp0 w w') (hnew : w.heap.size ≤ b) : NewI w w' (.slice (some ⟨b, 0, none⟩) n n) xs := by
  refine ⟨some ⟨b, 0, none⟩, n, by rw [h], ?_, hk, fun b' e => ?_⟩
  · have := OwI.made h hn hb
    rw [← h] at this ⊢
    exact this
  · simp [Value.ownBlock] at e
    omega

end Go.Proofs.Yticbbncdcannlaa

/- The document's answer, walked: Store. -/
namespace Go.Proofs.Yticbbncdcannlaa
open Go.RowKit

def cntTo (t : Int → Bool) : Nat → Nat
  | 0 => 0
  | k + 1 => cntTo t k + if t k then 1 else 0
def topTo (t : Int → Bool) : Nat → Nat
  | 0 => 0
  | k + 1 => if t k then k + 1 else topTo t k
theorem cntTo_le (t : Int → Bool) (k : Nat) : cntTo t k ≤ k := by
  induction k with
  | zero => exact Nat.le_refl _
  | succ k ih => simp only [cntTo]; split <;> omega
theorem topTo_le (t : Int → Bool) (k : Nat) : topTo t k ≤ k := by
  induction k with
  | zero => exact Nat.le_refl _
  | succ k ih => simp only [topTo]; split <;> omega

/-- Store: cells, used, top, the error. -/
def Sp.store (σ : Sp) (kind : Int) : Int × Int × Int × Int :=
  if kind ≠ 1 ∧ kind ≠ 2 then (0, 0, 0, 3)
  else ((σ.cap kind : Int), (cntTo (σ.taken kind) (σ.cap kind) : Int), (topTo (σ.taken kind) (σ.cap kind) : Int), 0)

end Go.Proofs.Yticbbncdcannlaa

/- The document's answer, walked: New. -/
namespace Go.Proofs.Yticbbncdcannlaa
open Go.RowKit

/-- A space without arrays. -/
def Sp.new (b i : Nat) : Sp := { n1 := b, n2 := i, v1 := List.replicate b 0, v2 := List.replicate i 0, arrs := [], bufs := [] }

/-- May stores have so many cells? -/
def mayNew (b i : Int) : Bool := decide (0 ≤ b) && (decide (b ≤ 10000) && (decide (0 ≤ i) && decide (i ≤ 10000)))

theorem new_ok (b i : Nat) (hb : b ≤ 10000) (hi : i ≤ 10000) : (Sp.new b i).ok :=
  ⟨hb, hi, by simp [Sp.new], by simp [Sp.new], fun j a ha => by simp [Sp.new] at ha, fun j a ha => by simp [Sp.new] at ha, by simp [Sp.new], by simp [Sp.new]⟩

def newTags (w : World) (T : Tags) (o : Nat) : Tags := fun b => if b < w.heap.size then T b else if b = w.heap.size then (o, 1) else if b = w.heap.size + 1 then (o, 2) else (o, 3)

theorem rep_ints0 (n : Nat) : rep n (.int .i64 0) = (ints (List.replicate n 0)).toArray := by
  simp [rep, ints]

end Go.Proofs.Yticbbncdcannlaa

/- The law's own world in memory; kept, walked. -/
namespace Go.Proofs.Yticbbncdcannlaa
open Go.RowKit

/-- The law's world as plain data: values of its four lists' headers; what they hold; the last mark. -/
structure WS where
  vsd : Value
  vl : Value
  vm : Value
  vt : Value
  sides : List Nat
  lists : List Value
  marks : List Int
  turned : List Value
  last : Int

/-- A list that holds one number all over. -/
def Same (w : World) (v : Value) (m : Int) : Prop := ∃ n, n ≤ 1000000000 ∧ RdI w v (List.replicate n m) ∧ ∀ b, v.ownBlock = some b → b < w.heap.size

theorem Same.kp {S : Nat → Prop} {w w' : World} {v : Value} {m : Int} (h : Same w v m) (k : Kp S w w') (hs : ∀ b, v.ownBlock = some b → ¬ S b) : Same w' v m := by
  obtain ⟨n, hn, hr, hb⟩ := h
  exact ⟨n, hn, hr.kp k hs, fun b e => Nat.lt_of_lt_of_le (hb b e) k.size⟩

/-- The form of an owned row's value, nil or not. -/
theorem row_any {w : World} {e : TypeId} {v : Value} {n : Nat} {xs : List Value} (h : w.ownsRow 0 e 1 v n xs) :
    ∃ a cap, v = .slice a n cap ∧ (0 < n → ∃ g, a = some ⟨g, 0, none⟩ ∧ ∀ j, j < n → w.cell? ⟨g, j, none⟩ = xs[j]?) := by
  rcases row_form h with ⟨rfl, rfl⟩ | ⟨g, cap, rfl, _, _, hc⟩
  · exact ⟨none, 0, rfl, fun h => by omega⟩
  · exact ⟨_, cap, rfl, fun _ => ⟨g, rfl, fun j hj => hc j (by omega)⟩⟩

end Go.Proofs.Yticbbncdcannlaa

/- The law's own small functions, walked: lent, hand. -/
namespace Go.Proofs.Yticbbncdcannlaa
open Go.RowKit

theorem setRow_alloc (w : World) (c c' : Array Value) (t : TypeId) : (w.alloc (.cells c t)).setRow w.heap.size c' = w.alloc (.cells c' t) := by
  unfold World.setRow World.alloc
  congr 1
  apply Array.ext_getElem?
  intro k
  simp only [Array.getElem?_modify, Array.getElem?_push]
  by_cases hk : k = w.heap.size
  · subst hk
    simp
  · simp [hk]
    intro h
    exact absurd h.symm hk

theorem copy_eq (w : World) (ty : TypeId) (n : Nat) (vl : Value) (xs : List Int) (hn : xs.length = n) (hr : RdI (w.alloc (.cells (rep (n + 1) (.int .i64 0)) 3)) vl xs) :
    (Builtin.copy_ #[22, 22] ty #[.slice (some ⟨w.heap.size, 0, none⟩) (n + 1) (n + 1), vl]).run Try.prog (w.alloc (.cells (rep (n + 1) (.int .i64 0)) 3)) = .ok (goInt n) (w.alloc (.cells (ints (xs ++ [0])).toArray 3)) := by
  obtain ⟨a, cap, rfl, hr⟩ := hr
  obtain ⟨i, hi, hz0, hz1, hz2⟩ := info_parts Try.infoInt
  by_cases hx : xs = []
  · subst hx
    simp at hn
    subst hn
    have hf : ∀ W, (Builtin.firstCells i.size 0 (.slice a 0 cap)).run Try.prog W = .ok #[] W := by
      intro W
      cases a with
      | none => rfl
      | some b => simp [Builtin.firstCells, loadCells, loadCellsFrom]
    simp [Builtin.copy_, run_underlying Try.underlying22, Builtin.lenOf, sizeOf, typeInfo, hi, hf, storeCells]
    rfl
  · obtain ⟨g, o, rfl, hc⟩ := hr hx
    have h := run_copy_row (P := Try.prog) (w.alloc (.cells (rep (n + 1) (.int .i64 0)) 3)) 22 22 ty 3 w.heap.size 0 (n + 1) (n + 1) ⟨g, o, none⟩ xs.length cap _ _ (ints xs) Try.underlying22 (by rw [hi]; simp [hz1]) (heap_alloc_new _ _) (by rw [ints_length, hn]; exact (Nat.min_eq_left (by omega)).symm)
      (by
        intro j u hu
        have hj : j < xs.length := by
          rcases Nat.lt_or_ge j xs.length with h | h
          · exact h
          · rw [List.getElem?_eq_none (by rw [ints_length]; exact h)] at hu; cases hu
        rw [ints_get hj] at hu
        have : (⟨g, o, none⟩ : Addr).add j = ⟨g, o + j, none⟩ := by unfold Addr.add; split <;> simp_all
        rw [this, hc j hj]
        exact hu) (by simp [rep, ints_length]; omega) (ints_cell xs)
    have e : (List.take 0 (rep (n + 1) (.int .i64 0)).toList ++ ints xs ++ List.drop (0 + xs.length) (rep (n + 1) (.int .i64 0)).toList).toArray = (ints (xs ++ [0])).toArray := by
      rw [ints_append]
      simp [rep, ints, hn, List.drop_replicate]
    rw [h, ints_length, setRow_alloc, e, hn]

end Go.Proofs.Yticbbncdcannlaa

/- The law's own world: returned, walked. -/
namespace Go.Proofs.Yticbbncdcannlaa
open Go.RowKit

theorem Try.infoSl : (Try.prog.info? 22).map (fun i => (i.zero, i.size, i.bytes)) = some (some (.slice none 0 0), 1, 24) := by kernel_rfl

/-- What is written over a list, to its k-th number. -/
def over (m : Int) (k : Nat) (xs : List Int) : List Int := List.replicate k m ++ xs.drop k
theorem over_length (m : Int) (k : Nat) (xs : List Int) (h : k ≤ xs.length) : (over m k xs).length = xs.length := by simp [over]; omega
theorem over_set (m : Int) (k : Nat) (xs : List Int) (h : k < xs.length) : (over m k xs).set k m = over m (k + 1) xs := by
  unfold over
  rw [List.drop_eq_getElem_cons h, List.set_append_right _ _ (by simp), List.replicate_succ']
  simp only [List.length_replicate, Nat.sub_self, List.set_cons_zero, List.append_assoc, List.singleton_append]
theorem over_all (m : Int) (xs : List Int) : over m xs.length xs = List.replicate xs.length m := by simp [over]

/-- One list more was handed in and turned over. -/
def WS.turn (S : WS) (vt v : Value) : WS := { S with vt := vt, turned := S.turned ++ [v] }

theorem lists_get {w w' : World} {p : Nat} (h : w'.heap[p]? = w.heap[p]?) (o : Nat) : w'.cell? ⟨p, o, none⟩ = w.cell? ⟨p, o, none⟩ := World.cell?_of_block h

end Go.Proofs.Yticbbncdcannlaa

/- The law's own world: keep: what its stores leave. -/
namespace Go.Proofs.Yticbbncdcannlaa
open Go.RowKit

def keepTags (w : World) (T : Tags) (o g1 : Nat) : Tags := fun b => if b < w.heap.size then T b else if b = g1 then (o, 3) else (o, 4)

/-- A list more, with its mark. -/
def WS.push (S : WS) (vl vm v : Value) (m : Int) : WS := { S with vl := vl, vm := vm, lists := S.lists ++ [v], marks := S.marks ++ [m] }

/-- The lists that lie in l's block are its own beginnings. -/
def Heads (S : WS) (l : Value) (m : Int) (n : Nat) : Prop := ∀ (i : Nat) (v : Value), S.lists[i]? = some v → ∀ b, v.ownBlock = some b → l.ownBlock = some b → S.marks[i]? = some m ∧ ∃ ne ce, v = .slice (some ⟨b, 0, none⟩) ne ce ∧ ne ≤ n

end Go.Proofs.Yticbbncdcannlaa
