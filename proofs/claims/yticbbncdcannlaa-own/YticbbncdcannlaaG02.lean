/- The document's answer (package trellisref), walked: As, Volume, Shape, Rank. -/
import Derived.Test.YticbbncdcannlaaRows
import Derived.Test.YticbbncdcannlaaG01

namespace Go.Proofs.Yticbbncdcannlaa
open Go.RowKit

theorem ret_int {k : IntKind} {a b : Int} (h : a = b) : Ending.returned (.int k a) = .returned (.int k b) := by rw [h]
theorem ret_bool {a b : Bool} (h : a = b) : Ending.returned (.bool a) = .returned (.bool b) := by rw [h]

/-- The first k sizes may be. -/
def sizedTo (l : List Int) (k : Nat) : Prop := ∀ j, j < k → 1 ≤ nth l j ∧ nth l j ≤ 60

theorem volTo_bd (l : List Int) (hl : l.length ≤ 4) (k : Nat) (hk : k ≤ l.length) (hs : sizedTo l k) :
    1 ≤ vol (l.take k) ∧ vol (l.take k) ≤ 12960000 := by
  have hlen : (l.take k).length = k := by simp; omega
  have hn : ∀ j, j < k → nth (l.take k) j = nth l j := fun j hj => by
    rw [nth_lt (by omega), nth_lt (by omega)]; simp
  have := vol_bd (l.take k) (fun j hj => by rw [hn j (by omega)]; exact hs j (by omega)) (by omega) k (by omega)
  rwa [List.take_of_length_le (by omega)] at this

theorem mul_nn {a b : Int} (h : 0 ≤ a) (k : 1 ≤ b) : 0 ≤ a * b := Int.mul_nonneg h (by omega)

/-- The first k numbers are within. -/
def inTo (s i : List Int) (k : Nat) : Prop := ∀ j, j < k → 0 ≤ nth i j ∧ nth i j < nth s j

theorem rankTo_bd (s i : List Int) (hs : sized s) (hl : s.length ≤ 4) (k : Nat) (hk : k ≤ s.length) (hi : inTo s i k) :
    0 ≤ rankTo s i k ∧ rankTo s i k < 12960000 := by
  have key : ∀ m, m ≤ k → 0 ≤ rankTo s i m ∧ rankTo s i m < vol (s.take m) := by
    intro m
    induction m with
    | zero => intro _; simp [rankTo, vol]
    | succ m ih =>
      intro hm
      obtain ⟨a, b⟩ := ih (by omega)
      obtain ⟨s1, s2⟩ := hs m (by omega)
      obtain ⟨i1, i2⟩ := hi m (by omega)
      rw [vol_take s m (by omega)]
      simp only [rankTo]
      constructor
      · have := Int.mul_nonneg a (show (0 : Int) ≤ nth s m by omega)
        omega
      · have h1 : (rankTo s i m + 1) * nth s m ≤ vol (s.take m) * nth s m := Int.mul_le_mul_of_nonneg_right (by omega) (by omega)
        rw [Int.add_mul] at h1
        omega
  obtain ⟨a, b⟩ := key k (Nat.le_refl _)
  have := vol_bd s hs hl k hk
  exact ⟨a, by omega⟩

end Go.Proofs.Yticbbncdcannlaa

/- The document's answer, walked: find, live, used. -/
namespace Go.Proofs.Yticbbncdcannlaa
open Go.RowKit

theorem hid {p : Prop} (h : p) : Hid p := h

theorem ret_ptr {a b : Option Nat} (h : a = b) : Ending.returned (ptr a) = .returned (ptr b) := by rw [h]
theorem ret_val {a b : Value} (h : a = b) : Ending.returned a = .returned b := by rw [h]

/-- How many of the first k arrays are there. -/
def liveTo (l : List (Option Nat)) (k : Nat) : Nat := ((l.take k).filter Option.isSome).length

theorem liveTo_le (l : List (Option Nat)) (k : Nat) : liveTo l k ≤ k := by
  unfold liveTo
  exact Nat.le_trans (List.length_filter_le _ _) (List.length_take_le _ _)

theorem liveTo_succ (l : List (Option Nat)) (k : Nat) (h : k < l.length) : liveTo l (k + 1) = liveTo l k + (if (l.getD k none).isSome then 1 else 0) := by
  unfold liveTo
  rw [List.take_succ_eq_append_getElem h, List.filter_append, List.length_append]
  congr 1
  simp only [List.getD, List.getElem?_eq_getElem h, Option.getD_some]
  cases l[k] <;> simp

end Go.Proofs.Yticbbncdcannlaa

/- The document's answer, walked: taken, place. -/
namespace Go.Proofs.Yticbbncdcannlaa
open Go.RowKit

theorem Try.infoInt : (Try.prog.info? 3).map (fun i => (i.zero, i.size, i.bytes)) = some (some (.int .i64 0), 1, 8) := by kernel_rfl
theorem Try.infoBool : (Try.prog.info? 4).map (fun i => (i.zero, i.size, i.bytes)) = some (some (.bool false), 1, 1) := by kernel_rfl

/-- n values alike. -/
def rep (n : Nat) (z : Value) : Array Value := (List.replicate n z).toArray

theorem run_mk {P : Program} (t e : TypeId) (z : Value) (bytes : Nat) (ht : P.underlying t = some (.slice e)) (hi : (P.info? e).map (fun i => (i.zero, i.size, i.bytes)) = some (some z, 1, bytes)) (hz : z.cells = #[z]) (hby : bytes ≤ 100) (n : Nat) (hn : n ≤ 1000000000000) (W : World) :
    (Instr.makeSlice t (.int .i64 (n : Int)) (.int .i64 (n : Int))).run P W = .ok (.slice (some ⟨W.heap.size, 0, none⟩) n n) (W.alloc (.cells (rep n z) e)) := by
  obtain ⟨i, hi, hz0, hz1, hz2⟩ := info_parts hi
  have hb : (i.bytes : Int) * (n : Int) ≤ 281474976710656 := by
    have h1 : i.bytes * n ≤ 100 * 1000000000000 := Nat.mul_le_mul (by omega) hn
    have h2 : ((i.bytes * n : Nat) : Int) ≤ 281474976710656 := by omega
    rwa [Int.natCast_mul] at h2
  have := run_make (P := P) W t e i z ht hi hz0 .i64 .i64 n n (by omega) (Int.le_refl _) hb (by omega)
  rw [this, hz1, hz]
  simp only [Int.toNat_natCast, Nat.mul_one]
  congr 4
  unfold rep
  rw [← toList_madeCells_one]

/-- A row of bools. -/
def bls (t : Int → Bool) (n : Nat) : Array Value := ((List.range n).map fun j : Nat => Value.bool (t j)).toArray

theorem bls_size (t : Int → Bool) (n : Nat) : (bls t n).size = n := by simp [bls]
theorem bls_get (t : Int → Bool) (n j : Nat) (h : j < n) : (bls t n)[j]? = some (.bool (t j)) := by simp [bls, h]
theorem bls_rep (n : Nat) : bls (fun _ => false) n = rep n (.bool false) := by
  unfold bls rep
  congr 1
  apply List.ext_getElem <;> simp
theorem bls_set (t t' : Int → Bool) (n j : Nat) (v : Bool) (hj : t' j = v) (h : ∀ i : Nat, i ≠ j → t' i = t i) : (bls t n).setIfInBounds j (.bool v) = bls t' n := by
  apply Array.ext_getElem?
  intro i
  by_cases hi : i < n
  · rw [bls_get t' n i hi]
    by_cases hij : i = j
    · subst hij
      rw [Array.getElem?_setIfInBounds_self_of_lt (by rw [bls_size]; exact hi), hj]
    · rw [Array.getElem?_setIfInBounds_ne (by omega), bls_get t n i hi, h i hij]
  · rw [Array.getElem?_eq_none (by simp [bls_size]; omega), Array.getElem?_eq_none (by simp [bls_size]; omega)]
theorem bls_congr (t t' : Int → Bool) (n : Nat) (h : ∀ i : Nat, i < n → t i = t' i) : bls t n = bls t' n := by
  unfold bls
  congr 1
  exact List.map_congr_left (fun i hi => by rw [h i (by simpa using hi)])

theorem bufs_get (l : List Buf) (j : Nat) (b : Buf) (h : l[j]? = some b) : (l.flatMap Buf.row)[j * 3]? = some (.int .i64 b.kind) ∧ (l.flatMap Buf.row)[j * 3 + 1]? = some (.int .i64 b.at') ∧ (l.flatMap Buf.row)[j * 3 + 2]? = some (.int .i64 b.size) := by
  induction l generalizing j with
  | nil => simp at h
  | cons x l ih =>
    cases j with
    | zero =>
      simp at h
      subst h
      simp [Buf.row]
    | succ j =>
      simp at h
      have := ih j h
      have e : ∀ r, (Buf.row x ++ l.flatMap Buf.row)[(j + 1) * 3 + r]? = (l.flatMap Buf.row)[j * 3 + r]? := by
        intro r
        rw [List.getElem?_append_right (by simp [Buf.row]; omega)]
        congr 1
        simp [Buf.row]
        omega
      simp only [List.flatMap_cons]
      exact ⟨(e 0).trans this.1, (e 1).trans this.2.1, (e 2).trans this.2.2⟩

theorem takenTo_succ (σ : Sp) (kind : Int) (m : Nat) (c : Int) (b : Buf) (h : σ.bufs[m]? = some b) :
    takenTo σ kind (m + 1) c = (takenTo σ kind m c || (σ.used m && (b.kind == kind && (decide (b.at' ≤ c) && decide (c < b.at' + b.size))))) := by
  unfold takenTo
  rw [List.range_succ, List.any_append]
  simp [h]

theorem frozen_blk {w : World} {g j : Nat} {c : Array Value} {t : TypeId} (h : w.heap[g]? = some (.cells c t (0, 0))) : w.frozen? ⟨g, j, none⟩ = false := frozen_of_row w g j c t h

/-- The cells of one kind that belong to the first m buffers, or to the first j of the next one. -/
def takenJ (σ : Sp) (kind : Int) (m : Nat) (b : Buf) (j : Nat) (c : Int) : Bool := takenTo σ kind m c || (decide (b.at' ≤ c) && decide (c < b.at' + j))

theorem takenJ_zero (σ : Sp) (kind : Int) (m : Nat) (b : Buf) : takenJ σ kind m b 0 = takenTo σ kind m := by
  funext c
  unfold takenJ
  have : (decide (b.at' ≤ c) && decide (c < b.at' + ((0 : Nat) : Int))) = false := by
    rw [Bool.and_eq_false_iff]
    by_cases h : b.at' ≤ c
    · right; simp; omega
    · left; simp [h]
  rw [this, Bool.or_false]

theorem Sp.ok.cap {σ : Sp} (h : σ.ok) (kind : Int) : σ.cap kind ≤ 10000 := by
  unfold Sp.cap
  split
  · exact h.n1
  · exact h.n2

theorem placeIn_step (t : Int → Bool) (size f i : Nat) (h : ¬ runTo t (i + 1) = size) : placeIn t size (f + 1) i = placeIn t size f (i + 1) := by
  simp only [placeIn]
  rw [if_neg h]
theorem placeIn_found (t : Int → Bool) (size f i : Nat) (h : runTo t (i + 1) = size) : placeIn t size (f + 1) i = (i : Int) + 1 - size := by
  simp only [placeIn]
  rw [if_pos h]

end Go.Proofs.Yticbbncdcannlaa

/- The document's answer, walked: lay. -/
namespace Go.Proofs.Yticbbncdcannlaa
open Go.RowKit

/-- One array more. -/
def Sp.lay (σ : Sp) (a : Arr) : Sp := { σ with arrs := σ.arrs ++ [some a] }

/-- New blocks get this tag. -/
def retag (w : World) (T : Tags) (t : Nat × Nat) : Tags := fun b => if b < w.heap.size then T b else t
theorem retag_to (w : World) (T : Tags) (t : Nat × Nat) : TagsTo w T (retag w T t) := fun _ hb => if_pos hb
theorem retag_new {w : World} {T : Tags} {t : Nat × Nat} {b : Nat} (h : w.heap.size ≤ b) : retag w T t b = t := if_neg (by omega)

end Go.Proofs.Yticbbncdcannlaa

/- The document's answer: what stores into a space's parts leave. -/
namespace Go.Proofs.Yticbbncdcannlaa
open Go.RowKit

/-- One cell written. -/
def Sp.put (σ : Sp) (kind : Int) (c : Nat) (v : Int) : Sp := if kind = 1 then { σ with v1 := σ.v1.set c v } else { σ with v2 := σ.v2.set c v }

def YL.gk (L : YL) (kind : Int) : Nat := if kind = 1 then L.g1 else L.g2

theorem ints_set (xs : List Int) (c : Nat) (v : Int) : (ints xs).toArray.setIfInBounds c (.int .i64 v) = (ints (xs.set c v)).toArray := by
  simp [ints, List.map_set]

theorem Sp.ok.vals {σ : Sp} (h : σ.ok) (kind : Int) : (σ.vals kind).length = σ.cap kind := by
  unfold Sp.vals Sp.cap
  split
  · exact h.v1
  · exact h.v2

/-- One buffer more. -/
def Sp.more (σ : Sp) (b : Buf) : Sp := { σ with bufs := σ.bufs ++ [b] }

end Go.Proofs.Yticbbncdcannlaa

/- Laws on append at lists of ints, in the walk's form. -/
namespace Go.Proofs.Yticbbncdcannlaa
open Go.RowKit

theorem run_append_empty (t ty e : TypeId) {P : Program} (i : TypeInfo) (ht : P.underlying t = some (.slice e)) (hi : P.info? e = some i) (a b : Option Addr) (n c d : Nat) (hn : n ≤ c) (W : World) :
    (Builtin.append_ #[t, t] ty #[.slice a n c, .slice b 0 d]).run P W = .ok (.slice a n c) W := by
  have hf : ∀ W, (Builtin.firstCells i.size 0 (.slice b 0 d)).run P W = .ok #[] W := by
    intro W
    cases b with
    | none => rfl
    | some b => simp [Builtin.firstCells, loadCells, loadCellsFrom]
  cases a with
  | none => simp [Builtin.append_, run_underlying ht, sizeOf, typeInfo, hi, Builtin.lenOf, hn, hf]
  | some a => simp [Builtin.append_, run_underlying ht, sizeOf, typeInfo, hi, Builtin.lenOf, hn, hf, storeCells]

theorem OwI.form {w : World} {ao : Option Addr} {n c : Nat} {xs : List Int} (h : OwI w (.slice ao n c) xs) : n = xs.length ∧ n ≤ c := by
  rcases h.2 with ⟨h1, h0⟩ | ⟨g, cap, cur, h1, _, hg, hn, _, hs, ht⟩
  · simp at h1; omega
  · simp at h1; omega

/-- append(s, x...), both lists of ints, s one's own (or nil): onto its own block, or into a new one. -/
theorem run_app (w : World) (ty : TypeId) (ao : Option Addr) (n c : Nat) (xs ys : List Int) (vx : Value) (hown : OwI w (.slice ao n c) xs) (hr : RdI w vx ys) (hb : n + ys.length ≤ 1000000000000) :
    ∃ ao' c' w', (Builtin.append_ #[22, 22] ty #[.slice ao n c, vx]).run Try.prog w = .ok (.slice ao' (n + ys.length) c') w' ∧ OwI w' (.slice ao' (n + ys.length) c') (xs ++ ys) ∧
      w.grownBy w' (Value.slice ao n c).ownBlock ∧ (∀ b, (Value.slice ao' (n + ys.length) c').ownBlock = some b → (Value.slice ao n c).ownBlock = some b ∨ b = w.heap.size) := by
  obtain ⟨i, hi, hz0, hz1, hz2⟩ := info_parts Try.infoInt
  obtain ⟨hn, hnc⟩ := hown.form
  obtain ⟨a, cap, rfl, hr⟩ := hr
  by_cases hy : ys = []
  · subst hy
    refine ⟨ao, c, w, run_append_empty _ _ _ i Try.underlying22 hi ao a n c cap hnc w, ?_, World.grownBy.refl _ _, fun b hb => .inl hb⟩
    simpa using hown
  · obtain ⟨g, o, rfl, hc⟩ := hr hy
    have hown' : w.ownsRow 0 3 1 (.slice ao n c) n (ints xs) := by rw [hn]; rw [hn] at hown; exact hown
    have hpos : 0 < ys.length := List.length_pos_iff.2 hy
    obtain ⟨g', cap', w', h1, h2, h3, h4, h5⟩ := run_append_lies (P := Try.prog) w 22 ty 0 3 i (.int .i64 0) 1 8 Try.underlying22 hi hz0 hz1 hz2 rfl (by omega) _ n (ints xs) hown' ⟨g, o, none⟩ ys.length cap (ints ys) (by rw [ints_length, Nat.mul_one])
      (by
        intro j u hu
        have hj : j < ys.length := by
          rcases Nat.lt_or_ge j ys.length with h | h
          · exact h
          · rw [List.getElem?_eq_none (by rw [ints_length]; exact h)] at hu; cases hu
        rw [ints_get hj] at hu
        have : (⟨g, o, none⟩ : Addr).add j = ⟨g, o + j, none⟩ := by unfold Addr.add; split <;> simp_all
        rw [this, hc j hj]
        exact hu) (ints_cell ys) hpos (by unfold maxLen; omega) (by omega) (Nat.zero_le _) w.heap.size rfl
    refine ⟨some ⟨g', 0, none⟩, cap', w', h1, ?_, h3, ?_⟩
    · unfold OwI
      rw [List.length_append, ← hn, ints_append]
      exact h2
    · intro b hb
      simp [Value.ownBlock] at hb
      subst hb
      exact h4

theorem wp_app {o : Oper} {a : Act} {w : World} {K : Act → World → Prop} {Q : Exit → Act → World → Prop} (s x : Operand)
    (ho : o.op = .call { callee := .builtin .append, args := #[s, x], argTypes := #[22, 22] })
    (ao : Option Addr) (n c : Nat) (xs ys : List Int) (vx : Value) (hs : a.eval s = .slice ao n c) (hx : a.eval x = vx) (hown : OwI w (.slice ao n c) xs) (hr : RdI w vx ys) (hb : n + ys.length ≤ 1000000000000) (H : Nat) (hH : w.heap.size = H)
    (h : ∀ ao' c' w', OwI w' (.slice ao' (n + ys.length) c') (xs ++ ys) → w.grownBy w' (Value.slice ao n c).ownBlock → (∀ b, (Value.slice ao' (n + ys.length) c').ownBlock = some b → (Value.slice ao n c).ownBlock = some b ∨ b = H) → K (a.put o.dst (.slice ao' (n + ys.length) c')) w') : o.wp Try.prog a w K Q := by
  obtain ⟨ao', c', w', hrun, h2, h3, h4⟩ := run_app w o.type ao n c xs ys vx hown hr hb
  unfold Oper.wp execOp
  simp only [ho, resolve, invoke, builtin, Sem.run_bind, Sem.run_pure, Result.andThen_ok, List.map_toArray, List.map_cons, List.map_nil, hs, hx, hrun]
  exact h ao' c' w' h2 h3 (by rw [← hH]; exact h4)

theorem wpList_app {ops : Array Oper} {rest : List Oper} {o : Oper} {a : Act} {w : World} {Q : Exit → Act → World → Prop} (hgd : o.guard = none) (s x : Operand)
    (ho : o.op = .call { callee := .builtin .append, args := #[s, x], argTypes := #[22, 22] })
    (ao : Option Addr) (n c : Nat) (xs ys : List Int) (vx : Value) (hs : a.eval s = .slice ao n c) (hx : a.eval x = vx) (hown : OwI w (.slice ao n c) xs) (hr : RdI w vx ys) (hb : n + ys.length ≤ 1000000000000) (H : Nat) (hH : w.heap.size = H)
    (h : ∀ ao' c' w', OwI w' (.slice ao' (n + ys.length) c') (xs ++ ys) → w.grownBy w' (Value.slice ao n c).ownBlock → (∀ b, (Value.slice ao' (n + ys.length) c').ownBlock = some b → (Value.slice ao n c).ownBlock = some b ∨ b = H) → wpList Try.prog ops Q rest (a.put o.dst (.slice ao' (n + ys.length) c')) w') : wpList Try.prog ops Q (o :: rest) a w :=
  wpList_plain hgd fun _ hK => wp_app s x ho ao n c xs ys vx hs hx hown hr hb H hH fun ao' c' w' h2 h3 h4 => hK _ _ (h ao' c' w' h2 h3 h4)

/-- At a step of a region that draws its order. -/
theorem step_app {ops : Array Oper} {o : Oper} {a : Act} {w : World} {K : Act → World → Prop} {Q : Exit → Act → World → Prop} {E : Prop} (hgd : o.guard = none) (s x : Operand)
    (ho : o.op = .call { callee := .builtin .append, args := #[s, x], argTypes := #[22, 22] })
    (ao : Option Addr) (n c : Nat) (xs ys : List Int) (vx : Value) (hs : a.eval s = .slice ao n c) (hx : a.eval x = vx) (hown : OwI w (.slice ao n c) xs) (hr : RdI w vx ys) (hb : n + ys.length ≤ 1000000000000) (H : Nat) (hH : w.heap.size = H)
    (h : ∀ ao' c' w', OwI w' (.slice ao' (n + ys.length) c') (xs ++ ys) → w.grownBy w' (Value.slice ao n c).ownBlock → (∀ b, (Value.slice ao' (n + ys.length) c').ownBlock = some b → (Value.slice ao n c).ownBlock = some b ∨ b = H) → K (a.put o.dst (.slice ao' (n + ys.length) c')) w') :
    if Region.wanted o (yielded ops a.tmps) = true then Oper.wp Try.prog o a w K Q else E := by
  have hw : Region.wanted o (yielded ops a.tmps) = true := by simp [Region.wanted, hgd]
  rw [if_pos hw]
  exact wp_app s x ho ao n c xs ys vx hs hx hown hr hb H hH h

theorem OwI.drew {w : World} {v : Value} {xs : List Int} (h : OwI w v xs) : OwI w.drew v xs := h
theorem RdI.drew {w : World} {v : Value} {xs : List Int} (h : RdI w v xs) : RdI w.drew v xs := h

theorem grown_heap {w w' : World} {x o : Obj} {b : Nat} {row : Option Nat} (hb : w.heap[b]? = some o) (hg : (w.alloc x).grownBy w' row) (hne : some b ≠ row) : w'.heap[b]? = some o :=
  (hg.block b (by simp; exact Nat.lt_succ_of_lt (lt_of_heap hb)) hne).trans ((Below.heap_alloc w x b (lt_of_heap hb)).trans hb)

theorem OwI.alloc {w : World} {v : Value} {xs : List Int} (h : OwI w v xs) (x : Obj) : OwI (w.alloc x) v xs := World.ownsRow.alloc h x
theorem OwI.grown {w w' : World} {v : Value} {xs : List Int} {row : Option Nat} (h : OwI w v xs) (hg : w.grownBy w' row) (hne : ∀ b, v.ownBlock = some b → some b ≠ row) : OwI w' v xs := by
  refine World.ownsRow.kept h hg ?_
  cases hv : v.ownBlock with
  | none => exact .inl rfl
  | some b => exact .inr (hne b hv)
theorem OwI.setCell {w : World} {v : Value} {xs : List Int} (h : OwI w v xs) {a : Addr} (u : Value) (hne : v.ownBlock ≠ some a.block) : OwI (w.setCell a u) v xs := ownsRow_setCell_other h hne u
theorem OwI.lt {w : World} {v : Value} {xs : List Int} (h : OwI w v xs) {b : Nat} (hb : v.ownBlock = some b) : b < w.heap.size := own_lt h hb

/-- The list that one number is appended by. -/
theorem RdI.one (w : World) (x : Int) : RdI (w.alloc (.cells #[.int .i64 x] 3)) (.slice (some ⟨w.heap.size, 0, none⟩) 1 1) [x] :=
  ⟨some ⟨w.heap.size, 0, none⟩, 1, rfl, fun _ => ⟨w.heap.size, 0, rfl, fun j hj => by
    have : j = 0 := by simpa using hj
    subst this
    simp [nth]⟩⟩

end Go.Proofs.Yticbbncdcannlaa

/- The program's package grid, walked: Volume, Has, List. -/
namespace Go.Proofs.Yticbbncdcannlaa
open Go.RowKit

/-- A shape's cells. -/
def shC (l : List Int) : List Value := [.int .i64 (nth l 0), .int .i64 (nth l 1), .int .i64 (nth l 2), .int .i64 (nth l 3), .int .i64 (l.length : Int)]

theorem shC_get (l : List Int) (k : Nat) (h : k < 4) : (shC l)[k]? = some (.int .i64 (nth l k)) := by
  match k, h with
  | 0, _ => rfl
  | 1, _ => rfl
  | 2, _ => rfl
  | 3, _ => rfl

/-- The cells of a new block. -/
theorem new_cell (w : World) (cs : Array Value) (t : TypeId) (r : Nat × Nat) (k : Nat) : (w.alloc (.cells cs t r)).cell? ⟨w.heap.size, k, none⟩ = cs[k]? := by
  rw [cell_of_row _ _ _ _ _ _ (heap_alloc_new w _)]

/-- A shape in a new block. -/
theorem sh_cells (w : World) (l : List Int) (n : Nat) (t : TypeId) (k : Nat) (h : k < 4) :
    (w.alloc (.cells #[.int .i64 (nth l 0), .int .i64 (nth l 1), .int .i64 (nth l 2), .int .i64 (nth l 3), .int .i64 (n : Int)] t)).cell? ⟨w.heap.size, k, none⟩ = some (.int .i64 (nth l k)) := by
  rw [new_cell]
  match k, h with
  | 0, _ => rfl
  | 1, _ => rfl
  | 2, _ => rfl
  | 3, _ => rfl

set_option maxRecDepth 100000 in
set_option maxHeartbeats 400000 in
theorem xvolume_calls (l : List Int) (w : World) (hs : sized l) (hl : l.length ≤ 4) :
    Calls Try.prog 38 #[.agg (shC l).toArray] w fun e w' => e = .returned (.int .i64 (vol l)) ∧ Kp0 w w' := by
  have HL := hid hl
  have HS := hid hs
  obtain ⟨n, hn⟩ : ∃ n, n = l.length := ⟨_, rfl⟩
  have hn4 : n ≤ 4 := by omega
  unfold shC
  rw [← hn]
  have HN := hid hn
  clear hn hl hs
  go_enter Try.func38, Try.ntmps38
  go_wp2
  have HC : Hid (∀ k, k < 4 → (w.alloc (.cells #[.int .i64 (nth l 0), .int .i64 (nth l 1), .int .i64 (nth l 2), .int .i64 (nth l 3), .int .i64 (n : Int)] 55)).cell? ⟨w.heap.size, k, none⟩ = some (.int .i64 (nth l k))) := fun k h => sh_cells w l n _ k h
  have HK : Hid (Kp0 w (w.alloc (.cells #[.int .i64 (nth l 0), .int .i64 (nth l 1), .int .i64 (nth l 2), .int .i64 (nth l 3), .int .i64 (n : Int)] 55))) := (Kp.refl _ w).alloc _
  generalize w.alloc (.cells #[.int .i64 (nth l 0), .int .i64 (nth l 1), .int .i64 (nth l 2), .int .i64 (nth l 3), .int .i64 (n : Int)] 55) = W at HC HK ⊢
  go_loop [3, 7, 4] (fun v i _ => ∃ k : Nat, k ≤ n ∧ i = .int .i64 k ∧ v = .int .i64 (vol (l.take k))) (fun _ i _ => n - (intOf i).toNat)
  case atStart => exact ⟨0, Nat.zero_le _, rfl, rfl⟩
  case round =>
    obtain ⟨k, hk, rfl, rfl⟩ := hrel
    by_cases hlt : k < n
    · have q1 := HC.out k (by omega)
      have b1 := vol_bd l HS.out HL.out k (by have := HN.out; omega)
      have b2 := vol_bd l HS.out HL.out (k + 1) (by have := HN.out; omega)
      have HV : Hid (vol (l.take (k + 1)) = vol (l.take k) * nth l k) := vol_take l k (by have := HN.out; omega)
      rw [vol_take l k (by have := HN.out; omega)] at b2
      have k1 : (k : Int) < 4 := by omega
      go_wp2
      go_round
      case rel => exact ⟨k + 1, by omega, by go_num, by rw [HV.out]⟩
      case measure => simp [intOf]; omega
    · go_wp2
      go_ret
      exact ⟨ret_int (by rw [List.take_of_length_le (by have := HN.out; omega)]), HK.out⟩

/-- A shape that a call has boxed. -/
abbrev shB (l : List Int) (n : Nat) : Obj := .cells #[.int .i64 (nth l 0), .int .i64 (nth l 1), .int .i64 (nth l 2), .int .i64 (nth l 3), .int .i64 (n : Int)] 55

set_option maxRecDepth 100000 in
set_option maxHeartbeats 400000 in
theorem xhas_len (a : Option Addr) (l : List Int) (m c : Nat) (w : World) (h : l.length ≠ m) :
    Calls Try.prog 43 #[.agg (shC l).toArray, .slice a m c] w fun e w' => e = .returned (.bool false) ∧ Kp0 w w' := by
  have h1 : ((m : Int) != (l.length : Int)) = true := by rw [bne_iff_ne]; omega
  unfold shC
  go_enter Try.func43, Try.ntmps43
  go_wp2
  go_ret
  exact ⟨rfl, (Kp.refl _ w).alloc _⟩

set_option maxRecDepth 100000 in
set_option maxHeartbeats 400000 in
theorem xhas_nil (a : Option Addr) (c : Nat) (w : World) :
    Calls Try.prog 43 #[.agg (shC []).toArray, .slice a 0 c] w fun e w' => e = .returned (.bool true) ∧ Kp0 w w' := by
  simp only [shC, List.length_nil]
  go_enter Try.func43, Try.ntmps43
  go_wp2
  refine wp_loop_rounds 1 ?_
  rw [rounds_succ]
  go_wp2
  go_ret
  exact ⟨rfl, (Kp.refl _ w).alloc _⟩

set_option maxRecDepth 100000 in
set_option maxHeartbeats 1000000 in
theorem xhas_any (g o c : Nat) (l i : List Int) (n : Nat) (w : World) (HL : Hid (l.length = n)) (HI : Hid (i.length = n)) (hl : n ≤ 4)
    (h1 : ∀ j, j < n → w.cell? ⟨g, o + j, none⟩ = some (.int .i64 (nth i j))) :
    Calls Try.prog 43 #[.agg #[.int .i64 (nth l 0), .int .i64 (nth l 1), .int .i64 (nth l 2), .int .i64 (nth l 3), .int .i64 (n : Int)], .slice (some ⟨g, o, none⟩) n c] w fun e w' => e = .returned (.bool (inBb l i)) ∧ Kp0 w w' := by
  have HR : Hid (∀ j, j < n → (w.alloc (shB l n)).cell? ⟨g, o + j, none⟩ = some (.int .i64 (nth i j))) := fun j hj => Kp0.cell ((Kp.refl _ w).alloc _) (h1 j hj)
  have HC : Hid (∀ k, k < 4 → (w.alloc (shB l n)).cell? ⟨w.heap.size, k, none⟩ = some (.int .i64 (nth l k))) := fun k h => sh_cells w l n _ k h
  have HK : Hid (Kp0 w (w.alloc (shB l n))) := (Kp.refl _ w).alloc _
  clear h1
  go_enter Try.func43, Try.ntmps43
  go_wp2
  generalize w.alloc (shB l n) = W at HC HK HR ⊢
  go_loopw [5, 6, 14] (fun _ _ t w' => ∃ k : Nat, k ≤ n ∧ t = .int .i64 k ∧ inTo l i k ∧ w' = W) (fun _ _ t _ => n - (intOf t).toNat)
  case atStart => exact ⟨0, Nat.zero_le _, rfl, fun j hj => by omega, rfl⟩
  case round =>
    obtain ⟨k, hk, rfl, hin, rfl⟩ := hrel
    by_cases hlt : k < n
    · have q1 := HC.out k (by omega)
      have q2 := HR.out k hlt
      have k1 : (k : Int) < 4 := by omega
      by_cases h0 : nth i k < 0
      · have d1 : decide (nth i k < 0) = true := by simp [h0]
        have HF : Hid (inBb l i = false) := by
          rw [← Bool.not_eq_true]
          exact fun e => by have := ((inBb_iff l i).1 e).2 k (by have := HL.out; omega); omega
        go_wp2
        go_ret
        exact ⟨ret_bool HF.out.symm, HK.out⟩
      · have d1 : decide (nth i k < 0) = false := by simp [h0]
        by_cases hg : nth l k ≤ nth i k
        · have d2 : decide (nth l k ≤ nth i k) = true := by simp [hg]
          have HF : Hid (inBb l i = false) := by
            rw [← Bool.not_eq_true]
            exact fun e => by have := ((inBb_iff l i).1 e).2 k (by have := HL.out; omega); omega
          go_wp2
          go_ret
          exact ⟨ret_bool HF.out.symm, HK.out⟩
        · have d2 : decide (nth l k ≤ nth i k) = false := by simp [hg]
          have hin' : inTo l i (k + 1) := fun j hj => by
            rcases Nat.lt_succ_iff_lt_or_eq.1 hj with h | h
            · exact hin j h
            · subst h; omega
          have HS : Hid (inTo l i (k + 1)) := hin'
          clear hin' hin
          go_wp2
          go_roundw
          case rel => exact ⟨k + 1, by omega, by go_num, HS.out, trivial⟩
          case measure => simp [intOf]; omega
    · have HF : Hid (inBb l i = true) := (inBb_iff l i).2 ⟨HL.out.trans HI.out.symm, fun j hj => hin j (by have := HL.out; omega)⟩
      go_wp2
      go_ret
      exact ⟨ret_bool HF.out.symm, HK.out⟩

theorem xhas_calls (l i : List Int) (vi : Value) (w : World) (hr : RdI w vi i) (hl : l.length ≤ 4) :
    Calls Try.prog 43 #[.agg (shC l).toArray, vi] w fun e w' => e = .returned (.bool (inBb l i)) ∧ Kp0 w w' := by
  obtain ⟨a, c, rfl, ha⟩ := hr
  by_cases hle : l.length = i.length
  · by_cases hx : i = []
    · subst hx
      have : l = [] := List.length_eq_zero_iff.1 hle
      subst this
      refine (xhas_nil a c w).mono ?_
      rintro e w' ⟨rfl, hw⟩
      exact ⟨ret_bool (by simp [inBb]), hw⟩
    · obtain ⟨g, o, rfl, ha'⟩ := ha hx
      have e : (Value.agg (shC l).toArray) = .agg #[.int .i64 (nth l 0), .int .i64 (nth l 1), .int .i64 (nth l 2), .int .i64 (nth l 3), .int .i64 (i.length : Int)] := by simp [shC, hle]
      rw [e]
      exact xhas_any g o c l i i.length w hle rfl (by omega) ha'
  · have hf : inBb l i = false := by
      rw [← Bool.not_eq_true]
      exact fun e => hle ((inBb_iff l i).1 e).1
    rw [hf]
    exact xhas_len a l _ c w hle

end Go.Proofs.Yticbbncdcannlaa

/- The law's own small functions, walked: same. -/
namespace Go.Proofs.Yticbbncdcannlaa
open Go.RowKit

end Go.Proofs.Yticbbncdcannlaa

/- append onto a list of ints: in its own block, or into a new one and the old one as it was. -/
namespace Go.Proofs.Yticbbncdcannlaa
open Go.RowKit

theorem run_app_or (w : World) (ty : TypeId) (ao : Option Addr) (n c : Nat) (xs ys : List Int) (vx : Value) (hown : OwI w (.slice ao n c) xs) (hr : RdI w vx ys) (hne : ys ≠ []) (hb : n + ys.length ≤ 1000000000000) :
    ∃ ao' c' w', (Builtin.append_ #[22, 22] ty #[.slice ao n c, vx]).run Try.prog w = .ok (.slice ao' (n + ys.length) c') w' ∧ OwI w' (.slice ao' (n + ys.length) c') (xs ++ ys) ∧
      ((ao' = ao ∧ w.grownBy w' (Value.slice ao n c).ownBlock) ∨ (ao' = some ⟨w.heap.size, 0, none⟩ ∧ w.grownBy w' none)) := by
  obtain ⟨ao', c', w', h1, h2, h3, h4⟩ := run_app w ty ao n c xs ys vx hown hr hb
  refine ⟨ao', c', w', h1, h2, ?_⟩
  obtain ⟨i, hi, hz0, hz1, hz2⟩ := info_parts Try.infoInt
  obtain ⟨hn, hnc⟩ := hown.form
  obtain ⟨a, cap, rfl, hr⟩ := hr
  obtain ⟨g, o, rfl, hc⟩ := hr hne
  have hpos : 0 < ys.length := List.length_pos_iff.2 hne
  have hnews : ∀ j u, (ints ys)[j]? = some u → w.cell? ((⟨g, o, none⟩ : Addr).add j) = some u := by
    intro j u hu
    have hj : j < ys.length := by
      rcases Nat.lt_or_ge j ys.length with h | h
      · exact h
      · rw [List.getElem?_eq_none (by rw [ints_length]; exact h)] at hu; cases hu
    rw [ints_get hj] at hu
    have : (⟨g, o, none⟩ : Addr).add j = ⟨g, o + j, none⟩ := by unfold Addr.add; split <;> simp_all
    rw [this, hc j hj]
    exact hu
  have hl : (ints ys).length = ys.length * i.size := by rw [ints_length, hz1, Nat.mul_one]
  have hown' : w.ownsRow 0 3 1 (.slice ao n c) n (ints xs) := by rw [hn]; rw [hn] at hown; exact hown
  rcases hown'.2 with ⟨hv, h0⟩ | ⟨g', cap', cur, hv, hbg, hg, hnc', hcm, hcs, htake⟩
  · right
    simp at hv
    obtain ⟨rfl, rfl, rfl⟩ := hv
    have he := run_append_nil (P := Try.prog) w 22 ty 3 i (.int .i64 0) Try.underlying22 hi hz0 ⟨g, o, none⟩ ys.length cap (ints ys) hl hnews hpos (by omega) (by rw [hz2]; omega)
    rw [he] at h1
    simp only [Result.ok.injEq, Value.slice.injEq] at h1
    obtain ⟨⟨e1, _, _⟩, e2⟩ := h1
    exact ⟨e1.symm, by rw [← e2]; exact ⟨rfl, rfl, rfl, by simp, fun k hk _ => Below.heap_alloc w.drew _ k hk⟩⟩
  · simp at hv
    obtain ⟨rfl, rfl⟩ := hv
    by_cases hroom : n + ys.length ≤ c
    · left
      refine ⟨?_, h3⟩
      have he := run_append_room (P := Try.prog) w 22 ty 3 i Try.underlying22 hi g' n c cur hg ⟨g, o, none⟩ ys.length cap (ints ys) hl hnews (ints_cell ys) hroom (by rw [hz1, ints_length, hcs]; omega)
      rw [he] at h1
      simp only [Result.ok.injEq, Value.slice.injEq] at h1
      exact h1.1.1.symm
    · right
      have holds : ∀ j u, (ints xs)[j]? = some u → w.cell? ((⟨g', 0, none⟩ : Addr).add j) = some u := hown'.cells (g := g') rfl
      have he := run_append_grow (P := Try.prog) w 22 ty 3 i (.int .i64 0) Try.underlying22 hi hz0 ⟨g', 0, none⟩ n c (ints xs) (by rw [ints_length, hz1, hn, Nat.mul_one]) holds ⟨g, o, none⟩ ys.length cap (ints ys) hl hnews (by omega) (by omega) (growslice_fits (by omega) (by rw [hz2]; omega))
      rw [he] at h1
      simp only [Result.ok.injEq, Value.slice.injEq] at h1
      obtain ⟨⟨e1, _, _⟩, e2⟩ := h1
      exact ⟨e1.symm, by rw [← e2]; exact ⟨rfl, rfl, rfl, by simp, fun k hk _ => Below.heap_alloc w.drew _ k hk⟩⟩

theorem wpList_app_or {ops : Array Oper} {rest : List Oper} {o : Oper} {a : Act} {w : World} {Q : Exit → Act → World → Prop} (hgd : o.guard = none) (s x : Operand)
    (ho : o.op = .call { callee := .builtin .append, args := #[s, x], argTypes := #[22, 22] })
    (ao : Option Addr) (n c : Nat) (xs ys : List Int) (vx : Value) (hs : a.eval s = .slice ao n c) (hx : a.eval x = vx) (hown : OwI w (.slice ao n c) xs) (hr : RdI w vx ys) (hne : ys ≠ []) (hb : n + ys.length ≤ 1000000000000) (H : Nat) (hH : w.heap.size = H)
    (h : ∀ ao' c' w', OwI w' (.slice ao' (n + ys.length) c') (xs ++ ys) → ((ao' = ao ∧ w.grownBy w' (Value.slice ao n c).ownBlock) ∨ (ao' = some ⟨H, 0, none⟩ ∧ w.grownBy w' none)) → wpList Try.prog ops Q rest (a.put o.dst (.slice ao' (n + ys.length) c')) w') : wpList Try.prog ops Q (o :: rest) a w :=
  wpList_plain hgd fun _ hK => by
    obtain ⟨ao', c', w', hrun, h2, h3⟩ := run_app_or w o.type ao n c xs ys vx hown hr hne hb
    unfold Oper.wp execOp
    simp only [ho, resolve, invoke, builtin, Sem.run_bind, Sem.run_pure, Result.andThen_ok, List.map_toArray, List.map_cons, List.map_nil, hs, hx, hrun]
    exact hK _ _ (h ao' c' w' h2 (by rw [← hH]; exact h3))

end Go.Proofs.Yticbbncdcannlaa
