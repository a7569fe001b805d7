/- The document's answer (package trellisref), walked: As, Volume, Shape, Rank. -/
import Derived.Test.YticbbncdcannlaaGreatRows
import Derived.Test.YticbbncdcannlaaGreatG01

namespace Go.Proofs.YticbbncdcannlaaGreat
open Go.RowKit

theorem ret_int {k : IntKind} {a b : Int} (h : a = b) : Ending.returned (.int k a) = .returned (.int k b) := by rw [h]
theorem ret_bool {a b : Bool} (h : a = b) : Ending.returned (.bool a) = .returned (.bool b) := by rw [h]

/-- The first k numbers are within. -/
def inTo (s i : List Int) (k : Nat) : Prop := ∀ j, j < k → 0 ≤ nth i j ∧ nth i j < nth s j

end Go.Proofs.YticbbncdcannlaaGreat

/- The document's answer, walked: find, live, used. -/
namespace Go.Proofs.YticbbncdcannlaaGreat
open Go.RowKit

theorem hid {p : Prop} (h : p) : Hid p := h

end Go.Proofs.YticbbncdcannlaaGreat

/- The document's answer, walked: taken, place. -/
namespace Go.Proofs.YticbbncdcannlaaGreat
open Go.RowKit

theorem Tryz.infoInt : (Tryz.prog.info? 3).map (fun i => (i.zero, i.size, i.bytes)) = some (some (.int .i64 0), 1, 8) := by kernel_rfl
theorem Tryz.infoBool : (Tryz.prog.info? 4).map (fun i => (i.zero, i.size, i.bytes)) = some (some (.bool false), 1, 1) := by kernel_rfl

/-- n values alike. -/
def rep (n : Nat) (z : Value) : Array Value := (List.replicate n z).toArray

theorem run_mk {P : Program} (t e : TypeId) (z : Value) (bytes : Nat) (ht : P.underlying t = some (.slice e)) (hi : (P.info? e).map (fun i => (i.zero, i.size, i.bytes)) = some (some z, 1, bytes)) (hz : z.cells = #[z]) (hby : bytes ≤ 100) (n : Nat) (hn : n ≤ 1000000000000) (W : World) :
    (Instr.makeSlice t (.int .i64 (n : Int)) (.int .i64 (n : Int))).run P W = .ok (.slice (some ⟨W.heap.size, 0, none⟩) n n) (W.alloc (.cells (rep n z) e)) := by
  obtain ⟨i, hi, hz0, hz1, hz2⟩ := info_parts hi
  have hb : (i.bytes : Int) * (n : Int) ≤ 281474976710656 := by
    have h1 : i.bytes * n ≤ 100 * 1000000000000 := Nat.mul_le_mul (by omega) hn
    have h2 : ((i.bytes * n : Nat) : Int) ≤ 281474976710656 := by omega
    rwa [Int.natCast_mul] at h2
  have := run_make (P := P) W t e i z ht hi hz0 .i64 .i64 n n (by omega) (Int.le_refl _) hb (by omega)
  rw [this, hz1, hz]
  simp only [Int.toNat_natCast, Nat.mul_one]
  congr 4
  unfold rep
  rw [← toList_madeCells_one]

theorem YAt.kp0 {T : Tags} {o : Nat} {w w' : World} {p : Nat} {L : YL} {σ : Sp} (h : YAt T o w p L σ) (k : Kp0 w w') : YAt T o w' p L σ := h.kp k (fun _ _ e => e)

theorem frozen_blk {w : World} {g j : Nat} {c : Array Value} {t : TypeId} (h : w.heap[g]? = some (.cells c t (0, 0))) : w.frozen? ⟨g, j, none⟩ = false := frozen_of_row w g j c t h

theorem Sp.ok.cap {σ : Sp} (h : σ.ok) (kind : Int) : σ.cap kind ≤ 10000 := by
  unfold Sp.cap
  split
  · exact h.n1
  · exact h.n2

end Go.Proofs.YticbbncdcannlaaGreat

/- The document's answer, walked: lay. -/
namespace Go.Proofs.YticbbncdcannlaaGreat
open Go.RowKit

/-- One array more. -/
def Sp.lay (σ : Sp) (a : Arr) : Sp := { σ with arrs := σ.arrs ++ [some a] }

/-- New blocks get this tag. -/
def retag (w : World) (T : Tags) (t : Nat × Nat) : Tags := fun b => if b < w.heap.size then T b else t
theorem retag_to (w : World) (T : Tags) (t : Nat × Nat) : TagsTo w T (retag w T t) := fun _ hb => if_pos hb
theorem retag_new {w : World} {T : Tags} {t : Nat × Nat} {b : Nat} (h : w.heap.size ≤ b) : retag w T t b = t := if_neg (by omega)

end Go.Proofs.YticbbncdcannlaaGreat

/- The document's answer: what stores into a space's parts leave. -/
namespace Go.Proofs.YticbbncdcannlaaGreat
open Go.RowKit

/-- One cell written. -/
def Sp.put (σ : Sp) (kind : Int) (c : Nat) (v : Int) : Sp := if kind = 1 then { σ with v1 := σ.v1.set c v } else { σ with v2 := σ.v2.set c v }

def YL.gk (L : YL) (kind : Int) : Nat := if kind = 1 then L.g1 else L.g2

theorem ints_set (xs : List Int) (c : Nat) (v : Int) : (ints xs).toArray.setIfInBounds c (.int .i64 v) = (ints (xs.set c v)).toArray := by
  simp [ints, List.map_set]

theorem Sp.ok.vals {σ : Sp} (h : σ.ok) (kind : Int) : (σ.vals kind).length = σ.cap kind := by
  unfold Sp.vals Sp.cap
  split
  · exact h.v1
  · exact h.v2

/-- A cell of a store is written: what turns is that store's block alone. -/
theorem YAt.put {T : Tags} {o : Nat} {w : World} {p : Nat} {L : YL} {σ : Sp} (hy : YAt T o w p L σ) (kind : Int) (hk : kind = 1 ∨ kind = 2) (c : Nat) (v : Int) :
    YAt T o (w.setCell ⟨L.gk kind, c, none⟩ (.int .i64 v)) p L (σ.put kind c v) ∧ Kp (fun b => T b = (o, 2) ∨ T b = (o, 3)) w (w.setCell ⟨L.gk kind, c, none⟩ (.int .i64 v)) := by
  have hkp : Kp (fun b => T b = (o, 2) ∨ T b = (o, 3)) w (w.setCell ⟨L.gk kind, c, none⟩ (.int .i64 v)) := by
    refine (Kp.refl _ _).setCell _ _ (fun _ => ?_)
    rcases hk with rfl | rfl
    · exact .inl hy.t1
    · exact .inr hy.t2
  refine ⟨?_, hkp⟩
  have no : ∀ (b t : Nat), t ≠ 2 → t ≠ 3 → T b = (o, t) → ¬ (T b = (o, 2) ∨ T b = (o, 3)) := by
    intro b t h1 h4 ht h
    rw [ht] at h
    simp at h
    omega
  have n12 : L.g1 ≠ L.g2 := fun e => by
    have := hy.t1
    rw [e, hy.t2] at this
    simp at this
  have hva := row_kp hy.va hkp (fun b hb => no b 4 (by omega) (by omega) (hy.ta b hb))
  have hvb := row_kp hy.vb hkp (fun b hb => no b 5 (by omega) (by omega) (hy.tb b hb))
  have hsom : ∀ (i : Nat) (a : Arr), σ.arrs[i]? = some (some a) → ∃ q vs vc, L.ps[i]? = some (some q) ∧ YArr T o (w.setCell ⟨L.gk kind, c, none⟩ (.int .i64 v)) q vs vc a := by
    intro i a ha
    obtain ⟨q, vs, vc, h1, h2⟩ := hy.som i a ha
    exact ⟨q, vs, vc, h1, h2.kp hkp (fun b hb => no b 6 (by omega) (by omega) hb)⟩
  have hblk := hkp.heap hy.blk (no p 1 (by omega) (by omega) hy.tp)
  rcases hk with rfl | rfl
  · exact ⟨hblk, by
      have := heap_setCell_same w L.g1 c _ _ (.int .i64 v) hy.c1
      rw [ints_set] at this
      exact this, by
      have := heap_setCell_other w ⟨L.g1, c, none⟩ L.g2 (.int .i64 v) (fun e => n12 e.symm)
      exact this.trans hy.c2, hva, hvb, hy.len, hy.non, hsom, hy.tp, hy.t1, hy.t2, hy.ta, hy.tb⟩
  · exact ⟨hblk, by
      have := heap_setCell_other w ⟨L.g2, c, none⟩ L.g1 (.int .i64 v) n12
      exact this.trans hy.c1, by
      have := heap_setCell_same w L.g2 c _ _ (.int .i64 v) hy.c2
      rw [ints_set] at this
      exact this, hva, hvb, hy.len, hy.non, hsom, hy.tp, hy.t1, hy.t2, hy.ta, hy.tb⟩

/-- One buffer more. -/
def Sp.more (σ : Sp) (b : Buf) : Sp := { σ with bufs := σ.bufs ++ [b] }

theorem YAt.more {T : Tags} {o : Nat} {w w1 : World} {p : Nat} {L : YL} {σ : Sp} (hy : YAt T o w p L σ) (x : Obj) (b : Buf) (g cap : Nat)
    (hown : w1.ownsRow 0 213 3 (.slice (some ⟨g, 0, none⟩) (σ.bufs.length + 1) cap) (σ.bufs.length + 1) (σ.bufs.flatMap Buf.row ++ b.row)) (hgrow : (w.alloc x).grownBy w1 L.vb.ownBlock) (hat : L.vb.ownBlock = some g ∨ g = w.heap.size + 1) :
    YAt (retag w T (o, 5)) o (w1.setCell ⟨p, 7, none⟩ (.slice (some ⟨g, 0, none⟩) (σ.bufs.length + 1) cap)) p { L with vb := .slice (some ⟨g, 0, none⟩) (σ.bufs.length + 1) cap } (σ.more b) ∧
      Kp (fun b => T b = (o, 1) ∨ T b = (o, 5)) w (w1.setCell ⟨p, 7, none⟩ (.slice (some ⟨g, 0, none⟩) (σ.bufs.length + 1) cap)) := by
  have hp : p < w.heap.size := lt_of_heap hy.blk
  have hne : L.vb.ownBlock ≠ some p := fun e => by
    have := hy.tb p e
    rw [hy.tp] at this
    simp at this
  have hk1 : Kp (fun b => T b = (o, 1) ∨ T b = (o, 5)) w w1 := ((Kp.refl _ _).alloc _).grown hgrow (fun k hk _ => .inr (hy.tb k hk))
  have hk : Kp (fun b => T b = (o, 1) ∨ T b = (o, 5)) w (w1.setCell ⟨p, 7, none⟩ (.slice (some ⟨g, 0, none⟩) (σ.bufs.length + 1) cap)) := hk1.setCell _ _ (fun _ => .inl hy.tp)
  have hp1 : w1.heap[p]? = w.heap[p]? := (hgrow.block p (by simp; omega) (fun e => hne e.symm)).trans (Below.heap_alloc w _ p hp)
  have hg : retag w T (o, 5) g = (o, 5) := by
    rcases hat with h | h
    · rw [retag_to w T _ g (own_lt hy.vb h)]; exact hy.tb g h
    · exact retag_new (by omega)
  have hgp : g ≠ p := by
    intro e
    subst e
    rw [retag_to w T _ g hp, hy.tp] at hg
    simp at hg
  have no : ∀ (b t : Nat), t ≠ 1 → t ≠ 5 → T b = (o, t) → ¬ (T b = (o, 1) ∨ T b = (o, 5)) := by
    intro b t h1 h4 ht h
    rw [ht] at h
    simp at h
    omega
  have tg := retag_to w T (o, 5)
  refine ⟨?_, hk⟩
  exact {
    blk := by
      have := heap_setCell_same w1 p 7 _ _ (.slice (some ⟨g, 0, none⟩) (σ.bufs.length + 1) cap) (hp1.trans hy.blk)
      rw [this]
      rfl
    c1 := hk.heap hy.c1 (no _ 2 (by omega) (by omega) hy.t1)
    c2 := hk.heap hy.c2 (no _ 3 (by omega) (by omega) hy.t2)
    vb := by
      have := ownsRow_setCell_other hown (a := ⟨p, 7, none⟩) (by simp [Value.ownBlock]; exact hgp) (.slice (some ⟨g, 0, none⟩) (σ.bufs.length + 1) cap)
      simpa [Sp.more] using this
    va := row_kp hy.va hk (fun b hb => no b 4 (by omega) (by omega) (hy.ta b hb))
    len := hy.len
    non := hy.non
    som := by
      intro i b hi
      obtain ⟨q', vs', vc', h1, h2⟩ := hy.som i b hi
      exact ⟨q', vs', vc', h1, (h2.tags' tg).kp hk (fun c hc => by
          intro hS
          have hc' : T c = (o, 6) ∨ w.heap.size ≤ c := by
            by_cases hlt' : c < w.heap.size
            · left; rw [← tg c hlt']; exact hc
            · right; omega
          rcases hc' with h | h
          · exact no c 6 (by omega) (by omega) h hS
          · rw [retag_new h] at hc; simp at hc)⟩
    tp := by rw [tg p hp]; exact hy.tp
    t1 := by rw [tg _ (lt_of_heap hy.c1)]; exact hy.t1
    t2 := by rw [tg _ (lt_of_heap hy.c2)]; exact hy.t2
    tb := by
      intro b hb
      simp [Value.ownBlock] at hb
      subst hb
      exact hg
    ta := fun b hb => by rw [tg b (own_lt hy.va hb)]; exact hy.ta b hb }

end Go.Proofs.YticbbncdcannlaaGreat

/- Laws on append at lists of ints, in the walk's form. -/
namespace Go.Proofs.YticbbncdcannlaaGreat
open Go.RowKit

theorem run_append_empty (t ty e : TypeId) {P : Program} (i : TypeInfo) (ht : P.underlying t = some (.slice e)) (hi : P.info? e = some i) (a b : Option Addr) (n c d : Nat) (hn : n ≤ c) (W : World) :
    (Builtin.append_ #[t, t] ty #[.slice a n c, .slice b 0 d]).run P W = .ok (.slice a n c) W := by
  have hf : ∀ W, (Builtin.firstCells i.size 0 (.slice b 0 d)).run P W = .ok #[] W := by
    intro W
    cases b with
    | none => rfl
    | some b => simp [Builtin.firstCells, loadCells, loadCellsFrom]
  cases a with
  | none => simp [Builtin.append_, run_underlying ht, sizeOf, typeInfo, hi, Builtin.lenOf, hn, hf]
  | some a => simp [Builtin.append_, run_underlying ht, sizeOf, typeInfo, hi, Builtin.lenOf, hn, hf, storeCells]

theorem OwI.form {w : World} {ao : Option Addr} {n c : Nat} {xs : List Int} (h : OwI w (.slice ao n c) xs) : n = xs.length ∧ n ≤ c := by
  rcases h.2 with ⟨h1, h0⟩ | ⟨g, cap, cur, h1, _, hg, hn, _, hs, ht⟩
  · simp at h1; omega
  · simp at h1; omega

/-- append(s, x...), both lists of ints, s one's own (or nil): onto its own block, or into a new one. -/
theorem run_app (w : World) (ty : TypeId) (ao : Option Addr) (n c : Nat) (xs ys : List Int) (vx : Value) (hown : OwI w (.slice ao n c) xs) (hr : RdI w vx ys) (hb : n + ys.length ≤ 1000000000000) :
    ∃ ao' c' w', (Builtin.append_ #[26, 26] ty #[.slice ao n c, vx]).run Tryz.prog w = .ok (.slice ao' (n + ys.length) c') w' ∧ OwI w' (.slice ao' (n + ys.length) c') (xs ++ ys) ∧
      w.grownBy w' (Value.slice ao n c).ownBlock ∧ (∀ b, (Value.slice ao' (n + ys.length) c').ownBlock = some b → (Value.slice ao n c).ownBlock = some b ∨ b = w.heap.size) := by
  obtain ⟨i, hi, hz0, hz1, hz2⟩ := info_parts Tryz.infoInt
  obtain ⟨hn, hnc⟩ := hown.form
  obtain ⟨a, cap, rfl, hr⟩ := hr
  by_cases hy : ys = []
  · subst hy
    refine ⟨ao, c, w, run_append_empty _ _ _ i Tryz.underlying26 hi ao a n c cap hnc w, ?_, World.grownBy.refl _ _, fun b hb => .inl hb⟩
    simpa using hown
  · obtain ⟨g, o, rfl, hc⟩ := hr hy
    have hown' : w.ownsRow 0 3 1 (.slice ao n c) n (ints xs) := by rw [hn]; rw [hn] at hown; exact hown
    have hpos : 0 < ys.length := List.length_pos_iff.2 hy
    obtain ⟨g', cap', w', h1, h2, h3, h4, h5⟩ := run_append_lies (P := Tryz.prog) w 26 ty 0 3 i (.int .i64 0) 1 8 Tryz.underlying26 hi hz0 hz1 hz2 rfl (by omega) _ n (ints xs) hown' ⟨g, o, none⟩ ys.length cap (ints ys) (by rw [ints_length, Nat.mul_one])
      (by
        intro j u hu
        have hj : j < ys.length := by
          rcases Nat.lt_or_ge j ys.length with h | h
          · exact h
          · rw [List.getElem?_eq_none (by rw [ints_length]; exact h)] at hu; cases hu
        rw [ints_get hj] at hu
        have : (⟨g, o, none⟩ : Addr).add j = ⟨g, o + j, none⟩ := by unfold Addr.add; split <;> simp_all
        rw [this, hc j hj]
        exact hu) (ints_cell ys) hpos (by unfold maxLen; omega) (by omega) (Nat.zero_le _) w.heap.size rfl
    refine ⟨some ⟨g', 0, none⟩, cap', w', h1, ?_, h3, ?_⟩
    · unfold OwI
      rw [List.length_append, ← hn, ints_append]
      exact h2
    · intro b hb
      simp [Value.ownBlock] at hb
      subst hb
      exact h4

theorem wp_app {o : Oper} {a : Act} {w : World} {K : Act → World → Prop} {Q : Exit → Act → World → Prop} (s x : Operand)
    (ho : o.op = .call { callee := .builtin .append, args := #[s, x], argTypes := #[26, 26] })
    (ao : Option Addr) (n c : Nat) (xs ys : List Int) (vx : Value) (hs : a.eval s = .slice ao n c) (hx : a.eval x = vx) (hown : OwI w (.slice ao n c) xs) (hr : RdI w vx ys) (hb : n + ys.length ≤ 1000000000000) (H : Nat) (hH : w.heap.size = H)
    (h : ∀ ao' c' w', OwI w' (.slice ao' (n + ys.length) c') (xs ++ ys) → w.grownBy w' (Value.slice ao n c).ownBlock → (∀ b, (Value.slice ao' (n + ys.length) c').ownBlock = some b → (Value.slice ao n c).ownBlock = some b ∨ b = H) → K (a.put o.dst (.slice ao' (n + ys.length) c')) w') : o.wp Tryz.prog a w K Q := by
  obtain ⟨ao', c', w', hrun, h2, h3, h4⟩ := run_app w o.type ao n c xs ys vx hown hr hb
  unfold Oper.wp execOp
  simp only [ho, resolve, invoke, builtin, Sem.run_bind, Sem.run_pure, Result.andThen_ok, List.map_toArray, List.map_cons, List.map_nil, hs, hx, hrun]
  exact h ao' c' w' h2 h3 (by rw [← hH]; exact h4)

theorem wpList_app {ops : Array Oper} {rest : List Oper} {o : Oper} {a : Act} {w : World} {Q : Exit → Act → World → Prop} (hgd : o.guard = none) (s x : Operand)
    (ho : o.op = .call { callee := .builtin .append, args := #[s, x], argTypes := #[26, 26] })
    (ao : Option Addr) (n c : Nat) (xs ys : List Int) (vx : Value) (hs : a.eval s = .slice ao n c) (hx : a.eval x = vx) (hown : OwI w (.slice ao n c) xs) (hr : RdI w vx ys) (hb : n + ys.length ≤ 1000000000000) (H : Nat) (hH : w.heap.size = H)
    (h : ∀ ao' c' w', OwI w' (.slice ao' (n + ys.length) c') (xs ++ ys) → w.grownBy w' (Value.slice ao n c).ownBlock → (∀ b, (Value.slice ao' (n + ys.length) c').ownBlock = some b → (Value.slice ao n c).ownBlock = some b ∨ b = H) → wpList Tryz.prog ops Q rest (a.put o.dst (.slice ao' (n + ys.length) c')) w') : wpList Tryz.prog ops Q (o :: rest) a w :=
  wpList_plain hgd fun _ hK => wp_app s x ho ao n c xs ys vx hs hx hown hr hb H hH fun ao' c' w' h2 h3 h4 => hK _ _ (h ao' c' w' h2 h3 h4)

/-- At a step of a region that draws its order. -/
theorem step_app {ops : Array Oper} {o : Oper} {a : Act} {w : World} {K : Act → World → Prop} {Q : Exit → Act → World → Prop} {E : Prop} (hgd : o.guard = none) (s x : Operand)
    (ho : o.op = .call { callee := .builtin .append, args := #[s, x], argTypes := #[26, 26] })
    (ao : Option Addr) (n c : Nat) (xs ys : List Int) (vx : Value) (hs : a.eval s = .slice ao n c) (hx : a.eval x = vx) (hown : OwI w (.slice ao n c) xs) (hr : RdI w vx ys) (hb : n + ys.length ≤ 1000000000000) (H : Nat) (hH : w.heap.size = H)
    (h : ∀ ao' c' w', OwI w' (.slice ao' (n + ys.length) c') (xs ++ ys) → w.grownBy w' (Value.slice ao n c).ownBlock → (∀ b, (Value.slice ao' (n + ys.length) c').ownBlock = some b → (Value.slice ao n c).ownBlock = some b ∨ b = H) → K (a.put o.dst (.slice ao' (n + ys.length) c')) w') :
    if Region.wanted o (yielded ops a.tmps) = true then Oper.wp Tryz.prog o a w K Q else E := by
  have hw : Region.wanted o (yielded ops a.tmps) = true := by simp [Region.wanted, hgd]
  rw [if_pos hw]
  exact wp_app s x ho ao n c xs ys vx hs hx hown hr hb H hH h

theorem OwI.drew {w : World} {v : Value} {xs : List Int} (h : OwI w v xs) : OwI w.drew v xs := h
theorem RdI.drew {w : World} {v : Value} {xs : List Int} (h : RdI w v xs) : RdI w.drew v xs := h

theorem grown_heap {w w' : World} {x o : Obj} {b : Nat} {row : Option Nat} (hb : w.heap[b]? = some o) (hg : (w.alloc x).grownBy w' row) (hne : some b ≠ row) : w'.heap[b]? = some o :=
  (hg.block b (by simp; exact Nat.lt_succ_of_lt (lt_of_heap hb)) hne).trans ((Below.heap_alloc w x b (lt_of_heap hb)).trans hb)

theorem OwI.alloc {w : World} {v : Value} {xs : List Int} (h : OwI w v xs) (x : Obj) : OwI (w.alloc x) v xs := World.ownsRow.alloc h x
theorem OwI.grown {w w' : World} {v : Value} {xs : List Int} {row : Option Nat} (h : OwI w v xs) (hg : w.grownBy w' row) (hne : ∀ b, v.ownBlock = some b → some b ≠ row) : OwI w' v xs := by
  refine World.ownsRow.kept h hg ?_
  cases hv : v.ownBlock with
  | none => exact .inl rfl
  | some b => exact .inr (hne b hv)
theorem OwI.setCell {w : World} {v : Value} {xs : List Int} (h : OwI w v xs) {a : Addr} (u : Value) (hne : v.ownBlock ≠ some a.block) : OwI (w.setCell a u) v xs := ownsRow_setCell_other h hne u
theorem OwI.lt {w : World} {v : Value} {xs : List Int} (h : OwI w v xs) {b : Nat} (hb : v.ownBlock = some b) : b < w.heap.size := own_lt h hb

/-- The list that one number is appended by. -/
theorem RdI.one (w : World) (x : Int) : RdI (w.alloc (.cells #[.int .i64 x] 3)) (.slice (some ⟨w.heap.size, 0, none⟩) 1 1) [x] :=
  ⟨some ⟨w.heap.size, 0, none⟩, 1, rfl, fun _ => ⟨w.heap.size, 0, rfl, fun j hj => by
    have : j = 0 := by simpa using hj
    subst this
    simp [nth]⟩⟩

end Go.Proofs.YticbbncdcannlaaGreat

/- The document's answer, walked: fresh. -/
namespace Go.Proofs.YticbbncdcannlaaGreat
open Go.RowKit

/-- k numbers from a on. -/
def rng (a : Int) (k : Nat) : List Int := (List.range k).map fun i : Nat => a + i
theorem rng_succ (a : Int) (k : Nat) : rng a (k + 1) = rng a k ++ [a + k] := by simp [rng, List.range_succ]
theorem rng_length (a : Int) (k : Nat) : (rng a k).length = k := by simp [rng]

theorem placeIn_bd (t : Int → Bool) (size f i : Nat) (h : 0 ≤ placeIn t size f i) : placeIn t size f i + size ≤ (f : Int) + i := by
  induction f generalizing i with
  | zero => simp [placeIn] at h
  | succ f ih =>
    simp only [placeIn] at *
    split at h
    · rename_i he
      rw [if_pos he]
      omega
    · rename_i he
      rw [if_neg he]
      have := ih (i + 1) h
      omega

theorem place_bd (σ : Sp) (kind : Int) (size : Nat) (h : 0 ≤ σ.place kind size) : σ.place kind size + size ≤ σ.cap kind := by
  have := placeIn_bd (σ.taken kind) size (σ.cap kind) 0 h
  simpa [Sp.place] using this

/-- k cells written, from a on. -/
def Sp.puts (σ : Sp) (kind a : Int) (f : Nat → Int) : Nat → Sp
  | 0 => σ
  | k + 1 => (σ.puts kind a f k).put kind (a + k).toNat (f k)

theorem puts_cap (σ : Sp) (kind a : Int) (f : Nat → Int) (k : Nat) (j : Int) : (σ.puts kind a f k).cap j = σ.cap j := by
  induction k with
  | zero => rfl
  | succ k ih =>
    rw [← ih]
    simp only [Sp.puts, Sp.put, Sp.cap]
    by_cases hk : kind = 1
    · rw [if_pos hk]
    · rw [if_neg hk]
theorem puts_arrs (σ : Sp) (kind a : Int) (f : Nat → Int) (k : Nat) : (σ.puts kind a f k).arrs = σ.arrs ∧ (σ.puts kind a f k).bufs = σ.bufs ∧ (σ.puts kind a f k).n1 = σ.n1 ∧ (σ.puts kind a f k).n2 = σ.n2 ∧ (σ.puts kind a f k).v1.length = σ.v1.length ∧ (σ.puts kind a f k).v2.length = σ.v2.length := by
  induction k with
  | zero => exact ⟨rfl, rfl, rfl, rfl, rfl, rfl⟩
  | succ k ih =>
    obtain ⟨h1, h2, h3, h4, h5, h6⟩ := ih
    simp only [Sp.puts, Sp.put]
    split
    · exact ⟨h1, h2, h3, h4, by simp [h5], h6⟩
    · exact ⟨h1, h2, h3, h4, h5, by simp [h6]⟩

theorem puts_vals (σ : Sp) (kind a : Int) (f : Nat → Int) (k : Nat) (j : Int) : ((σ.puts kind a f k).vals j).length = (σ.vals j).length := by
  obtain ⟨-, -, -, -, h5, h6⟩ := puts_arrs σ kind a f k
  unfold Sp.vals
  split
  · exact h5
  · exact h6

/-- A new array with a buffer of its own. -/
def Sp.made (σ : Sp) (kind a : Int) (s : List Int) (m : Nat) (f : Nat → Int) : Sp :=
  ((σ.more ⟨kind, a, m⟩).puts kind a f m).lay ⟨kind, s, rng a m, false, σ.bufs.length⟩

theorem arr_ok_of {a : Arr} {σ σ' : Sp} (h : a.ok σ) (hc : ∀ j, σ'.cap j = σ.cap j) (hb : ∀ (i : Nat) (b : Buf), σ.bufs[i]? = some b → ∃ b', σ'.bufs[i]? = some b') : a.ok σ' :=
  ⟨h.kind, h.shape, h.length, fun j hj => by rw [hc]; exact h.inside j hj, by
    obtain ⟨b, hb'⟩ := h.buf
    exact hb _ b hb'⟩

theorem more_ok {σ : Sp} (h : σ.ok) (b : Buf) (hk : b.kind = 1 ∨ b.kind = 2) (h0 : 0 ≤ b.at') (h1 : 1 ≤ b.size) (h2 : b.size ≤ 3600) (h3 : b.at' + b.size ≤ σ.cap b.kind) (hm : σ.bufs.length + 1 ≤ 100000000) : (σ.more b).ok := by
  refine ⟨h.n1, h.n2, h.v1, h.v2, fun i a ha => ?_, fun i c hc => ?_, h.many, by simpa [Sp.more] using hm⟩
  · refine arr_ok_of (h.arr i a ha) (fun _ => rfl) (fun i b' hb' => ⟨b', ?_⟩)
    simp only [Sp.more]
    rw [List.getElem?_append_left (by
      rcases Nat.lt_or_ge i σ.bufs.length with h' | h'
      · exact h'
      · rw [List.getElem?_eq_none h'] at hb'; cases hb')]
    exact hb'
  · simp only [Sp.more] at hc
    rw [List.getElem?_append] at hc
    split at hc
    · exact h.buf i c hc
    · cases hj : i - σ.bufs.length with
      | zero =>
        rw [hj] at hc
        simp at hc
        subst hc
        exact ⟨hk, h0, h1, h2, h3⟩
      | succ j => rw [hj] at hc; simp at hc

theorem puts_ok {σ : Sp} (h : σ.ok) (kind a : Int) (f : Nat → Int) (k : Nat) : (σ.puts kind a f k).ok := by
  obtain ⟨h1, h2, h3, h4, h5, h6⟩ := puts_arrs σ kind a f k
  refine ⟨by rw [h3]; exact h.n1, by rw [h4]; exact h.n2, by rw [h5, h3]; exact h.v1, by rw [h6, h4]; exact h.v2, fun i b hb => ?_, fun i c hc => ?_, by rw [h1]; exact h.many, by rw [h2]; exact h.bufs⟩
  · rw [h1] at hb
    exact arr_ok_of (h.arr i b hb) (fun j => puts_cap σ kind a f k j) (fun i b' hb' => ⟨b', by rw [h2]; exact hb'⟩)
  · rw [h2] at hc
    rw [puts_cap]
    exact h.buf i c hc

end Go.Proofs.YticbbncdcannlaaGreat

/- The document's answer, walked: Make, Free, Get. -/
namespace Go.Proofs.YticbbncdcannlaaGreat
open Go.RowKit

/-- The document's answer's space, wherever its parts lie. -/
def YRep (T : Tags) (o : Nat) (w : World) (p : Nat) (σ : Sp) : Prop := σ.ok ∧ ∃ L, YAt T o w p L σ

theorem lay_ok {σ : Sp} (h : σ.ok) (a : Arr) (ha : a.ok σ) (hm : σ.arrs.length + 1 ≤ 100000000) : (σ.lay a).ok := by
  refine ⟨h.n1, h.n2, h.v1, h.v2, fun i b hb => ?_, h.buf, by simpa [Sp.lay] using hm, h.bufs⟩
  simp only [Sp.lay] at hb
  rw [List.getElem?_append] at hb
  split at hb
  · exact arr_ok_of (h.arr i b hb) (fun _ => rfl) (fun i b' hb' => ⟨b', hb'⟩)
  · cases hj : i - σ.arrs.length with
    | zero =>
      rw [hj] at hb
      simp at hb
      subst hb
      exact arr_ok_of ha (fun _ => rfl) (fun i b' hb' => ⟨b', hb'⟩)
    | succ j => rw [hj] at hb; simp at hb

theorem nth_rng (a : Int) (k j : Nat) (h : j < k) : nth (rng a k) j = a + j := by
  rw [nth_lt (by rw [rng_length]; exact h)]
  simp [rng]

theorem made_ok {σ : Sp} (h : σ.ok) (kind a : Int) (s : List Int) (f : Nat → Int) (hk : kind = 1 ∨ kind = 2) (hs : okShape s) (h0 : 0 ≤ a) (hc : a + (vol s).toNat ≤ σ.cap kind) (hm : σ.arrs.length + 1 ≤ 100000000) (hb : σ.bufs.length + 1 ≤ 100000000) :
    (σ.made kind a s (vol s).toNat f).ok := by
  have hv := vol_bd s hs.2.1 hs.1 s.length (Nat.le_refl _)
  rw [List.take_length] at hv
  have h1 := more_ok h ⟨kind, a, ((vol s).toNat : Nat)⟩ hk h0 (by show (1 : Int) ≤ (((vol s).toNat : Nat) : Int); omega) (by show (((vol s).toNat : Nat) : Int) ≤ 3600; have := hs.2.2; omega) hc hb
  have h2 := puts_ok h1 kind a f (vol s).toNat
  obtain ⟨e1, e2, -⟩ := puts_arrs (σ.more ⟨kind, a, ((vol s).toNat : Nat)⟩) kind a f (vol s).toNat
  refine lay_ok h2 _ ⟨hk, hs, ?_, fun j hj => ?_, ⟨⟨kind, a, ((vol s).toNat : Nat)⟩, ?_⟩⟩ (by rw [e1]; exact hm)
  · show ((rng a (vol s).toNat).length : Int) = vol s
    rw [rng_length]
    omega
  · have hj' : j < (vol s).toNat := by
      have : (rng a (vol s).toNat).length = (vol s).toNat := rng_length _ _
      rw [← this]; exact hj
    show 0 ≤ nth (rng a (vol s).toNat) j ∧ nth (rng a (vol s).toNat) j < _
    rw [nth_rng _ _ _ hj', puts_cap]
    constructor
    · omega
    · show a + j < (σ.cap kind : Int)
      omega
  · show _ = _
    rw [e2]
    simp [Sp.more]

/-- Make: the state behind it, the handle, the error. -/
def Sp.make (σ : Sp) (kind : Int) (s : List Int) : Sp × Int × Int :=
  if kind ≠ 1 ∧ kind ≠ 2 then (σ, 0, 3)
  else if shapeB s = false then (σ, 0, 4)
  else if 40 ≤ σ.live then (σ, 0, 7)
  else if σ.place kind (vol s).toNat < 0 then (σ, 0, 8)
  else (σ.made kind (σ.place kind (vol s).toNat) s (vol s).toNat fun _ => 0, (σ.arrs.length : Int) + 1, 0)

end Go.Proofs.YticbbncdcannlaaGreat

/- The document's answer, walked: Free. -/
namespace Go.Proofs.YticbbncdcannlaaGreat
open Go.RowKit

/-- Free: the state behind it, the error. -/
def Sp.free (σ : Sp) (h : Int) : Sp × Int := match σ.find h with
  | none => (σ, 2)
  | some _ => ({ σ with arrs := σ.arrs.set (ix h) none }, 0)

theorem free_ok {σ : Sp} (h : σ.ok) (d : Int) : (σ.free d).1.ok := by
  unfold Sp.free
  split
  · exact h
  · refine ⟨h.n1, h.n2, h.v1, h.v2, fun i b hb => ?_, h.buf, by simpa using h.many, h.bufs⟩
    simp only [List.getElem?_set] at hb
    split at hb
    · split at hb <;> simp at hb
    · exact arr_ok_of (h.arr i b hb) (fun _ => rfl) (fun i b' hb' => ⟨b', hb'⟩)

theorem YAt.drop {T : Tags} {o : Nat} {w : World} {p : Nat} {L : YL} {σ : Sp} (hy : YAt T o w p L σ) (g cap j : Nat) (hv : L.va = .slice (some ⟨g, 0, none⟩) σ.arrs.length cap) :
    YAt T o (w.setCell ⟨g, j, none⟩ (.pointer none)) p { L with ps := L.ps.set j none } { σ with arrs := σ.arrs.set j none } ∧ Kp (fun b => T b = (o, 4)) w (w.setCell ⟨g, j, none⟩ (.pointer none)) := by
  have tg : T g = (o, 4) := hy.ta g (by rw [hv]; rfl)
  have hk : Kp (fun b => T b = (o, 4)) w (w.setCell ⟨g, j, none⟩ (.pointer none)) := (Kp.refl _ _).setCell _ _ (fun _ => tg)
  have no : ∀ (b t : Nat), t ≠ 4 → T b = (o, t) → ¬ (T b = (o, 4)) := by
    intro b t h1 ht h
    rw [ht] at h
    simp at h
    omega
  refine ⟨?_, hk⟩
  exact {
    blk := by
      have := hk.heap hy.blk (no p 1 (by omega) hy.tp)
      simpa using this
    c1 := hk.heap hy.c1 (no _ 2 (by omega) hy.t1)
    c2 := hk.heap hy.c2 (no _ 3 (by omega) hy.t2)
    va := by
      have h := hy.va
      rw [hv] at h
      have := h.stored j (.pointer none)
      rw [List.length_set]
      show World.ownsRow _ 0 _ 1 L.va _ _
      rw [hv]
      have e : (L.ps.map ptr).set j (.pointer none) = (L.ps.set j none).map ptr := by rw [List.map_set]; rfl
      rw [← e]
      exact this.1
    vb := row_kp hy.vb hk (fun b hb => no b 5 (by omega) (hy.tb b hb))
    len := by simp [hy.len]
    non := by
      intro i hi
      simp only [List.getElem?_set] at hi ⊢
      by_cases hj : j = i
      · subst hj
        simp only [if_true] at hi ⊢
        rw [hy.len]
        split at hi
        · rename_i hlt; rw [if_pos hlt]
        · simp at hi
      · simp only [hj, if_false] at hi ⊢
        exact hy.non i hi
    som := by
      intro i a hi
      simp only [List.getElem?_set] at hi ⊢
      by_cases hj : j = i
      · subst hj
        simp only [if_true] at hi
        split at hi <;> simp at hi
      · simp only [hj, if_false] at hi ⊢
        obtain ⟨q, vs, vc, h1, h2⟩ := hy.som i a hi
        exact ⟨q, vs, vc, h1, h2.kp hk (fun b hb => no b 6 (by omega) hb)⟩
    tp := hy.tp
    t1 := hy.t1
    t2 := hy.t2
    ta := hy.ta
    tb := hy.tb }

end Go.Proofs.YticbbncdcannlaaGreat

/- The document's answer, walked: Get, Set. -/
namespace Go.Proofs.YticbbncdcannlaaGreat
open Go.RowKit

/-- Get: the value, the error. -/
def Sp.get (σ : Sp) (h : Int) (i : List Int) : Int × Int := match σ.find h with
  | none => (0, 2)
  | some a => if rank a.shape i < 0 then (0, 5) else (nth (σ.vals a.kind) (nth a.cells (rank a.shape i).toNat).toNat, 0)

theorem OwI.slice {w : World} {v : Value} {xs : List Int} (h : OwI w v xs) (hne : 0 < xs.length) :
    ∃ g cap, v = .slice (some ⟨g, 0, none⟩) xs.length cap ∧ xs.length ≤ cap ∧ g < w.heap.size ∧ (∀ j, j < xs.length → w.cell? ⟨g, j, none⟩ = some (.int .i64 (nth xs j))) := by
  rcases row_form h with ⟨_, h0⟩ | ⟨g, cap, hv, hn, hg, hc⟩
  · omega
  · refine ⟨g, cap, hv, hn, hg, fun j hj => ?_⟩
    rw [hc j (by omega)]
    exact ints_get hj

end Go.Proofs.YticbbncdcannlaaGreat

/- The program's package grid, walked: Volume, Has, List. -/
namespace Go.Proofs.YticbbncdcannlaaGreat
open Go.RowKit

/-- A shape's cells. -/
def shC (l : List Int) : List Value := [.int .i64 (nth l 0), .int .i64 (nth l 1), .int .i64 (nth l 2), .int .i64 (nth l 3), .int .i64 (l.length : Int)]

/-- The cells of a new block. -/
theorem new_cell (w : World) (cs : Array Value) (t : TypeId) (r : Nat × Nat) (k : Nat) : (w.alloc (.cells cs t r)).cell? ⟨w.heap.size, k, none⟩ = cs[k]? := by
  rw [cell_of_row _ _ _ _ _ _ (heap_alloc_new w _)]

/-- A shape in a new block. -/
theorem sh_cells (w : World) (l : List Int) (n : Nat) (t : TypeId) (k : Nat) (h : k < 4) :
    (w.alloc (.cells #[.int .i64 (nth l 0), .int .i64 (nth l 1), .int .i64 (nth l 2), .int .i64 (nth l 3), .int .i64 (n : Int)] t)).cell? ⟨w.heap.size, k, none⟩ = some (.int .i64 (nth l k)) := by
  rw [new_cell]
  match k, h with
  | 0, _ => rfl
  | 1, _ => rfl
  | 2, _ => rfl
  | 3, _ => rfl

set_option maxRecDepth 100000 in
set_option maxHeartbeats 400000 in
theorem xvolume_calls (l : List Int) (w : World) (hs : sized l) (hl : l.length ≤ 4) :
    Calls Tryz.prog 57 #[.agg (shC l).toArray] w fun e w' => e = .returned (.int .i64 (vol l)) ∧ Kp0 w w' := by
  have HL := hid hl
  have HS := hid hs
  obtain ⟨n, hn⟩ : ∃ n, n = l.length := ⟨_, rfl⟩
  have hn4 : n ≤ 4 := by omega
  unfold shC
  rw [← hn]
  have HN := hid hn
  clear hn hl hs
  go_enter Tryz.func57, Tryz.ntmps57
  go_wp2
  have HC : Hid (∀ k, k < 4 → (w.alloc (.cells #[.int .i64 (nth l 0), .int .i64 (nth l 1), .int .i64 (nth l 2), .int .i64 (nth l 3), .int .i64 (n : Int)] 104)).cell? ⟨w.heap.size, k, none⟩ = some (.int .i64 (nth l k))) := fun k h => sh_cells w l n _ k h
  have HK : Hid (Kp0 w (w.alloc (.cells #[.int .i64 (nth l 0), .int .i64 (nth l 1), .int .i64 (nth l 2), .int .i64 (nth l 3), .int .i64 (n : Int)] 104))) := (Kp.refl _ w).alloc _
  generalize w.alloc (.cells #[.int .i64 (nth l 0), .int .i64 (nth l 1), .int .i64 (nth l 2), .int .i64 (nth l 3), .int .i64 (n : Int)] 104) = W at HC HK ⊢
  go_loop [3, 7, 4] (fun v i _ => ∃ k : Nat, k ≤ n ∧ i = .int .i64 k ∧ v = .int .i64 (vol (l.take k))) (fun _ i _ => n - (intOf i).toNat)
  case atStart => exact ⟨0, Nat.zero_le _, rfl, rfl⟩
  case round =>
    obtain ⟨k, hk, rfl, rfl⟩ := hrel
    by_cases hlt : k < n
    · have q1 := HC.out k (by omega)
      have b1 := vol_bd l HS.out HL.out k (by have := HN.out; omega)
      have b2 := vol_bd l HS.out HL.out (k + 1) (by have := HN.out; omega)
      have HV : Hid (vol (l.take (k + 1)) = vol (l.take k) * nth l k) := vol_take l k (by have := HN.out; omega)
      rw [vol_take l k (by have := HN.out; omega)] at b2
      have k1 : (k : Int) < 4 := by omega
      go_wp2
      go_round
      case rel => exact ⟨k + 1, by omega, by go_num, by rw [HV.out]⟩
      case measure => simp [intOf]; omega
    · go_wp2
      go_ret
      exact ⟨ret_int (by rw [List.take_of_length_le (by have := HN.out; omega)]), HK.out⟩

/-- A shape that a call has boxed. -/
abbrev shB (l : List Int) (n : Nat) : Obj := .cells #[.int .i64 (nth l 0), .int .i64 (nth l 1), .int .i64 (nth l 2), .int .i64 (nth l 3), .int .i64 (n : Int)] 104

set_option maxRecDepth 100000 in
set_option maxHeartbeats 400000 in
theorem xhas_len (a : Option Addr) (l : List Int) (m c : Nat) (w : World) (h : l.length ≠ m) :
    Calls Tryz.prog 103 #[.agg (shC l).toArray, .slice a m c] w fun e w' => e = .returned (.bool false) ∧ Kp0 w w' := by
  have h1 : ((m : Int) != (l.length : Int)) = true := by rw [bne_iff_ne]; omega
  unfold shC
  go_enter Tryz.func103, Tryz.ntmps103
  go_wp2
  go_ret
  exact ⟨rfl, (Kp.refl _ w).alloc _⟩

set_option maxRecDepth 100000 in
set_option maxHeartbeats 400000 in
theorem xhas_nil (a : Option Addr) (c : Nat) (w : World) :
    Calls Tryz.prog 103 #[.agg (shC []).toArray, .slice a 0 c] w fun e w' => e = .returned (.bool true) ∧ Kp0 w w' := by
  simp only [shC, List.length_nil]
  go_enter Tryz.func103, Tryz.ntmps103
  go_wp2
  refine wp_loop_rounds 1 ?_
  rw [rounds_succ]
  go_wp2
  go_ret
  exact ⟨rfl, (Kp.refl _ w).alloc _⟩

set_option maxRecDepth 100000 in
set_option maxHeartbeats 1000000 in
theorem xhas_any (g o c : Nat) (l i : List Int) (n : Nat) (w : World) (HL : Hid (l.length = n)) (HI : Hid (i.length = n)) (hl : n ≤ 4)
    (h1 : ∀ j, j < n → w.cell? ⟨g, o + j, none⟩ = some (.int .i64 (nth i j))) :
    Calls Tryz.prog 103 #[.agg #[.int .i64 (nth l 0), .int .i64 (nth l 1), .int .i64 (nth l 2), .int .i64 (nth l 3), .int .i64 (n : Int)], .slice (some ⟨g, o, none⟩) n c] w fun e w' => e = .returned (.bool (inBb l i)) ∧ Kp0 w w' := by
  have HR : Hid (∀ j, j < n → (w.alloc (shB l n)).cell? ⟨g, o + j, none⟩ = some (.int .i64 (nth i j))) := fun j hj => Kp0.cell ((Kp.refl _ w).alloc _) (h1 j hj)
  have HC : Hid (∀ k, k < 4 → (w.alloc (shB l n)).cell? ⟨w.heap.size, k, none⟩ = some (.int .i64 (nth l k))) := fun k h => sh_cells w l n _ k h
  have HK : Hid (Kp0 w (w.alloc (shB l n))) := (Kp.refl _ w).alloc _
  clear h1
  go_enter Tryz.func103, Tryz.ntmps103
  go_wp2
  generalize w.alloc (shB l n) = W at HC HK HR ⊢
  go_loopw [5, 6, 14] (fun _ _ t w' => ∃ k : Nat, k ≤ n ∧ t = .int .i64 k ∧ inTo l i k ∧ w' = W) (fun _ _ t _ => n - (intOf t).toNat)
  case atStart => exact ⟨0, Nat.zero_le _, rfl, fun j hj => by omega, rfl⟩
  case round =>
    obtain ⟨k, hk, rfl, hin, rfl⟩ := hrel
    by_cases hlt : k < n
    · have q1 := HC.out k (by omega)
      have q2 := HR.out k hlt
      have k1 : (k : Int) < 4 := by omega
      by_cases h0 : nth i k < 0
      · have d1 : decide (nth i k < 0) = true := by simp [h0]
        have HF : Hid (inBb l i = false) := by
          rw [← Bool.not_eq_true]
          exact fun e => by have := ((inBb_iff l i).1 e).2 k (by have := HL.out; omega); omega
        go_wp2
        go_ret
        exact ⟨ret_bool HF.out.symm, HK.out⟩
      · have d1 : decide (nth i k < 0) = false := by simp [h0]
        by_cases hg : nth l k ≤ nth i k
        · have d2 : decide (nth l k ≤ nth i k) = true := by simp [hg]
          have HF : Hid (inBb l i = false) := by
            rw [← Bool.not_eq_true]
            exact fun e => by have := ((inBb_iff l i).1 e).2 k (by have := HL.out; omega); omega
          go_wp2
          go_ret
          exact ⟨ret_bool HF.out.symm, HK.out⟩
        · have d2 : decide (nth l k ≤ nth i k) = false := by simp [hg]
          have hin' : inTo l i (k + 1) := fun j hj => by
            rcases Nat.lt_succ_iff_lt_or_eq.1 hj with h | h
            · exact hin j h
            · subst h; omega
          have HS : Hid (inTo l i (k + 1)) := hin'
          clear hin' hin
          go_wp2
          go_roundw
          case rel => exact ⟨k + 1, by omega, by go_num, HS.out, trivial⟩
          case measure => simp [intOf]; omega
    · have HF : Hid (inBb l i = true) := (inBb_iff l i).2 ⟨HL.out.trans HI.out.symm, fun j hj => hin j (by have := HL.out; omega)⟩
      go_wp2
      go_ret
      exact ⟨ret_bool HF.out.symm, HK.out⟩

theorem xhas_calls (l i : List Int) (vi : Value) (w : World) (hr : RdI w vi i) (hl : l.length ≤ 4) :
    Calls Tryz.prog 103 #[.agg (shC l).toArray, vi] w fun e w' => e = .returned (.bool (inBb l i)) ∧ Kp0 w w' := by
  obtain ⟨a, c, rfl, ha⟩ := hr
  by_cases hle : l.length = i.length
  · by_cases hx : i = []
    · subst hx
      have : l = [] := List.length_eq_zero_iff.1 hle
      subst this
      refine (xhas_nil a c w).mono ?_
      rintro e w' ⟨rfl, hw⟩
      exact ⟨ret_bool (by simp [inBb]), hw⟩
    · obtain ⟨g, o, rfl, ha'⟩ := ha hx
      have e : (Value.agg (shC l).toArray) = .agg #[.int .i64 (nth l 0), .int .i64 (nth l 1), .int .i64 (nth l 2), .int .i64 (nth l 3), .int .i64 (i.length : Int)] := by simp [shC, hle]
      rw [e]
      exact xhas_any g o c l i i.length w hle rfl (by omega) ha'
  · have hf : inBb l i = false := by
      rw [← Bool.not_eq_true]
      exact fun e => hle ((inBb_iff l i).1 e).1
    rw [hf]
    exact xhas_len a l _ c w hle

end Go.Proofs.YticbbncdcannlaaGreat
