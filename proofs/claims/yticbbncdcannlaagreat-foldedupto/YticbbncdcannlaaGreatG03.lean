/- The document's answer, walked: Set. -/
import Derived.Deep.RegionHeld3
import Derived.Test.YticbbncdcannlaaGreatG02
import Derived.Test.YticbbncdcannlaaGreatRows
import Derived.Test.YticbbncdcannlaaGreatG01

namespace Go.Proofs.YticbbncdcannlaaGreat
open Go.RowKit

/-- Set: the state behind it, the error. -/
def Sp.set (σ : Sp) (h v : Int) (i : List Int) : Sp × Int := match σ.find h with
  | none => (σ, 2)
  | some a => if a.ro = true then (σ, 6) else if rank a.shape i < 0 then (σ, 5) else (σ.put a.kind (nth a.cells (rank a.shape i).toNat).toNat (asK a.kind v), 0)

theorem put_ok {σ : Sp} (h : σ.ok) (kind : Int) (c : Nat) (v : Int) : (σ.put kind c v).ok := by
  have := puts_ok h kind (c : Int) (fun _ => v) 1
  simpa [Sp.puts] using this

end Go.Proofs.YticbbncdcannlaaGreat

/- The document's answer, walked: Fill. -/
namespace Go.Proofs.YticbbncdcannlaaGreat
open Go.RowKit

/-- The first k cells of a list written. -/
def Sp.writes (σ : Sp) (kind : Int) (cs : List Int) (f : Nat → Int) : Nat → Sp
  | 0 => σ
  | k + 1 => (σ.writes kind cs f k).put kind (nth cs k).toNat (f k)

theorem put_same (σ : Sp) (kind : Int) (c : Nat) (v : Int) : (σ.put kind c v).arrs = σ.arrs ∧ (σ.put kind c v).bufs = σ.bufs ∧ (σ.put kind c v).n1 = σ.n1 ∧ (σ.put kind c v).n2 = σ.n2 ∧ (∀ j, (σ.put kind c v).cap j = σ.cap j) := by
  unfold Sp.put
  split <;> exact ⟨rfl, rfl, rfl, rfl, fun _ => rfl⟩

theorem writes_ok {σ : Sp} (h : σ.ok) (kind : Int) (cs : List Int) (f : Nat → Int) (k : Nat) : (σ.writes kind cs f k).ok := by
  induction k with
  | zero => exact h
  | succ k ih => exact put_ok ih _ _ _

theorem writes_same (σ : Sp) (kind : Int) (cs : List Int) (f : Nat → Int) (k : Nat) : (σ.writes kind cs f k).arrs = σ.arrs ∧ (σ.writes kind cs f k).bufs = σ.bufs ∧ (∀ j, (σ.writes kind cs f k).cap j = σ.cap j) := by
  induction k with
  | zero => exact ⟨rfl, rfl, fun _ => rfl⟩
  | succ k ih =>
    obtain ⟨h1, h2, h3⟩ := ih
    obtain ⟨e1, e2, -, -, e5⟩ := put_same (σ.writes kind cs f k) kind (nth cs k).toNat (f k)
    exact ⟨e1.trans h1, e2.trans h2, fun j => (e5 j).trans (h3 j)⟩

/-- Fill: the state behind it, the error. -/
def Sp.fill (σ : Sp) (h v : Int) : Sp × Int := match σ.find h with
  | none => (σ, 2)
  | some a => if a.ro = true then (σ, 6) else (σ.writes a.kind a.cells (fun _ => asK a.kind v) a.cells.length, 0)

end Go.Proofs.YticbbncdcannlaaGreat

/- The document's answer, walked: values, Values. -/
namespace Go.Proofs.YticbbncdcannlaaGreat
open Go.RowKit

/-- The values of an array. -/
def Sp.valuesOf (σ : Sp) (a : Arr) : List Int := a.cells.map fun c => nth (σ.vals a.kind) c.toNat

end Go.Proofs.YticbbncdcannlaaGreat

/- The document's answer, walked: Values, Look. -/
namespace Go.Proofs.YticbbncdcannlaaGreat
open Go.RowKit

/-- Values: the list, the error. -/
def Sp.values (σ : Sp) (h : Int) : List Int × Int := match σ.find h with
  | none => ([], 2)
  | some a => (σ.valuesOf a, 0)

/-- A list that comes out: in a block that is new. -/
def NewI (w w' : World) (v : Value) (xs : List Int) : Prop := ∃ ao c, v = .slice ao xs.length c ∧ OwI w' (.slice ao xs.length c) xs ∧ Kp0 w w' ∧ ∀ b, (Value.slice ao xs.length c).ownBlock = some b → w.heap.size ≤ b

theorem NewI.nil {w w' : World} (k : Kp0 w w') : NewI w w' (.slice none 0 0) [] := ⟨none, 0, rfl, OwI.nil _, k, fun b hb => by simp [Value.ownBlock] at hb⟩

/-- Look: kind, shape, read-only, the error. -/
def Sp.look (σ : Sp) (h : Int) : Int × List Int × Bool × Int := match σ.find h with
  | none => (0, [], false, 2)
  | some a => (a.kind, a.shape, a.ro, 0)

end Go.Proofs.YticbbncdcannlaaGreat

/- A list of ints that is made whole and filled place by place. No program but its types. -/
namespace Go.Proofs.YticbbncdcannlaaGreat
open Go.RowKit

/-- The list as it is behind k of its n places. -/
def fillI (xs : List Int) (k n : Nat) : List Int := xs.take k ++ List.replicate (n - k) 0

theorem fillI_length (xs : List Int) (k n : Nat) (h : xs.length = n) (hk : k ≤ n) : (fillI xs k n).length = n := by
  simp [fillI]; omega
theorem fillI_zero (xs : List Int) (n : Nat) : fillI xs 0 n = List.replicate n 0 := by simp [fillI]
theorem fillI_end (xs : List Int) (n : Nat) (h : xs.length = n) : fillI xs n n = xs := by simp [fillI, ← h]

theorem rep_ints (n : Nat) : rep n (.int .i64 0) = (ints (List.replicate n 0)).toArray := by simp [rep, ints]

theorem fillI_set (xs : List Int) (k n : Nat) (h : xs.length = n) (hk : k < n) : (ints (fillI xs k n)).set k (.int .i64 (nth xs k)) = ints (fillI xs (k + 1) n) := by
  have e : n - k = (n - (k + 1)) + 1 := by omega
  have hl : (xs.take k).length = k := by simp; omega
  unfold fillI
  rw [take_snoc xs k (by omega), e, List.replicate_succ]
  simp only [ints, List.map_append, List.map_cons, List.map_nil]
  rw [List.set_append_right _ _ (by simp; omega)]
  simp [show min k xs.length = k by omega]

theorem fillI_step (w : World) (b : Nat) (xs : List Int) (k n : Nat) (h : xs.length = n) (hk : k < n) (hb : w.heap[b]? = some (.cells (ints (fillI xs k n)).toArray 3 (0, 0))) :
    (w.setCell ⟨b, k, none⟩ (.int .i64 (nth xs k))).heap[b]? = some (.cells (ints (fillI xs (k + 1) n)).toArray 3 (0, 0)) := by
  rw [heap_setCell_same w b k _ _ _ hb, ← fillI_set xs k n h hk]
  simp

theorem fillI_cell (w : World) (b : Nat) (xs : List Int) (k n : Nat) (h : xs.length = n) (hk : k < n) (hb : w.heap[b]? = some (.cells (ints (fillI xs k n)).toArray 3 (0, 0))) :
    ∃ v, w.cell? ⟨b, k, none⟩ = some v := by
  rw [cell_of_row w b k _ _ _ hb]
  have : k < (ints (fillI xs k n)).length := by rw [ints_length, fillI_length xs k n h (by omega)]; exact hk
  exact ⟨_, by rw [List.getElem?_toArray, List.getElem?_eq_getElem this]⟩

theorem OwI.made {w : World} {b : Nat} {xs : List Int} {n : Nat} (h : xs.length = n) (hn : n ≤ 1000000000000) (hb : w.heap[b]? = some (.cells (ints xs).toArray 3 (0, 0))) : OwI w (.slice (some ⟨b, 0, none⟩) n n) xs := by
  refine ⟨by rw [ints_length, Nat.mul_one], .inr ⟨b, n, _, by rw [h], Nat.zero_le _, hb, Nat.le_of_eq h, by unfold maxLen; omega, by simp [ints_length, h], ?_⟩⟩
  rw [Nat.mul_one, ← ints_length]
  simp

/-- A list in a block that has come since. -/
theorem NewI.made {w w' : World} {b : Nat} {xs : List Int} {n : Nat} (h : xs.length = n) (hn : n ≤ 1000000000000) (hb : w'.heap[b]? = some (.cells (ints xs).toArray 3 (0, 0))) (hk : Kp0 w w') (hnew : w.heap.size ≤ b) : NewI w w' (.slice (some ⟨b, 0, none⟩) n n) xs := by
  refine ⟨some ⟨b, 0, none⟩, n, by rw [h], ?_, hk, fun b' e => ?_⟩
  · have := OwI.made h hn hb
    rw [← h] at this ⊢
    exact this
  · simp [Value.ownBlock] at e
    omega

end Go.Proofs.YticbbncdcannlaaGreat

/- The document's answer, walked: Store. -/
namespace Go.Proofs.YticbbncdcannlaaGreat
open Go.RowKit

def cntTo (t : Int → Bool) : Nat → Nat
  | 0 => 0
  | k + 1 => cntTo t k + if t k then 1 else 0
def topTo (t : Int → Bool) : Nat → Nat
  | 0 => 0
  | k + 1 => if t k then k + 1 else topTo t k
/-- Store: cells, used, top, the error. -/
def Sp.store (σ : Sp) (kind : Int) : Int × Int × Int × Int :=
  if kind ≠ 1 ∧ kind ≠ 2 then (0, 0, 0, 3)
  else ((σ.cap kind : Int), (cntTo (σ.taken kind) (σ.cap kind) : Int), (topTo (σ.taken kind) (σ.cap kind) : Int), 0)

end Go.Proofs.YticbbncdcannlaaGreat

/- The document's answer, walked: New. -/
namespace Go.Proofs.YticbbncdcannlaaGreat
open Go.RowKit

/-- A space without arrays. -/
def Sp.new (b i : Nat) : Sp := { n1 := b, n2 := i, v1 := List.replicate b 0, v2 := List.replicate i 0, arrs := [], bufs := [] }

/-- May stores have so many cells? -/
def mayNew (b i : Int) : Bool := decide (0 ≤ b) && (decide (b ≤ 10000) && (decide (0 ≤ i) && decide (i ≤ 10000)))

theorem new_ok (b i : Nat) (hb : b ≤ 10000) (hi : i ≤ 10000) : (Sp.new b i).ok :=
  ⟨hb, hi, by simp [Sp.new], by simp [Sp.new], fun j a ha => by simp [Sp.new] at ha, fun j a ha => by simp [Sp.new] at ha, by simp [Sp.new], by simp [Sp.new]⟩

end Go.Proofs.YticbbncdcannlaaGreat

/- The law's own world in memory; kept, walked. -/
namespace Go.Proofs.YticbbncdcannlaaGreat
open Go.RowKit

/-- The law's world as plain data: values of its four lists' headers; what they hold; the last mark. -/
structure WS where
  vsd : Value
  vl : Value
  vm : Value
  vt : Value
  sides : List Nat
  lists : List Value
  marks : List Int
  turned : List Value
  last : Int

/-- A list that holds one number all over. -/
def Same (w : World) (v : Value) (m : Int) : Prop := ∃ n, n ≤ 1000000000 ∧ RdI w v (List.replicate n m) ∧ ∀ b, v.ownBlock = some b → b < w.heap.size

structure WAt (T : Tags) (o : Nat) (w : World) (p : Nat) (S : WS) : Prop where
  blk : w.heap[p]? = some (.cells #[S.vsd, S.vl, S.vm, S.vt, .int .i64 S.last] 28 (0, 0))
  sd : w.ownsRow 0 83 1 S.vsd S.sides.length (S.sides.map fun b => ptr (some b))
  li : w.ownsRow 0 26 1 S.vl S.lists.length S.lists
  ma : OwI w S.vm S.marks
  tu : w.ownsRow 0 26 1 S.vt S.turned.length S.turned
  len : S.lists.length = S.marks.length
  okl : ∀ (i : Nat) (v : Value) (m : Int), S.lists[i]? = some v → S.marks[i]? = some m → Same w v m ∧ Tagged T v (o, 9)
  okt : ∀ (i : Nat) (v : Value), S.turned[i]? = some v → Same w v (-7) ∧ Tagged T v (o, 9)
  tp : T p = (o, 1)
  ts : Tagged T S.vsd (o, 2)
  tl : Tagged T S.vl (o, 3)
  tm : Tagged T S.vm (o, 4)
  tt : Tagged T S.vt (o, 5)
  nl : S.lists.length ≤ 1000000000
  nt : S.turned.length ≤ 1000000000
  l0 : -1000000000 ≤ S.last
  l1 : S.last ≤ 0

theorem Same.kp {S : Nat → Prop} {w w' : World} {v : Value} {m : Int} (h : Same w v m) (k : Kp S w w') (hs : ∀ b, v.ownBlock = some b → ¬ S b) : Same w' v m := by
  obtain ⟨n, hn, hr, hb⟩ := h
  exact ⟨n, hn, hr.kp k hs, fun b e => Nat.lt_of_lt_of_le (hb b e) k.size⟩

theorem WAt.kp {T : Tags} {o : Nat} {Z : Nat → Prop} {w w' : World} {p : Nat} {S : WS} (h : WAt T o w p S) (k : Kp Z w w') (hs : ∀ b, (T b).1 = o → ¬ Z b) : WAt T o w' p S :=
  ⟨k.heap h.blk (hs p (by rw [h.tp])), row_kp h.sd k (fun b hb => hs b (by rw [h.ts b hb])), row_kp h.li k (fun b hb => hs b (by rw [h.tl b hb])), h.ma.kp k (fun b hb => hs b (by rw [h.tm b hb])),
    row_kp h.tu k (fun b hb => hs b (by rw [h.tt b hb])), h.len, fun i v m hv hm => ⟨(h.okl i v m hv hm).1.kp k (fun b hb => hs b (by rw [(h.okl i v m hv hm).2 b hb])), (h.okl i v m hv hm).2⟩,
    fun i v hv => ⟨(h.okt i v hv).1.kp k (fun b hb => hs b (by rw [(h.okt i v hv).2 b hb])), (h.okt i v hv).2⟩, h.tp, h.ts, h.tl, h.tm, h.tt, h.nl, h.nt, h.l0, h.l1⟩

theorem WAt.cells {T : Tags} {o : Nat} {w : World} {p : Nat} {S : WS} (h : WAt T o w p S) :
    w.cell? ⟨p, 0, none⟩ = some S.vsd ∧ w.cell? ⟨p, 1, none⟩ = some S.vl ∧ w.cell? ⟨p, 2, none⟩ = some S.vm ∧ w.cell? ⟨p, 3, none⟩ = some S.vt ∧ w.cell? ⟨p, 4, none⟩ = some (.int .i64 S.last) := by
  simp [World.cell?, h.blk]

end Go.Proofs.YticbbncdcannlaaGreat

/- The law's own world: returned, walked. -/
namespace Go.Proofs.YticbbncdcannlaaGreat
open Go.RowKit

theorem Tryz.infoSl : (Tryz.prog.info? 26).map (fun i => (i.zero, i.size, i.bytes)) = some (some (.slice none 0 0), 1, 24) := by kernel_rfl

/-- What is written over a list, to its k-th number. -/
def over (m : Int) (k : Nat) (xs : List Int) : List Int := List.replicate k m ++ xs.drop k
/-- One list more was handed in and turned over. -/
def WS.turn (S : WS) (vt v : Value) : WS := { S with vt := vt, turned := S.turned ++ [v] }

theorem WAt.turned {T : Tags} {o : Nat} {w wr w2 : World} {p : Nat} {S : WS} (h : WAt T o w p S) {g n g2 cap2 : Nat} {x : Obj} (hgl : g < w.heap.size) (tg : T g = (o, 9)) (hk : Kp (fun b => b = g) w wr) (hg : wr.heap[g]? = some (.cells (ints (List.replicate (n + 1) (-7))).toArray 3 (0, 0)))
    (hown : w2.ownsRow 0 26 1 (.slice (some ⟨g2, 0, none⟩) (S.turned.length + 1) cap2) (S.turned.length + 1) (S.turned ++ [.slice (some ⟨g, 0, none⟩) (n + 1) (n + 1)])) (hgrow : (wr.alloc x).grownBy w2 S.vt.ownBlock) (hat : S.vt.ownBlock = some g2 ∨ g2 = wr.heap.size + 1)
    (hnt : S.turned.length + 1 ≤ 1000000000) (hfl : ∀ (i : Nat) (v : Value), S.lists[i]? = some v → v.ownBlock ≠ some g) (hft : ∀ (i : Nat) (v : Value), S.turned[i]? = some v → v.ownBlock ≠ some g) (hn : n ≤ 100000000) :
    WAt (retag w T (o, 5)) o (w2.setCell ⟨p, 3, none⟩ (.slice (some ⟨g2, 0, none⟩) (S.turned.length + 1) cap2)) p (S.turn (.slice (some ⟨g2, 0, none⟩) (S.turned.length + 1) cap2) (.slice (some ⟨g, 0, none⟩) (n + 1) (n + 1))) := by
  have hpl : p < w.heap.size := lt_of_heap h.blk
  have tr := retag_to w T (o, 5)
  have hgp : ¬ p = g := fun e => by have := h.tp; rw [e, tg] at this; simp at this
  have hnp : some p ≠ S.vt.ownBlock := fun e => by
    have := h.tt p e.symm
    rw [h.tp] at this
    simp at this
  have hng : some g ≠ S.vt.ownBlock := fun e => by
    have := h.tt g e.symm
    rw [tg] at this
    simp at this
  have hK : Kp (fun b => b = g ∨ T b = (o, 1) ∨ T b = (o, 5)) w (w2.setCell ⟨p, 3, none⟩ (.slice (some ⟨g2, 0, none⟩) (S.turned.length + 1) cap2)) :=
    (((hk.mono (fun i _ e => .inl e)).alloc x).grown hgrow (fun b hb _ => .inr (.inr (h.tt b hb)))).setCell _ _ (fun _ => .inr (.inl h.tp))
  have no : ∀ (b t : Nat), t ≠ 1 → t ≠ 5 → t ≠ 9 → T b = (o, t) → ¬ (b = g ∨ T b = (o, 1) ∨ T b = (o, 5)) := by
    intro b t h1 h5 h9 ht hh
    rcases hh with e | e | e
    · rw [e, tg] at ht; simp at ht; omega
    · rw [ht] at e; simp at e; omega
    · rw [ht] at e; simp at e; omega
  have no9 : ∀ (b : Nat), b ≠ g → T b = (o, 9) → ¬ (b = g ∨ T b = (o, 1) ∨ T b = (o, 5)) := by
    intro b hb ht hh
    rcases hh with e | e | e
    · exact hb e
    · rw [ht] at e; simp at e
    · rw [ht] at e; simp at e
  have tg2 : retag w T (o, 5) g2 = (o, 5) := by
    rcases hat with e | e
    · rw [tr g2 (own_lt h.tu e)]; exact h.tt g2 e
    · exact retag_new (by have := hk.size; omega)
  have hgp2 : g2 ≠ p := fun e => by
    rw [e, tr p hpl, h.tp] at tg2
    simp at tg2
  have hgn : (w2.setCell ⟨p, 3, none⟩ (.slice (some ⟨g2, 0, none⟩) (S.turned.length + 1) cap2)).heap[g]? = some (.cells (ints (List.replicate (n + 1) (-7))).toArray 3 (0, 0)) := by
    rw [heap_setCell_other _ _ _ _ (fun e => hgp e.symm)]
    exact grown_heap hg hgrow hng
  have lift : ∀ v m, Same w v m → Tagged T v (o, 9) → Tagged (retag w T (o, 5)) v (o, 9) := fun v m hs hv b e => by
    obtain ⟨_, _, _, hb⟩ := hs
    rw [tr b (hb b e)]; exact hv b e
  exact {
    blk := by
      have hp2 : w2.heap[p]? = w.heap[p]? := (hgrow.block p (by have := hk.size; simp; omega) hnp).trans ((Below.heap_alloc wr x p (by have := hk.size; omega)).trans (hk.block p hpl hgp))
      rw [heap_setCell_same w2 p 3 _ _ _ (hp2.trans h.blk)]
      rfl
    sd := row_kp h.sd hK (fun b hb => no b 2 (by omega) (by omega) (by omega) (h.ts b hb))
    li := row_kp h.li hK (fun b hb => no b 3 (by omega) (by omega) (by omega) (h.tl b hb))
    ma := h.ma.kp hK (fun b hb => no b 4 (by omega) (by omega) (by omega) (h.tm b hb))
    tu := by
      have := ownsRow_setCell_other hown (a := ⟨p, 3, none⟩) (by simp [Value.ownBlock]; exact hgp2) (.slice (some ⟨g2, 0, none⟩) (S.turned.length + 1) cap2)
      simpa [WS.turn] using this
    len := h.len
    okl := by
      intro i v m hv hm
      obtain ⟨h1, h2⟩ := h.okl i v m hv hm
      exact ⟨h1.kp hK (fun b hb => no9 b (fun e => hfl i v hv (by rw [hb, e])) (h2 b hb)), lift v m h1 h2⟩
    okt := by
      intro i v hv
      simp only [WS.turn] at hv
      rw [List.getElem?_append] at hv
      split at hv
      · obtain ⟨h1, h2⟩ := h.okt i v hv
        exact ⟨h1.kp hK (fun b hb => no9 b (fun e => hft i v hv (by rw [hb, e])) (h2 b hb)), lift v _ h1 h2⟩
      · cases hj : i - S.turned.length with
        | zero =>
          rw [hj] at hv
          simp at hv
          subst hv
          refine ⟨⟨n + 1, by omega, ⟨some ⟨g, 0, none⟩, n + 1, by rw [List.length_replicate], fun _ => ⟨g, 0, rfl, fun j hj => ?_⟩⟩, fun b hb => ?_⟩, fun b hb => ?_⟩
          · rw [Nat.zero_add, cell_of_row _ g j _ _ _ hgn]
            have := ints_get hj
            simpa using this
          · simp [Value.ownBlock] at hb
            subst hb
            exact lt_of_heap hgn
          · simp [Value.ownBlock] at hb
            subst hb
            have hgw : g < w.heap.size ∨ w.heap.size ≤ g := by omega
            rcases hgw with e | e
            · rw [tr g e]; exact tg
            · have := hgl
              omega
        | succ j => rw [hj] at hv; simp at hv
    tp := by rw [tr p hpl]; exact h.tp
    ts := fun b hb => by rw [tr b (own_lt h.sd hb)]; exact h.ts b hb
    tl := fun b hb => by rw [tr b (own_lt h.li hb)]; exact h.tl b hb
    tm := fun b hb => by rw [tr b (own_lt h.ma hb)]; exact h.tm b hb
    tt := by
      intro b hb
      simp [WS.turn, Value.ownBlock] at hb
      subst hb
      exact tg2
    nl := h.nl
    nt := by simpa [WS.turn] using hnt
    l0 := h.l0
    l1 := h.l1 }

end Go.Proofs.YticbbncdcannlaaGreat
