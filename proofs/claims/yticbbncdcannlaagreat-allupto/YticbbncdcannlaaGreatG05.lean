/- The law's own world: keep: what its stores leave. -/
import Derived.Test.YticbbncdcannlaaGreatG04
import Derived.Test.YticbbncdcannlaaGreatG02
import Derived.Deep.RegionHeld3

namespace Go.Proofs.YticbbncdcannlaaGreat
open Go.RowKit

def keepTags (w : World) (T : Tags) (o g1 : Nat) : Tags := fun b => if b < w.heap.size then T b else if b = g1 then (o, 3) else (o, 4)

/-- A list more, with its mark. -/
def WS.push (S : WS) (vl vm v : Value) (m : Int) : WS := { S with vl := vl, vm := vm, lists := S.lists ++ [v], marks := S.marks ++ [m] }

theorem WAt.pushed {T : Tags} {o : Nat} {w w1 w3 : World} {p : Nat} {S : WS} (h : WAt T o w p S) {v : Value} {m : Int} {x1 x2 : Obj} {g1 cap1 : Nat} {am' : Option Addr} {cm' nm : Nat} (hs : Same w v m) (tv : Tagged T v (o, 9))
    (own1 : w1.ownsRow 0 26 1 (.slice (some ⟨g1, 0, none⟩) (S.lists.length + 1) cap1) (S.lists.length + 1) (S.lists ++ [v])) (grow1 : (w.alloc x1).grownBy w1 S.vl.ownBlock) (at1 : S.vl.ownBlock = some g1 ∨ g1 = w.heap.size + 1)
    (own3 : OwI w3 (.slice am' nm cm') (S.marks ++ [m])) (grow3 : ((w1.setCell ⟨p, 1, none⟩ (.slice (some ⟨g1, 0, none⟩) (S.lists.length + 1) cap1)).alloc x2).grownBy w3 S.vm.ownBlock) (at3 : ∀ b, (Value.slice am' nm cm').ownBlock = some b → S.vm.ownBlock = some b ∨ b = w1.heap.size + 1)
    (hnl : S.lists.length + 1 ≤ 1000000000) :
    WAt (keepTags w T o g1) o (w3.setCell ⟨p, 2, none⟩ (.slice am' nm cm')) p (S.push (.slice (some ⟨g1, 0, none⟩) (S.lists.length + 1) cap1) (.slice am' nm cm') v m) ∧
      TagsTo w T (keepTags w T o g1) ∧ Kp (fun b => T b = (o, 1) ∨ T b = (o, 3) ∨ T b = (o, 4)) w (w3.setCell ⟨p, 2, none⟩ (.slice am' nm cm')) := by
  have hpl : p < w.heap.size := lt_of_heap h.blk
  have tr : TagsTo w T (keepTags w T o g1) := fun b hb => if_pos hb
  have hpL : some p ≠ S.vl.ownBlock := fun e => by have := h.tl p e.symm; rw [h.tp] at this; simp at this
  have hpM : some p ≠ S.vm.ownBlock := fun e => by have := h.tm p e.symm; rw [h.tp] at this; simp at this
  have s1 : w.heap.size + 1 ≤ w1.heap.size := by have := grow1.size; simpa using this
  have tg1 : keepTags w T o g1 g1 = (o, 3) := by
    rcases at1 with e | e
    · rw [tr g1 (own_lt h.li e)]; exact h.tl g1 e
    · unfold keepTags; rw [if_neg (by omega), if_pos rfl]
  have hg1p : g1 ≠ p := fun e => by
    have t := tr p hpl
    have t3 : keepTags w T o g1 p = keepTags w T o g1 g1 := congrArg _ e.symm
    rw [t3, tg1, h.tp] at t
    simp at t
  have hg1M : some g1 ≠ S.vm.ownBlock := fun e => by
    have h4 := h.tm g1 e.symm
    rw [tr g1 (own_lt h.ma e.symm), h4] at tg1
    simp at tg1
  have g1lt : g1 < w1.heap.size := own_lt own1 rfl
  have tam : ∀ b, (Value.slice am' nm cm').ownBlock = some b → keepTags w T o g1 b = (o, 4) := by
    intro b hb
    rcases at3 b hb with e | e
    · rw [tr b (own_lt h.ma e)]; exact h.tm b e
    · unfold keepTags; rw [if_neg (by omega), if_neg (by omega)]
  have k1 : Kp (fun b => T b = (o, 1) ∨ T b = (o, 3) ∨ T b = (o, 4)) w w1 := ((Kp.refl _ _).alloc x1).grown grow1 (fun b hb _ => .inr (.inl (h.tl b hb)))
  have k2 := k1.setCell ⟨p, 1, none⟩ (.slice (some ⟨g1, 0, none⟩) (S.lists.length + 1) cap1) (fun _ => .inl h.tp)
  have k3 := (k2.alloc x2).grown grow3 (fun b hb _ => .inr (.inr (h.tm b hb)))
  have hK := k3.setCell ⟨p, 2, none⟩ (.slice am' nm cm') (fun _ => .inl h.tp)
  refine ⟨?_, tr, hK⟩
  have no : ∀ (b t : Nat), t ≠ 1 → t ≠ 3 → t ≠ 4 → T b = (o, t) → ¬ (T b = (o, 1) ∨ T b = (o, 3) ∨ T b = (o, 4)) := by
    intro b t h1 h3 h4 ht hh
    rw [ht] at hh
    simp at hh
    omega
  have lift : ∀ v m, Same w v m → Tagged T v (o, 9) → Tagged (keepTags w T o g1) v (o, 9) := fun v m hs hv b e => by
    obtain ⟨_, _, _, hb⟩ := hs
    rw [tr b (hb b e)]; exact hv b e
  have hp1 : w1.heap[p]? = w.heap[p]? := (grow1.block p (by simp; omega) hpL).trans (Below.heap_alloc w x1 p hpl)
  have hp2 := heap_setCell_same w1 p 1 _ _ (.slice (some ⟨g1, 0, none⟩) (S.lists.length + 1) cap1) (hp1.trans h.blk)
  have hp3 := grown_heap hp2 grow3 hpM
  exact {
    blk := by
      rw [heap_setCell_same w3 p 2 _ _ _ hp3]
      rfl
    sd := row_kp h.sd hK (fun b hb => no b 2 (by omega) (by omega) (by omega) (h.ts b hb))
    li := by
      have a1 := ownsRow_setCell_other own1 (a := ⟨p, 1, none⟩) (by simp [Value.ownBlock]; exact hg1p) (.slice (some ⟨g1, 0, none⟩) (S.lists.length + 1) cap1)
      have a2 := World.ownsRow.kept (a1.alloc x2) grow3 (.inr hg1M)
      have a3 := ownsRow_setCell_other a2 (a := ⟨p, 2, none⟩) (by simp [Value.ownBlock]; exact hg1p) (.slice am' nm cm')
      simpa [WS.push] using a3
    ma := own3.setCell _ (fun e => by
      have := tam _ e
      rw [tr p hpl, h.tp] at this
      simp at this)
    tu := row_kp h.tu hK (fun b hb => no b 5 (by omega) (by omega) (by omega) (h.tt b hb))
    len := by simp [WS.push, h.len]
    okl := by
      intro i u k hu hk
      simp only [WS.push] at hu hk
      rw [List.getElem?_append] at hu
      split at hu
      · rename_i hlt
        rw [List.getElem?_append_left (by rw [← h.len]; exact hlt)] at hk
        obtain ⟨h1, h2⟩ := h.okl i u k hu hk
        exact ⟨h1.kp hK (fun b hb => no b 9 (by omega) (by omega) (by omega) (h2 b hb)), lift u k h1 h2⟩
      · rename_i hge
        rw [List.getElem?_append_right (by rw [← h.len]; omega), ← h.len] at hk
        cases hj : i - S.lists.length with
        | zero =>
          rw [hj] at hu hk
          simp at hu hk
          subst hu hk
          exact ⟨hs.kp hK (fun b hb => no b 9 (by omega) (by omega) (by omega) (tv b hb)), lift _ _ hs tv⟩
        | succ j => rw [hj] at hu; simp at hu
    okt := by
      intro i u hu
      obtain ⟨h1, h2⟩ := h.okt i u hu
      exact ⟨h1.kp hK (fun b hb => no b 9 (by omega) (by omega) (by omega) (h2 b hb)), lift u _ h1 h2⟩
    tp := by rw [tr p hpl]; exact h.tp
    ts := fun b hb => by rw [tr b (own_lt h.sd hb)]; exact h.ts b hb
    tl := by
      intro b hb
      simp [WS.push, Value.ownBlock] at hb
      subst hb
      exact tg1
    tm := fun b hb => tam b hb
    tt := fun b hb => by rw [tr b (own_lt h.tu hb)]; exact h.tt b hb
    nl := by simpa [WS.push] using hnl
    nt := h.nt
    l0 := h.l0
    l1 := h.l1 }

/-- The lists that lie in l's block are its own beginnings. -/
def Heads (S : WS) (l : Value) (m : Int) (n : Nat) : Prop := ∀ (i : Nat) (v : Value), S.lists[i]? = some v → ∀ b, v.ownBlock = some b → l.ownBlock = some b → S.marks[i]? = some m ∧ ∃ ne ce, v = .slice (some ⟨b, 0, none⟩) ne ce ∧ ne ≤ n

/-- l is written over, or appended to, in its own block: the world holds on, if l is one number all over. -/
theorem WAt.grownL {T : Tags} {o : Nat} {w w' : World} {p : Nat} {S : WS} (h : WAt T o w p S) {l l' : Value} {m : Int} {n : Nat} {ao : Option Addr} {c : Nat} (tl : Tagged T l (o, 9)) (hk : Kp (fun b => l.ownBlock = some b) w w')
    (hl' : l' = .slice ao n c) (hown : OwI w' l' (List.replicate n m)) (hblk : ∀ b, l.ownBlock = some b → (∃ (i : Nat) (v : Value), S.lists[i]? = some v ∧ v.ownBlock = some b ∧ ∃ ne ce, v = Value.slice (some ⟨b, 0, none⟩) ne ce ∧ 0 < ne) → w'.heap[b]? = w.heap[b]? ∨ l'.ownBlock = some b)
    (hh : Heads S l m n) (hft : ∀ (i : Nat) (v : Value), S.turned[i]? = some v → ∀ b, v.ownBlock = some b → l.ownBlock ≠ some b) : WAt T o w' p S := by
  have no : ∀ (b t : Nat), t ≠ 9 → T b = (o, t) → ¬ (l.ownBlock = some b) := by
    intro b t h9 ht e
    rw [tl b e] at ht
    simp at ht
    omega
  exact {
    blk := hk.heap h.blk (no p 1 (by omega) h.tp)
    sd := row_kp h.sd hk (fun b hb => no b 2 (by omega) (h.ts b hb))
    li := row_kp h.li hk (fun b hb => no b 3 (by omega) (h.tl b hb))
    ma := h.ma.kp hk (fun b hb => no b 4 (by omega) (h.tm b hb))
    tu := row_kp h.tu hk (fun b hb => no b 5 (by omega) (h.tt b hb))
    len := h.len
    okl := by
      intro i v k hv hkk
      obtain ⟨h1, h2⟩ := h.okl i v k hv hkk
      refine ⟨?_, h2⟩
      by_cases hb : ∃ b, v.ownBlock = some b ∧ l.ownBlock = some b
      · obtain ⟨b, hb1, hb2⟩ := hb
        obtain ⟨e1, ne, ce, e2, e3⟩ := hh i v hv b hb1 hb2
        rw [hkk] at e1
        simp at e1
        subst e1
        subst e2
        obtain ⟨n0, hn0, hr, hlt⟩ := h1
        have hne : ne = n0 := by
          obtain ⟨a', c', hv', _⟩ := hr
          simp at hv'
          exact hv'.2.1
        subst hne
        refine ⟨ne, hn0, ?_, fun b' hb' => Nat.lt_of_lt_of_le (hlt b' hb') hk.size⟩
        refine ⟨some ⟨b, 0, none⟩, ce, by rw [List.length_replicate], fun hne => ⟨b, 0, rfl, fun j hj => ?_⟩⟩
        have hpos : 0 < ne := by
          rcases Nat.eq_zero_or_pos ne with e | e
          · subst e; simp at hne
          · exact e
        have hj' : j < ne := by simpa using hj
        rcases hblk b hb2 ⟨i, _, hv, hb1, ne, ce, rfl, hpos⟩ with hsame | hl
        · obtain ⟨a', c', hv', hcc⟩ := hr
          obtain ⟨g, o', ha, hc⟩ := hcc hne
          simp at hv'
          rw [← hv'.1] at ha
          simp at ha
          obtain ⟨rfl, rfl⟩ := ha
          rw [World.cell?_of_block (w := w) hsame]
          exact hc j hj
        · subst hl'
          obtain ⟨g, cap, e4, _, _, hc⟩ := hown.slice (by simp; omega)
          rw [e4] at hl
          simp [Value.ownBlock] at hl
          subst hl
          have := hc j (by simp; omega)
          rw [nth_lt (by simp; omega), List.getElem_replicate] at this
          rw [nth_lt (by simpa using hj'), List.getElem_replicate, Nat.zero_add]
          exact this
      · exact h1.kp hk (fun b hb1 hb2 => hb ⟨b, hb1, hb2⟩)
    okt := by
      intro i v hv
      obtain ⟨h1, h2⟩ := h.okt i v hv
      exact ⟨h1.kp hk (fun b hb => hft i v hv b hb), h2⟩
    tp := h.tp
    ts := h.ts
    tl := h.tl
    tm := h.tm
    tt := h.tt
    nl := h.nl
    nt := h.nt
    l0 := h.l0
    l1 := h.l1 }

end Go.Proofs.YticbbncdcannlaaGreat

/- The law's own world: keep, walked. -/
namespace Go.Proofs.YticbbncdcannlaaGreat
open Go.RowKit

def WS.lower (S : WS) : WS := { S with last := S.last - 1 }

theorem WAt.lowered {T : Tags} {o : Nat} {w : World} {p : Nat} {S : WS} (h : WAt T o w p S) (hl : -1000000000 ≤ S.last - 1) :
    WAt T o (w.setCell ⟨p, 4, none⟩ (.int .i64 (S.last - 1))) p S.lower ∧ Kp (fun b => T b = (o, 1)) w (w.setCell ⟨p, 4, none⟩ (.int .i64 (S.last - 1))) := by
  have hk : Kp (fun b => T b = (o, 1)) w (w.setCell ⟨p, 4, none⟩ (.int .i64 (S.last - 1))) := (Kp.refl _ _).setCell _ _ (fun _ => h.tp)
  have no : ∀ (b t : Nat), t ≠ 1 → T b = (o, t) → ¬ (T b = (o, 1)) := by
    intro b t h1 ht e
    rw [ht] at e
    simp at e
    omega
  refine ⟨?_, hk⟩
  exact {
    blk := by
      rw [heap_setCell_same w p 4 _ _ _ h.blk]
      rfl
    sd := row_kp h.sd hk (fun b hb => no b 2 (by omega) (h.ts b hb))
    li := row_kp h.li hk (fun b hb => no b 3 (by omega) (h.tl b hb))
    ma := h.ma.kp hk (fun b hb => no b 4 (by omega) (h.tm b hb))
    tu := row_kp h.tu hk (fun b hb => no b 5 (by omega) (h.tt b hb))
    len := h.len
    okl := fun i v m hv hm => ⟨(h.okl i v m hv hm).1.kp hk (fun b hb => no b 9 (by omega) ((h.okl i v m hv hm).2 b hb)), (h.okl i v m hv hm).2⟩
    okt := fun i v hv => ⟨(h.okt i v hv).1.kp hk (fun b hb => no b 9 (by omega) ((h.okt i v hv).2 b hb)), (h.okt i v hv).2⟩
    tp := h.tp
    ts := h.ts
    tl := h.tl
    tm := h.tm
    tt := h.tt
    nl := h.nl
    nt := h.nt
    l0 := hl
    l1 := by have := h.l1; show S.last - 1 ≤ 0; omega }

/-- No list of the world lies in that block. -/
def Apart (S : WS) (l : Value) : Prop := (∀ (i : Nat) (v : Value), S.lists[i]? = some v → ∀ b, v.ownBlock = some b → l.ownBlock ≠ some b) ∧ (∀ (i : Nat) (v : Value), S.turned[i]? = some v → ∀ b, v.ownBlock = some b → l.ownBlock ≠ some b)

theorem WAt.apart {T : Tags} {o : Nat} {w w' : World} {p : Nat} {S : WS} (h : WAt T o w p S) {l : Value} (tl : Tagged T l (o, 9)) (hk : Kp (fun b => l.ownBlock = some b) w w') (ha : Apart S l) : WAt T o w' p S :=
  h.grownL (l' := .slice none 0 0) (m := 0) (n := 0) (ao := none) (c := 0) tl hk rfl (OwI.nil _) (fun b hb ⟨i, v, h1, h2, _⟩ => absurd hb (ha.1 i v h1 b h2)) (fun i v hv b hb hl => absurd hl (ha.1 i v hv b hb)) ha.2

theorem WAt.lt {T : Tags} {o : Nat} {w : World} {p : Nat} {S : WS} (h : WAt T o w p S) {i : Nat} {v : Value} (hv : S.lists[i]? = some v) {b : Nat} (hb : v.ownBlock = some b) : b < w.heap.size := by
  have hi : i < S.lists.length := by
    rcases Nat.lt_or_ge i S.lists.length with h' | h'
    · exact h'
    · rw [List.getElem?_eq_none h'] at hv; cases hv
  obtain ⟨⟨_, _, _, hlt⟩, _⟩ := h.okl i v (nth S.marks i) hv (by rw [List.getElem?_eq_getElem (by rw [← h.len]; exact hi), nth_lt (by rw [← h.len]; exact hi)])
  exact hlt b hb
theorem WAt.ltt {T : Tags} {o : Nat} {w : World} {p : Nat} {S : WS} (h : WAt T o w p S) {i : Nat} {v : Value} (hv : S.turned[i]? = some v) {b : Nat} (hb : v.ownBlock = some b) : b < w.heap.size := by
  obtain ⟨⟨_, _, _, hlt⟩, _⟩ := h.okt i v hv
  exact hlt b hb

/-- A list in a new block. -/
theorem WAt.newApart {T : Tags} {o : Nat} {w : World} {p : Nat} {S : WS} (h : WAt T o w p S) {l : Value} (hl : ∀ b, l.ownBlock = some b → w.heap.size ≤ b) : Apart S l :=
  ⟨fun i v hv b hb e => by have := h.lt hv hb; have := hl b e; omega, fun i v hv b hb e => by have := h.ltt hv hb; have := hl b e; omega⟩

theorem OwI.store {w : World} {ao : Option Addr} {n c : Nat} {xs : List Int} (h : OwI w (.slice ao n c) xs) (k : Nat) (m : Int) (hk : k < xs.length) :
    ∃ g, ao = some ⟨g, 0, none⟩ ∧ OwI (w.setCell ⟨g, k, none⟩ (.int .i64 m)) (.slice ao n c) (xs.set k m) ∧ w.cell? ⟨g, k, none⟩ = some (.int .i64 (nth xs k)) ∧ w.frozen? ⟨g, k, none⟩ = false := by
  obtain ⟨g, cap, hv, hcap, hg, hc⟩ := h.slice (by omega)
  simp at hv
  obtain ⟨rfl, rfl, rfl⟩ := hv
  refine ⟨g, rfl, ?_, hc k hk, World.ownsRow.frozenAt h k⟩
  have := (World.ownsRow.stored h k (.int .i64 m)).1
  unfold OwI
  rw [List.length_set]
  have e : (ints xs).set k (.int .i64 m) = ints (xs.set k m) := by simp [ints, List.map_set]
  rw [← e]
  exact this

theorem RdI.one' (w : World) (x : Int) (h : Nat) (e : w.heap.size = h) : RdI (w.alloc (.cells #[.int .i64 x] 3)) (.slice (some ⟨h, 0, none⟩) 1 1) [x] := by
  subst e
  exact RdI.one w x

/-- Behind k rounds of keep. -/
def KeepR (T : Tags) (o : Nat) (w : World) (p : Nat) (S : WS) (n : Nat) (m : Int) (k : Nat) (ao : Option Addr) (c : Nat) (w' : World) : Prop :=
  ∃ T' S', OwI w' (.slice ao (n + k) c) (List.replicate (n + k) m) ∧ WAt T' o w' p S' ∧ TagsTo w T T' ∧ Tagged T' (.slice ao (n + k) c) (o, 9) ∧ Heads S' (.slice ao (n + k) c) m (n + k) ∧
    (∀ (i : Nat) (v : Value), S'.turned[i]? = some v → ∀ b, v.ownBlock = some b → (Value.slice ao (n + k) c).ownBlock ≠ some b) ∧ S'.sides = S.sides ∧ S'.turned = S.turned ∧ S'.lists.length = S.lists.length + k ∧ S'.last = S.last - 1 ∧ Kp (fun b => (T b).1 = o) w w'

theorem Same.tags {w : World} {v : Value} {m : Int} {T T' : Tags} {t : Nat × Nat} (hs : Same w v m) (hv : Tagged T v t) (k : TagsTo w T T') : Tagged T' v t := fun b e => by
  obtain ⟨_, _, _, hb⟩ := hs
  rw [k b (hb b e)]; exact hv b e

theorem WAt.tags {T T' : Tags} {o : Nat} {w : World} {p : Nat} {S : WS} (h : WAt T o w p S) (k : TagsTo w T T') : WAt T' o w p S :=
  { blk := h.blk, sd := h.sd, li := h.li, ma := h.ma, tu := h.tu, len := h.len
    okl := fun i v m hv hm => ⟨(h.okl i v m hv hm).1, (h.okl i v m hv hm).1.tags (h.okl i v m hv hm).2 k⟩
    okt := fun i v hv => ⟨(h.okt i v hv).1, (h.okt i v hv).1.tags (h.okt i v hv).2 k⟩
    tp := (k p (lt_of_heap h.blk)).trans h.tp
    ts := fun b hb => (k b (own_lt h.sd hb)).trans (h.ts b hb)
    tl := fun b hb => (k b (own_lt h.li hb)).trans (h.tl b hb)
    tm := fun b hb => (k b (own_lt h.ma hb)).trans (h.tm b hb)
    tt := fun b hb => (k b (own_lt h.tu hb)).trans (h.tt b hb)
    nl := h.nl, nt := h.nt, l0 := h.l0, l1 := h.l1 }

theorem keep_step {T T2 : Tags} {o : Nat} {w wr w1 w3 w5 : World} {p : Nat} {S S2 : WS} {n : Nat} {m : Int} {k : Nat} {ao ao5 am' : Option Addr} {c c5 g1 cap1 nm cm' : Nat} {x1 x2 x3 : Obj}
    (hn : n + k ≤ 1000000000)
    (hO2 : OwI wr (.slice ao (n + k) c) (List.replicate (n + k) m)) (hW2 : WAt T2 o wr p S2) (hT2 : TagsTo w T T2) (hTl : Tagged T2 (.slice ao (n + k) c) (o, 9)) (hHd : Heads S2 (.slice ao (n + k) c) m (n + k))
    (hTu : ∀ (i : Nat) (v : Value), S2.turned[i]? = some v → ∀ b, v.ownBlock = some b → (Value.slice ao (n + k) c).ownBlock ≠ some b) (hS1 : S2.sides = S.sides) (hS2 : S2.turned = S.turned) (hS3 : S2.lists.length = S.lists.length + k) (hS4 : S2.last = S.last - 1) (hK2 : Kp (fun b => (T b).1 = o) w wr)
    (own1 : w1.ownsRow 0 26 1 (.slice (some ⟨g1, 0, none⟩) (S2.lists.length + 1) cap1) (S2.lists.length + 1) (S2.lists ++ [.slice ao (n + k) c])) (grow1 : (wr.alloc x1).grownBy w1 S2.vl.ownBlock) (at1 : S2.vl.ownBlock = some g1 ∨ g1 = wr.heap.size + 1)
    (own3 : OwI w3 (.slice am' nm cm') (S2.marks ++ [m])) (grow3 : ((w1.setCell ⟨p, 1, none⟩ (.slice (some ⟨g1, 0, none⟩) (S2.lists.length + 1) cap1)).alloc x2).grownBy w3 S2.vm.ownBlock) (at3 : ∀ b, (Value.slice am' nm cm').ownBlock = some b → S2.vm.ownBlock = some b ∨ b = w1.heap.size + 1)
    (hnl : S2.lists.length + 1 ≤ 1000000000)
    (own5 : OwI w5 (.slice ao5 (n + k + 1) c5) (List.replicate (n + k) m ++ [m]))
    (or5 : (ao5 = ao ∧ ((w3.setCell ⟨p, 2, none⟩ (.slice am' nm cm')).alloc x3).grownBy w5 (Value.slice ao (n + k) c).ownBlock) ∨ (ao5 = some ⟨w3.heap.size + 1, 0, none⟩ ∧ ((w3.setCell ⟨p, 2, none⟩ (.slice am' nm cm')).alloc x3).grownBy w5 none)) :
    KeepR T o w p S n m (k + 1) ao5 c5 w5 := by
  have hsame : Same wr (.slice ao (n + k) c) m := ⟨n + k, hn, hO2.rd, fun b hb => hO2.lt hb⟩
  obtain ⟨hp, hpt, hpk⟩ := hW2.pushed hsame hTl own1 grow1 at1 own3 grow3 at3 hnl
  have hlb : ∀ b, (Value.slice ao (n + k) c).ownBlock = some b → b < wr.heap.size := fun b hb => hO2.lt hb
  generalize hw4 : w3.setCell ⟨p, 2, none⟩ (.slice am' nm cm') = w4 at *
  have hs4 : w4.heap.size = w3.heap.size := by rw [← hw4]; simp
  have own5' : OwI w5 (.slice ao5 (n + k + 1) c5) (List.replicate (n + k + 1) m) := by rw [List.replicate_succ']; exact own5
  have hW4 := hp.tags (retag_to w4 (keepTags wr T2 o g1) (o, 9))
  have t4 : ∀ b, b < wr.heap.size → retag w4 (keepTags wr T2 o g1) (o, 9) b = T2 b := fun b hb => by
    rw [retag_to w4 _ _ b (Nat.lt_of_lt_of_le hb hpk.size), hpt b hb]
  have tl4 : Tagged (retag w4 (keepTags wr T2 o g1) (o, 9)) (.slice ao (n + k) c) (o, 9) := fun b hb => by rw [t4 b (hlb b hb)]; exact hTl b hb
  have hHd4 : Heads (S2.push (.slice (some ⟨g1, 0, none⟩) (S2.lists.length + 1) cap1) (.slice am' nm cm') (.slice ao (n + k) c) m) (.slice ao (n + k) c) m (n + (k + 1)) := by
    intro i v hv b hb hl
    simp only [WS.push] at hv ⊢
    rw [List.getElem?_append] at hv
    split at hv
    · rename_i hlt
      obtain ⟨e1, ne, ce, e2, e3⟩ := hHd i v hv b hb hl
      refine ⟨?_, ne, ce, e2, by omega⟩
      rw [List.getElem?_append_left (by rw [← hW2.len]; exact hlt)]
      exact e1
    · rename_i hge
      cases hj : i - S2.lists.length with
      | zero =>
        rw [hj] at hv
        simp at hv
        subst hv
        refine ⟨?_, n + k, c, ?_, by omega⟩
        · rw [List.getElem?_append_right (by rw [← hW2.len]; omega), ← hW2.len, hj]
          rfl
        · rcases hO2.2 with ⟨e, _⟩ | ⟨g, cap, cur, e, _⟩
          · rw [e] at hb; simp [Value.ownBlock] at hb
          · simp at e
            rw [e.1] at hb ⊢
            simp [Value.ownBlock] at hb
            rw [hb]
      | succ j => rw [hj] at hv; simp at hv
  have s24 : wr.heap.size ≤ w4.heap.size := hpk.size
  rcases or5 with ⟨e5, g5⟩ | ⟨e5, g5⟩
  · subst e5
    have hk5 : Kp (fun b => (Value.slice ao5 (n + k) c).ownBlock = some b) w4 w5 := ((Kp.refl _ _).alloc x3).grown g5 (fun b hb _ => hb)
    have hbl : ∀ b, (Value.slice ao5 (n + (k + 1)) c5).ownBlock = some b ↔ (Value.slice ao5 (n + k) c).ownBlock = some b := fun b => by cases ao5 <;> simp [Value.ownBlock]
    have hW5 := hW4.grownL (l' := .slice ao5 (n + k + 1) c5) (m := m) (n := n + k + 1) tl4 hk5 rfl own5' (fun b hb _ => .inr ((hbl b).2 hb)) hHd4 hTu
    refine ⟨_, _, own5', hW5, fun b hb => ?_, fun b hb => tl4 b ((hbl b).1 hb), fun i v hv b hb hl => hHd4 i v hv b hb ((hbl b).1 hl), fun i v hv b hb hl => hTu i v hv b hb ((hbl b).1 hl), hS1, hS2, ?_, hS4, ?_⟩
    · rw [t4 b (Nat.lt_of_lt_of_le hb hK2.size), hT2 b hb]
    · simp [WS.push, hS3]; omega
    · have k1 : Kp (fun b => (T b).1 = o) w w4 := hK2.trans hpk (fun i hi h => by
        rw [hT2 i hi] at h
        rcases h with h | h | h <;> rw [h])
      exact k1.trans hk5 (fun i hi h => by
        have := hTl i h
        rw [hT2 i hi] at this
        rw [this])
  · subst e5
    have hk5 : Kp0 w4 w5 := ((Kp.refl _ _).alloc x3).grown g5 (by simp)
    have hW5 := hW4.kp hk5 (fun _ _ e => e)
    have hbl : ∀ b, (Value.slice (some ⟨w3.heap.size + 1, 0, none⟩) (n + (k + 1)) c5).ownBlock = some b → b = w3.heap.size + 1 := fun b hb => by simp [Value.ownBlock] at hb; exact hb.symm
    refine ⟨_, _, own5', hW5, fun b hb => ?_, fun b hb => retag_new (by have := hbl b hb; omega), fun i v hv b hb hl => ?_, fun i v hv b hb hl => ?_, hS1, hS2, ?_, hS4, ?_⟩
    · rw [t4 b (Nat.lt_of_lt_of_le hb hK2.size), hT2 b hb]
    · have := hbl b hl
      have := hW4.lt hv hb
      omega
    · have := hbl b hl
      have := hW4.ltt hv hb
      omega
    · simp [WS.push, hS3]; omega
    · have k1 : Kp (fun b => (T b).1 = o) w w4 := hK2.trans hpk (fun i hi h => by
        rw [hT2 i hi] at h
        rcases h with h | h | h <;> rw [h])
      exact k1.trans0 hk5

set_option maxRecDepth 100000 in
set_option maxHeartbeats 4000000 in
theorem keep_calls {T : Tags} {o : Nat} {w : World} {p : Nat} {S : WS} (h : WAt T o w p S) (ao : Option Addr) (n c : Nat) (xs : List Int) (hl : OwI w (.slice ao n c) xs) (tl : Tagged T (.slice ao n c) (o, 9)) (ha : Apart S (.slice ao n c)) (hn : n ≤ 100000000) (hnl : S.lists.length + 4 ≤ 1000000000) (hla : -1000000000 ≤ S.last - 1) :
    Calls Tryz.prog 119 #[.pointer (some ⟨p, 0, none⟩), .slice ao n c] w fun e w' => e = .returned (.tuple #[]) ∧
      ∃ T' S', TagsTo w T T' ∧ WAt T' o w' p S' ∧ S'.sides = S.sides ∧ S'.turned = S.turned ∧ S'.lists.length = S.lists.length + 4 ∧ S'.last = S.last - 1 ∧ Kp (fun b => (T b).1 = o) w w' := by
  obtain ⟨-, -, -, -, q4⟩ := h.cells
  have f4 : w.frozen? ⟨p, 4, none⟩ = false := frozen_blk h.blk
  have hl1 := h.l1
  obtain ⟨hnx, hnc⟩ := hl.form
  have HLOW := hid (h.lowered hla)
  have hlp : ∀ b, (Value.slice ao n c).ownBlock = some b → ¬ p = b := fun b hb e => by
    have := tl b hb
    rw [← e, h.tp] at this
    simp at this
  have HOw := hid hl
  have HT := hid tl
  have HA := hid ha
  have HH := hid h
  have HNX := hid hnx
  have HLP := hid hlp
  clear h hl tl ha hnx hlp
  obtain ⟨m, hm⟩ : ∃ m, S.last - 1 - 1000 = m := ⟨_, rfl⟩
  obtain ⟨la, hla'⟩ : ∃ la, S.last = la := ⟨_, rfl⟩
  rw [hla'] at q4 hl1 hla hm
  have HLA := hid hla'
  have HM := hid hm
  clear hla'
  go_enter Tryz.func119, Tryz.ntmps119
  go_wp2
  go_loopw [5] (fun t w' => ∃ k : Nat, k ≤ n ∧ t = .int .i64 k ∧ WAt T o w' p S.lower ∧ OwI w' (.slice ao n c) (over m k xs) ∧ Kp (fun b => (T b).1 = o) w w') (fun t _ => n - (intOf t).toNat)
  case atStart =>
    have h1 := HLOW.out
    rw [HLA.out] at h1
    refine ⟨0, Nat.zero_le _, rfl, h1.1, ?_, h1.2.mono (fun i _ e => by rw [e])⟩
    have : over m 0 xs = xs := by simp [over]
    rw [this]
    exact HOw.out.setCell _ (fun e => HLP.out _ e rfl)
  case round =>
    obtain ⟨k, hk, rfl, hW, hO, hK⟩ := hrel
    have HW := hid hW
    have HO := hid hO
    have HK := hid hK
    by_cases hlt : k < n
    · obtain ⟨g, rfl, hst, hcell, hfz⟩ := hO.store k m (by rw [over_length _ _ _ (by have := HNX.out; omega)]; have := HNX.out; omega)
      rw [over_set _ _ _ (by have := HNX.out; omega)] at hst
      generalize nth (over m k xs) k = x at hcell
      have HST := hid hst
      clear hW hO hK hst
      go_wp2
      go_roundw
      case rel =>
        have hk1 : Kp (fun b => (Value.slice (some ⟨g, 0, none⟩) n c).ownBlock = some b) wr (wr.setCell ⟨g, k, none⟩ (.int .i64 m)) := (Kp.refl _ _).setCell _ _ (fun _ => rfl)
        refine ⟨k + 1, by omega, by go_num, HW.out.apart HT.out hk1 HA.out, HST.out, HK.out.trans hk1 (fun i _ e => by rw [HT.out i e])⟩
      case measure => simp [intOf]; omega
    · have hO' : OwI wr (.slice ao n c) (List.replicate n m) := by
        have e : k = xs.length := by have := HNX.out; omega
        rw [e, over_all] at hO
        have := HNX.out
        rw [this]
        rw [this] at hO
        exact hO
      have HO' := hid hO'
      clear hW hO hK hO'
      obtain ⟨isl, his, hsz0, hsz1, hsz2⟩ := info_parts Tryz.infoSl
      go_wp2
      go_loopw [1, 6] (fun l t w' => ∃ k : Nat, k ≤ 4 ∧ t = .int .i64 k ∧ ∃ ao' c', l = .slice ao' (n + k) c' ∧ KeepR T o w p S n m k ao' c' w') (fun _ t _ => 4 - (intOf t).toNat)
      case atStart =>
        refine ⟨0, by omega, rfl, ao, c, rfl, T, S.lower, HO'.out, HW.out, fun _ _ => rfl, HT.out, fun i v hv b hb e => absurd e (HA.out.1 i v hv b hb), HA.out.2, rfl, rfl, rfl, rfl, HK.out⟩
      case round =>
        obtain ⟨k2, hk2, rfl, ao', c', rfl, T2, S2, hO2, hW2, hT2, hTl, hHd, hTu, hS1, hS2, hS3, hS4, hK2⟩ := hrel
        by_cases hlt2 : k2 < 4
        · obtain ⟨-, q1, q2, -, -⟩ := hW2.cells
          obtain ⟨am, cm, hvm, -⟩ := row_any hW2.ma
          have hvm' : S2.vm = .slice am S2.marks.length cm := hvm
          rw [hvm'] at q2
          have fp1 : wr.frozen? ⟨p, 1, none⟩ = false := frozen_blk hW2.blk
          have fp2 : wr.frozen? ⟨p, 2, none⟩ = false := frozen_blk hW2.blk
          have hpl : p < wr.heap.size := lt_of_heap hW2.blk
          have HPL : Hid (some p ≠ S2.vl.ownBlock) := hid (fun e => by have := hW2.tl p e.symm; rw [hW2.tp] at this; simp at this)
          have HPM : Hid (some p ≠ S2.vm.ownBlock) := hid (fun e => by have := hW2.tm p e.symm; rw [hW2.tp] at this; simp at this)
          have HLI := hid hW2.li
          have hnl2 : S2.lists.length + 1 ≤ 1000000000 := by omega
          have h63 : Hid (S2.lists.length + 1 ≤ maxLen) := hid (by unfold maxLen; omega)
          have hbytes : Hid ((S2.lists.length + 1) * 24 ≤ 140737488355328) := hid (by omega)
          have h1c : Hid (∀ u ∈ [Value.slice ao' (n + k2) c'], u.oneCell' = true) := hid (by intro u hu; simp at hu; subst hu; rfl)
          have HR : Hid (KeepR T o w p S n m k2 ao' c' wr) := hid ⟨T2, S2, hO2, hW2, hT2, hTl, hHd, hTu, hS1, hS2, hS3, hS4, hK2⟩
          have HO2 := hid hO2
          have HW2 := hid hW2
          have HTl := hid hTl
          have HHd := hid hHd
          have HTu := hid hTu
          have HT2 := hid hT2
          have HS := hid (And.intro hS1 (And.intro hS2 (And.intro hS3 hS4)))
          have HK2 := hid hK2
          have HVM := hid hvm'
          clear hO2 hW2 hT2 hTl hHd hTu hS1 hS2 hS3 hS4 hK2 hvm hvm'
          go_wp2_with (at_builtin; refine wpList_append_lies _ rfl _ _ _ rfl 0 26 isl (.slice none 0 0) 1 24 Tryz.underlying25 his hsz0 hsz1 hsz2 rfl (by omega) S2.vl S2.lists.length _ rfl (HLI.out.alloc _) ⟨wr.heap.size, 0, none⟩ 1 1 [.slice ao' (n + k2) c'] rfl rfl (cell_one_new _ _ _) h1c.out (by omega) h63.out hbytes.out (Nat.zero_le _) (wr.heap.size + 1) (by simp) ?_)
          intro g1 cap1 w1 own1 grow1 at1 glt1
          have hp1 : w1.heap[p]? = wr.heap[p]? := (grow1.block p (by simp; omega) HPL.out).trans (Below.heap_alloc wr _ p hpl)
          have c1 : w1.cell? ⟨p, 1, none⟩ = some S2.vl := (lists_get hp1 1).trans q1
          have c2 : w1.cell? ⟨p, 2, none⟩ = some (.slice am S2.marks.length cm) := (lists_get hp1 2).trans q2
          have e1 : w1.frozen? ⟨p, 1, none⟩ = false := (World.frozen?_of_block hp1).trans fp1
          have e2 : w1.frozen? ⟨p, 2, none⟩ = false := (World.frozen?_of_block hp1).trans fp2
          have hpl1 : p < w1.heap.size := by have := grow1.size; simp at this; omega
          have HMA : Hid (∀ x y, OwI ((w1.setCell ⟨p, 1, none⟩ x).alloc y) (.slice am S2.marks.length cm) S2.marks) := hid (fun x y => by
            have h1 : OwI w1 S2.vm S2.marks := (HW2.out.ma.alloc _).grown grow1 (fun b hb e => by
              have t1 := HW2.out.tm b hb
              have t2 := HW2.out.tl b e.symm
              rw [t1] at t2
              simp at t2)
            have h2 := (h1.setCell (a := ⟨p, 1, none⟩) x (fun e => HPM.out e.symm)).alloc y
            rw [HVM.out] at h2
            exact h2)
          have HBM : Hid (S2.marks.length + [m].length ≤ 1000000000000) := hid (by have := HW2.out.len; simp; omega)
          have HOWN1 := hid own1
          have HGROW1 := hid grow1
          have HAT1 := hid at1
          clear own1 grow1 at1 q1 q2 fp1 fp2 hp1
          go_wp2_with (at_builtin; refine wpList_app rfl _ _ rfl am S2.marks.length cm S2.marks [m] _ rfl rfl (HMA.out _ _) (RdI.one' _ _ _ (by simp)) HBM.out (w1.heap.size + 1) (by simp) ?_)
          intro am' cm' w3 own3 grow3 at3
          have hp2 := heap_setCell_other (w1) ⟨p, 1, none⟩ p (.slice (some ⟨g1, 0, none⟩) (S2.lists.length + 1) cap1)
          have c3 : w3.cell? ⟨p, 2, none⟩ = some (.slice am S2.marks.length cm) := by
            refine grow3.cell ?_ (by rw [← HVM.out]; exact HPM.out)
            rw [World.cell?_alloc_lt _ _ _ (by simp; exact hpl1), World.cell?_setCell_other _ _ _ _ (by simp)]
            exact c2
          have e3 : w3.frozen? ⟨p, 2, none⟩ = false := by
            rw [grow3.frozen_far _ (by simp; omega) (by rw [← HVM.out]; exact HPM.out), World.frozen?_alloc_past _ _ _ (by simp; exact hpl1), World.frozen?_setCell]
            exact e2
          have HOWN3 := hid own3
          have HGROW3 : Hid (((w1.setCell ⟨p, 1, none⟩ (.slice (some ⟨g1, 0, none⟩) (S2.lists.length + 1) cap1)).alloc (.cells #[.int .i64 m] 3)).grownBy w3 S2.vm.ownBlock) := hid (by rw [HVM.out]; exact grow3)
          have HAT3 : Hid (∀ b, (Value.slice am' (S2.marks.length + 1) cm').ownBlock = some b → S2.vm.ownBlock = some b ∨ b = w1.heap.size + 1) := hid (by rw [HVM.out]; exact at3)
          have HLO : Hid (∀ y, OwI ((w3.setCell ⟨p, 2, none⟩ (.slice am' (S2.marks.length + 1) cm')).alloc y) (.slice ao' (n + k2) c') (List.replicate (n + k2) m)) := hid (fun y => by
            have hsame : Same wr (.slice ao' (n + k2) c') m := ⟨n + k2, by omega, HO2.out.rd, fun b hb => HO2.out.lt hb⟩
            obtain ⟨-, -, hpk⟩ := HW2.out.pushed hsame HTl.out HOWN1.out HGROW1.out HAT1.out HOWN3.out HGROW3.out HAT3.out hnl2
            exact (HO2.out.kp hpk (fun b hb e => by
              have := HTl.out b hb
              rw [this] at e
              simp at e)).alloc y)
          have HBL : Hid (n + k2 + [m].length ≤ 1000000000000) := hid (by simp; omega)
          clear own3 grow3 at3 hp2 c1 c2 e1 e2
          go_wp2_with (at_builtin; refine wpList_app_or rfl _ _ rfl ao' (n + k2) c' (List.replicate (n + k2) m) [m] _ rfl rfl (HLO.out _) (RdI.one' _ _ _ (by simp)) (by simp) HBL.out (w3.heap.size + 1) (by simp) ?_)
          intro ao5 c5 w5 own5 or5
          have HOWN5 := hid own5
          have HOR5 := hid or5
          clear own5 or5
          go_wp2
          go_roundw
          case rel =>
            obtain ⟨hS1, hS2, hS3, hS4⟩ := HS.out
            exact ⟨k2 + 1, by omega, by go_num, ao5, c5, rfl, keep_step (by omega) HO2.out HW2.out HT2.out HTl.out HHd.out HTu.out hS1 hS2 hS3 hS4 HK2.out HOWN1.out HGROW1.out HAT1.out HOWN3.out HGROW3.out HAT3.out hnl2 HOWN5.out HOR5.out⟩
          case measure => simp [intOf]; omega
        · have HR : Hid (KeepR T o w p S n m k2 ao' c' wr) := hid ⟨T2, S2, hO2, hW2, hT2, hTl, hHd, hTu, hS1, hS2, hS3, hS4, hK2⟩
          have HK4 : Hid (k2 = 4) := hid (by omega)
          clear hO2 hW2 hT2 hTl hHd hTu hS1 hS2 hS3 hS4 hK2
          go_wp2
          go_end0
          obtain ⟨T', S', _, h2, h3, _, _, _, h7, h8, h9, h10, h11⟩ := HR.out
          rw [HK4.out] at h9
          exact ⟨rfl, T', S', h3, h2, h7, h8, h9, h10, h11⟩

end Go.Proofs.YticbbncdcannlaaGreat

/- What the law asks of a program's space: its contracts, as one notion; the state of the law's world with its spaces. -/
namespace Go.Proofs.YticbbncdcannlaaGreat
open Go.RowKit

/-- The space of owner o is σ' behind the call; all that is not his is as it was. -/
def Step (R : Tags → Nat → World → Nat → Sp → Prop) (T : Tags) (o : Nat) (w : World) (p : Nat) (σ' : Sp) (w' : World) : Prop :=
  ∃ T', TagsTo w T T' ∧ R T' o w' p σ' ∧ Kp (fun b => (T b).1 = o) w w'

/-- Likewise; and a list came out, in new memory, which bears the tag t. -/
def StepL (R : Tags → Nat → World → Nat → Sp → Prop) (T : Tags) (o : Nat) (w : World) (p : Nat) (σ' : Sp) (w' : World) (t : Nat × Nat) (v : Value) (xs : List Int) : Prop :=
  ∃ T', TagsTo w T T' ∧ R T' o w' p σ' ∧ Kp (fun b => (T b).1 = o) w w' ∧ ∃ ao c, v = .slice ao xs.length c ∧ OwI w' (.slice ao xs.length c) xs ∧ Tagged T' (.slice ao xs.length c) t ∧ ∀ b, (Value.slice ao xs.length c).ownBlock = some b → w.heap.size ≤ b

theorem YStep.step {T : Tags} {o : Nat} {w w' : World} {p : Nat} {σ : Sp} (h : YStep T o w p σ w') : Step YRep T o w p σ w' := by
  obtain ⟨T', h1, h2, h3⟩ := h
  exact ⟨T', h1, h2, h3.mono (fun i _ e => e.1)⟩

theorem YRep.kp {T : Tags} {o : Nat} {Z : Nat → Prop} {w w' : World} {p : Nat} {σ : Sp} (h : YRep T o w p σ) (k : Kp Z w w') (hs : ∀ b, (T b).1 = o → ¬ Z b) : YRep T o w' p σ := by
  obtain ⟨h1, L, h2⟩ := h
  exact ⟨h1, L, h2.kp k hs⟩
theorem YRep.tags {T T' : Tags} {o : Nat} {w : World} {p : Nat} {σ : Sp} (h : YRep T o w p σ) (k : TagsTo w T T') : YRep T' o w p σ := by
  obtain ⟨h1, L, h2⟩ := h
  exact ⟨h1, L, h2.tags k⟩

/-- What a program's space must keep to. -/
structure XC (R : Tags → Nat → World → Nat → Sp → Prop) : Prop where
  kp : ∀ {T : Tags} {o : Nat} {Z : Nat → Prop} {w w' : World} {p : Nat} {σ : Sp}, R T o w p σ → Kp Z w w' → (∀ b, (T b).1 = o → ¬ Z b) → R T o w' p σ
  tags : ∀ {T T' : Tags} {o : Nat} {w : World} {p : Nat} {σ : Sp}, R T o w p σ → TagsTo w T T' → R T' o w p σ
  newNo : ∀ (b i : Int) (w : World), mayNew b i = false → Calls Tryz.prog 35 #[.int .i64 b, .int .i64 i] w fun e w' => e = .returned (.tuple #[.pointer none, .int .i64 1]) ∧ Kp0 w w'
  newYes : ∀ (b i : Nat) (w : World) (T : Tags) (o : Nat), b ≤ 10000 → i ≤ 10000 → Calls Tryz.prog 35 #[.int .i64 (b : Int), .int .i64 (i : Int)] w fun e w' => ∃ p, e = .returned (.tuple #[.pointer (some ⟨p, 0, none⟩), .int .i64 0]) ∧ ∃ T', TagsTo w T T' ∧ R T' o w' p (Sp.new b i) ∧ Kp0 w w'
  make : ∀ {T : Tags} {o : Nat} {w : World} {p : Nat} {σ : Sp} (kind : Int) (vs : Value) (s : List Int), R T o w p σ → RdI w vs s → (∀ b, vs.ownBlock = some b → (T b).1 ≠ o) → s.length ≤ 1000000000 → σ.arrs.length + 1 ≤ 100000000 → σ.bufs.length + 1 ≤ 100000000 →
    Calls Tryz.prog 28 #[.pointer (some ⟨p, 0, none⟩), .int .i64 kind, vs] w fun e w' => e = .returned (.tuple #[.int .i64 (σ.make kind s).2.1, .int .i64 (σ.make kind s).2.2]) ∧ Step R T o w p (σ.make kind s).1 w'
  free : ∀ {T : Tags} {o : Nat} {w : World} {p : Nat} {σ : Sp} (h : Int), R T o w p σ → Calls Tryz.prog 25 #[.pointer (some ⟨p, 0, none⟩), .int .i64 h] w fun e w' => e = .returned (.int .i64 (σ.free h).2) ∧ Step R T o w p (σ.free h).1 w'
  set : ∀ {T : Tags} {o : Nat} {w : World} {p : Nat} {σ : Sp} (h v : Int) (vi : Value) (i : List Int), R T o w p σ → RdI w vi i → (∀ b, vi.ownBlock = some b → (T b).1 ≠ o) → i.length ≤ 1000000000 → IntKind.i64.wrap v = v →
    Calls Tryz.prog 36 #[.pointer (some ⟨p, 0, none⟩), .int .i64 h, .int .i64 v, vi] w fun e w' => e = .returned (.int .i64 (σ.set h v i).2) ∧ Step R T o w p (σ.set h v i).1 w'
  get : ∀ {T : Tags} {o : Nat} {w : World} {p : Nat} {σ : Sp} (h : Int) (vi : Value) (i : List Int), R T o w p σ → RdI w vi i → (∀ b, vi.ownBlock = some b → (T b).1 ≠ o) → i.length ≤ 1000000000 →
    Calls Tryz.prog 37 #[.pointer (some ⟨p, 0, none⟩), .int .i64 h, vi] w fun e w' => e = .returned (.tuple #[.int .i64 (σ.get h i).1, .int .i64 (σ.get h i).2]) ∧ Step R T o w p σ w'
  fill : ∀ {T : Tags} {o : Nat} {w : World} {p : Nat} {σ : Sp} (h v : Int), R T o w p σ → IntKind.i64.wrap v = v →
    Calls Tryz.prog 64 #[.pointer (some ⟨p, 0, none⟩), .int .i64 h, .int .i64 v] w fun e w' => e = .returned (.int .i64 (σ.fill h v).2) ∧ Step R T o w p (σ.fill h v).1 w'
  values : ∀ {T : Tags} {o : Nat} {w : World} {p : Nat} {σ : Sp} (h : Int) (t : Nat × Nat), R T o w p σ → t.1 ≠ o →
    Calls Tryz.prog 26 #[.pointer (some ⟨p, 0, none⟩), .int .i64 h] w fun e w' => ∃ v, e = .returned (.tuple #[v, .int .i64 (σ.values h).2]) ∧ StepL R T o w p σ w' t v (σ.values h).1
  look : ∀ {T : Tags} {o : Nat} {w : World} {p : Nat} {σ : Sp} (h : Int) (t : Nat × Nat), R T o w p σ → t.1 ≠ o →
    Calls Tryz.prog 49 #[.pointer (some ⟨p, 0, none⟩), .int .i64 h] w fun e w' => ∃ v, e = .returned (.tuple #[.agg #[.int .i64 (σ.look h).1, v, .bool (σ.look h).2.2.1], .int .i64 (σ.look h).2.2.2]) ∧ StepL R T o w p σ w' t v (σ.look h).2.1
  store : ∀ {T : Tags} {o : Nat} {w : World} {p : Nat} {σ : Sp} (kind : Int), R T o w p σ →
    Calls Tryz.prog 27 #[.pointer (some ⟨p, 0, none⟩), .int .i64 kind] w fun e w' => e = .returned (.tuple #[.agg #[.int .i64 (σ.store kind).1, .int .i64 (σ.store kind).2.1, .int .i64 (σ.store kind).2.2.1], .int .i64 (σ.store kind).2.2.2]) ∧ Step R T o w p σ w'

/-- A side: its block, the two spaces' blocks, what they are. -/
structure SD where
  sb : Nat
  px : Nat
  py : Nat
  σx : Sp
  σy : Sp

/-- One side of the law's world. -/
structure Side (R : Tags → Nat → World → Nat → Sp → Prop) (T : Tags) (w : World) (i : Nat) (d : SD) : Prop where
  blk : w.heap[d.sb]? = some (.cells #[.pointer (some ⟨d.px, 0, none⟩), .pointer (some ⟨d.py, 0, none⟩)] 85 (0, 0))
  tag : T d.sb = (6, 0)
  x : R T (10 + 2 * i) w d.px d.σx
  y : YRep T (11 + 2 * i) w d.py d.σy

/-- The law's world with its sides: the world's owner is 5, the sides' blocks' 6, the i-th side's spaces' 10 + 2 i and 11 + 2 i. -/
structure Inv (R : Tags → Nat → World → Nat → Sp → Prop) (T : Tags) (w : World) (p : Nat) (S : WS) (L : List SD) : Prop where
  wat : WAt T 5 w p S
  sides : S.sides = L.map SD.sb
  side : ∀ (i : Nat) (d : SD), L[i]? = some d → Side R T w i d

theorem Side.kp {R : Tags → Nat → World → Nat → Sp → Prop} (X : XC R) {T T' : Tags} {Z : Nat → Prop} {w w' : World} {i : Nat} {d : SD} (h : Side R T w i d) (ht : TagsTo w T T') (k : Kp Z w w') (hs : ∀ b, b < w.heap.size → (T b).1 = 6 ∨ (T b).1 = 10 + 2 * i ∨ (T b).1 = 11 + 2 * i → ¬ Z b) : Side R T' w' i d := by
  have k' : Kp (fun b => b < w.heap.size ∧ Z b) w w' := k.mono (fun b hb e => ⟨hb, e⟩)
  have hb := lt_of_heap h.blk
  refine ⟨k'.heap h.blk (fun e => hs _ hb (.inl (by rw [h.tag])) e.2), (ht _ hb).trans h.tag, X.kp (X.tags h.x ht) k' (fun b e z => hs b z.1 ?_ z.2), (h.y.tags ht).kp k' (fun b e z => hs b z.1 ?_ z.2)⟩
  · rw [ht b z.1] at e; exact .inr (.inl e)
  · rw [ht b z.1] at e; exact .inr (.inr e)

theorem set_same {α : Type} (l : List α) (i : Nat) (a : α) (h : l[i]? = some a) : l.set i a = l := by
  apply List.ext_getElem?
  intro j
  rw [List.getElem?_set]
  split
  · rename_i e
    subst e
    split
    · exact h.symm
    · rename_i hn
      rw [List.getElem?_eq_none (by omega)]
  · rfl

theorem set_get (L : List SD) (i j : Nat) (d e : SD) (h : (L.set i d)[j]? = some e) : (j = i ∧ e = d) ∨ (j ≠ i ∧ L[j]? = some e) := by
  rw [List.getElem?_set] at h
  split at h
  · rename_i hij
    split at h
    · simp at h; exact .inl ⟨hij.symm, h.symm⟩
    · simp at h
  · rename_i hij
    exact .inr ⟨fun e => hij e.symm, h⟩

/-- The program's space of a side has gone on, and all else stands. -/
theorem Inv.stepX {R : Tags → Nat → World → Nat → Sp → Prop} (X : XC R) {T T' : Tags} {w w' : World} {p : Nat} {S : WS} {L : List SD} (h : Inv R T w p S L) {i : Nat} {d : SD} (hd : L[i]? = some d) {σx : Sp} (ht : TagsTo w T T') (hr : R T' (10 + 2 * i) w' d.px σx) (k : Kp (fun b => (T b).1 = 10 + 2 * i) w w') :
    Inv R T' w' p S (L.set i { d with σx := σx }) := by
  have hy := h.side i d hd
  refine ⟨?_, ?_, fun j e he => ?_⟩
  · refine (h.wat.tags ht).kp (k.mono (fun b hb e => (show b < w.heap.size ∧ (T b).1 = 10 + 2 * i from ⟨hb, e⟩))) (fun b e z => ?_)
    rw [ht b z.1] at e
    omega
  · rw [h.sides, List.map_set]
    have : (L.map SD.sb)[i]? = some d.sb := by rw [List.getElem?_map, hd]; rfl
    exact (set_same _ _ _ this).symm
  · rcases set_get L i j _ e he with ⟨rfl, rfl⟩ | ⟨hne, he'⟩
    · have k' : Kp (fun b => b < w.heap.size ∧ (T b).1 = 10 + 2 * j) w w' := k.mono (fun b hb e => ⟨hb, e⟩)
      have hb := lt_of_heap hy.blk
      refine ⟨k'.heap hy.blk (fun e => ?_), (ht _ hb).trans hy.tag, hr, (hy.y.tags ht).kp k' (fun b e z => ?_)⟩
      · have := e.2; rw [hy.tag] at this; simp at this; omega
      · rw [ht b z.1] at e; have := z.2; omega
    · exact (h.side j e he').kp X ht k (fun b hb ho z => by omega)

theorem Inv.stepY {R : Tags → Nat → World → Nat → Sp → Prop} (X : XC R) {T T' : Tags} {w w' : World} {p : Nat} {S : WS} {L : List SD} (h : Inv R T w p S L) {i : Nat} {d : SD} (hd : L[i]? = some d) {σy : Sp} (ht : TagsTo w T T') (hr : YRep T' (11 + 2 * i) w' d.py σy) (k : Kp (fun b => (T b).1 = 11 + 2 * i) w w') :
    Inv R T' w' p S (L.set i { d with σy := σy }) := by
  have hy := h.side i d hd
  refine ⟨?_, ?_, fun j e he => ?_⟩
  · refine (h.wat.tags ht).kp (k.mono (fun b hb e => (show b < w.heap.size ∧ (T b).1 = 11 + 2 * i from ⟨hb, e⟩))) (fun b e z => ?_)
    rw [ht b z.1] at e
    omega
  · rw [h.sides, List.map_set]
    have : (L.map SD.sb)[i]? = some d.sb := by rw [List.getElem?_map, hd]; rfl
    exact (set_same _ _ _ this).symm
  · rcases set_get L i j _ e he with ⟨rfl, rfl⟩ | ⟨hne, he'⟩
    · have k' : Kp (fun b => b < w.heap.size ∧ (T b).1 = 11 + 2 * j) w w' := k.mono (fun b hb e => ⟨hb, e⟩)
      have hb := lt_of_heap hy.blk
      refine ⟨k'.heap hy.blk (fun e => ?_), (ht _ hb).trans hy.tag, X.kp (X.tags hy.x ht) k' (fun b e z => ?_), hr⟩
      · have := e.2; rw [hy.tag] at this; simp at this; omega
      · rw [ht b z.1] at e; have := z.2; omega
    · exact (h.side j e he').kp X ht k (fun b hb ho z => by omega)

theorem Inv.stepW {R : Tags → Nat → World → Nat → Sp → Prop} (X : XC R) {T T' : Tags} {w w' : World} {p : Nat} {S S' : WS} {L : List SD} (h : Inv R T w p S L) (ht : TagsTo w T T') (hw : WAt T' 5 w' p S') (hs : S'.sides = S.sides) (k : Kp (fun b => (T b).1 = 5) w w') : Inv R T' w' p S' L :=
  ⟨hw, hs.trans h.sides, fun j e he => (h.side j e he).kp X ht k (fun b hb ho z => by omega)⟩

theorem Inv.kp0 {R : Tags → Nat → World → Nat → Sp → Prop} (X : XC R) {T T' : Tags} {w w' : World} {p : Nat} {S : WS} {L : List SD} (h : Inv R T w p S L) (ht : TagsTo w T T') (k : Kp0 w w') : Inv R T' w' p S L :=
  ⟨(h.wat.tags ht).kp k (fun _ _ e => e), h.sides, fun j e he => (h.side j e he).kp X ht k (fun _ _ _ e => e)⟩

end Go.Proofs.YticbbncdcannlaaGreat

/- The law's steps, walked: told. -/
namespace Go.Proofs.YticbbncdcannlaaGreat
open Go.RowKit

/-- What a step of the law leaves. -/
def Went (R : Tags → Nat → World → Nat → Sp → Prop) (T : Tags) (w : World) (p : Nat) (S : WS) (L : List SD) (nl nt : Nat) (w' : World) : Prop :=
  ∃ T' S', TagsTo w T T' ∧ Inv R T' w' p S' L ∧ S'.lists.length ≤ S.lists.length + nl ∧ S'.turned.length ≤ S.turned.length + nt ∧ S.last - nl ≤ S'.last ∧ Kp (fun b => 5 ≤ (T b).1) w w'

set_option maxRecDepth 100000 in
set_option maxHeartbeats 2000000 in
theorem told_calls {R : Tags → Nat → World → Nat → Sp → Prop} (X : XC R) {T : Tags} {w : World} {p : Nat} {S : WS} {L : List SD} (hI : Inv R T w p S L) {i : Nat} {d : SD} (hd : L[i]? = some d) (hσ : d.σx = d.σy) (h : Int) (hok : ((d.σy.values h).1).length ≤ 3600) (hnl : S.lists.length + 4 ≤ 1000000000) (hla : -1000000000 ≤ S.last - 1) :
    Calls Tryz.prog 77 #[.pointer (some ⟨p, 0, none⟩), .pointer (some ⟨d.sb, 0, none⟩), .int .i64 h] w fun e w' => e = .returned (.bool true) ∧ Went R T w p S L 4 0 w' := by
  have hsd := hI.side i d hd
  have z0 : w.cell? ⟨d.sb, 0, none⟩ = some (.pointer (some ⟨d.px, 0, none⟩)) := by simp [World.cell?, hsd.blk]
  have z1 : w.cell? ⟨d.sb, 1, none⟩ = some (.pointer (some ⟨d.py, 0, none⟩)) := by simp [World.cell?, hsd.blk]
  have HI := hid hI
  have HD := hid hd
  have HX := hid X
  have HS := hid hσ
  have HSD := hid hsd
  have HOK := hid hok
  clear hI hd hσ hsd X hok
  go_enter Tryz.func77, Tryz.ntmps77
  go_wp2_with fail
  refine (HX.out.values h (5, 9) HSD.out.x (by simp; omega)).mono ?_
  rintro e w1 ⟨v1, rfl, T1, ht1, hr1, hk1, ao1, c1, rfl, ho1, htg1, hnew1⟩
  have hI1 := HI.out.stepX HX.out HD.out ht1 hr1 hk1
  rw [set_same _ _ _ (show L[i]? = some { d with σx := d.σx } from HD.out)] at hI1
  have z1' := hk1.cell z1 (by rw [HSD.out.tag]; omega)
  have HI1 := hid hI1
  have HO1 := hid ho1
  have HTG1 := hid htg1
  have HNEW1 := hid hnew1
  have HK1 := hid hk1
  have HT1 := hid ht1
  clear hI1 ho1 htg1 hnew1 hk1 ht1 hr1
  go_wp2_with fail
  refine (yValues_calls (HI1.out.side i d HD.out).y h).mono ?_
  rintro e w2 ⟨v2, rfl, ao2, c2, rfl, ho2, hk2, hnew2⟩
  have HO2 := hid ho2
  have HK2 := hid hk2
  clear ho2 hk2 hnew2
  have HSAME : Hid (∀ W, Kp0 w2 W → Calls Tryz.prog 118 #[.slice ao1 (d.σx.values h).1.length c1, .slice ao2 (d.σy.values h).1.length c2] W fun e w' => e = .returned (.bool true) ∧ Kp0 W w') := hid (fun W kW =>
    (same_calls _ _ _ _ W ((HO1.out.rd.kp0 HK2.out).kp0 kW) (HO2.out.rd.kp0 kW) (by rw [HS.out]; have := HOK.out; omega)).mono (by
      rintro e w' ⟨rfl, hk⟩
      exact ⟨by rw [HS.out]; simp, hk⟩))
  go_wp2_with fail
  refine (HSAME.out _ (Kp0.refl _)).mono ?_
  rintro e w3 ⟨rfl, hk3⟩
  have HI3 := hid (HI1.out.kp0 HX.out (fun _ _ => rfl) (HK2.out.trans hk3))
  have HK3 := hid (HK2.out.trans hk3)
  clear hk3
  go_wp2_with fail
  refine (kept_calls HI3.out.wat).mono ?_
  rintro e w4 ⟨rfl, hk4⟩
  have HI4 := hid (HI3.out.kp0 HX.out (fun _ _ => rfl) hk4)
  have HK4 := hid (HK3.out.trans hk4)
  clear hk4
  have HO4 : Hid (OwI w4 (.slice ao1 (d.σx.values h).1.length c1) (d.σx.values h).1) := hid (HO1.out.kp HK4.out (fun _ _ e => e))
  have HLEN : Hid ((d.σx.values h).1.length ≤ 3600) := hid (by rw [HS.out]; exact HOK.out)
  go_wp2_with fail
  refine (keep_calls HI4.out.wat ao1 _ c1 _ HO4.out HTG1.out (HI.out.wat.newApart HNEW1.out) (by have := HLEN.out; omega) hnl hla).mono ?_
  rintro e w5 ⟨rfl, T5, S5, ht5, hw5, hs5, hu5, hl5, hla5, hk5⟩
  have HI5 := hid (HI4.out.stepW HX.out ht5 hw5 hs5 hk5)
  have HK5 := hid hk5
  have HT5 := hid ht5
  have HR5 := hid (And.intro hu5 (And.intro hl5 hla5))
  clear ht5 hw5 hs5 hu5 hl5 hla5 hk5
  have heq : ((d.σx.values h).2 == (d.σy.values h).2) = true := by rw [HS.out]; simp
  go_wp2
  go_ret
  obtain ⟨hu5, hl5, hla5⟩ := HR5.out
  have s1 := HK1.out.size
  have s4 := HK4.out.size
  have t1 : ∀ b, b < w.heap.size → T1 b = T b := HT1.out
  refine ⟨rfl, T5, S5, fun b hb => by rw [HT5.out b (by omega), t1 b hb], HI5.out, by omega, by rw [hu5]; omega, by omega, ?_⟩
  have k1 : Kp (fun b => 5 ≤ (T b).1) w w1 := HK1.out.mono (fun b hb e => by omega)
  exact (k1.trans0 HK4.out).trans HK5.out (fun b hb e => by rw [t1 b hb] at e; omega)

end Go.Proofs.YticbbncdcannlaaGreat

/- The law's steps, walked: looked. -/
namespace Go.Proofs.YticbbncdcannlaaGreat
open Go.RowKit

set_option maxRecDepth 100000 in
set_option maxHeartbeats 2000000 in
theorem looked_calls {R : Tags → Nat → World → Nat → Sp → Prop} (X : XC R) {T : Tags} {w : World} {p : Nat} {S : WS} {L : List SD} (hI : Inv R T w p S L) {i : Nat} {d : SD} (hd : L[i]? = some d) (hσ : d.σx = d.σy) (h : Int) (hok : ((d.σy.look h).2.1).length ≤ 3600) (hnl : S.lists.length + 4 ≤ 1000000000) (hla : -1000000000 ≤ S.last - 1) :
    Calls Tryz.prog 78 #[.pointer (some ⟨p, 0, none⟩), .pointer (some ⟨d.sb, 0, none⟩), .int .i64 h] w fun e w' => e = .returned (.bool true) ∧ Went R T w p S L 4 0 w' := by
  have hsd := hI.side i d hd
  have z0 : w.cell? ⟨d.sb, 0, none⟩ = some (.pointer (some ⟨d.px, 0, none⟩)) := by simp [World.cell?, hsd.blk]
  have z1 : w.cell? ⟨d.sb, 1, none⟩ = some (.pointer (some ⟨d.py, 0, none⟩)) := by simp [World.cell?, hsd.blk]
  have HI := hid hI
  have HD := hid hd
  have HX := hid X
  have HS := hid hσ
  have HSD := hid hsd
  have HOK := hid hok
  have hsb : d.sb < w.heap.size := lt_of_heap hsd.blk
  clear hI hd hσ hsd X hok
  go_enter Tryz.func78, Tryz.ntmps78
  go_wp2_with fail
  refine (HX.out.look h (5, 9) HSD.out.x (by simp; omega)).mono ?_
  rintro e w1 ⟨v1, rfl, T0, ht0, hr0, hk1, ao1, c1, rfl, ho1, htg0, hnew1⟩
  have hI0 := HI.out.stepX HX.out HD.out ht0 hr0 hk1
  rw [set_same _ _ _ (show L[i]? = some { d with σx := d.σx } from HD.out)] at hI0
  obtain ⟨T1, hT1⟩ : ∃ T1, retag w1 T0 (0, 0) = T1 := ⟨_, rfl⟩
  have hI1 : Inv R T1 w1 p S L := by rw [← hT1]; exact hI0.kp0 HX.out (retag_to w1 T0 _) (Kp0.refl _)
  have htg1 : Tagged T1 (.slice ao1 (d.σx.look h).2.1.length c1) (5, 9) := fun b hb => by rw [← hT1, retag_to w1 T0 _ b (ho1.lt hb)]; exact htg0 b hb
  have ht1 : TagsTo w T T1 := fun b hb => by rw [← hT1, retag_to w1 T0 _ b (by have := hk1.size; omega), ht0 b hb]
  have hnew0 : ∀ b, w1.heap.size ≤ b → T1 b = (0, 0) := fun b hb => by rw [← hT1]; exact retag_new hb
  have z1' := hk1.cell z1 (by rw [HSD.out.tag]; omega)
  have hsb1 : d.sb < w1.heap.size := by have := hk1.size; omega
  have HI1 := hid hI1
  have HO1 := hid ho1
  have HTG1 := hid htg1
  have HNEW1 := hid hnew1
  have HNEW0 := hid hnew0
  have HK1 := hid hk1
  have HT1 := hid ht1
  clear hI0 hI1 ho1 htg1 hnew1 hk1 ht1 hr0 htg0 hnew0 ht0 hT1
  have HL : Hid (d.σx.look h = d.σy.look h) := hid (by rw [HS.out])
  obtain ⟨kd, sh, ro, er, hlk⟩ : ∃ kd sh ro er, d.σy.look h = (kd, sh, ro, er) := ⟨_, _, _, _, rfl⟩
  have hlx : d.σx.look h = (kd, sh, ro, er) := by rw [HL.out, hlk]
  have HYL := hid (fun W (hy : YRep T1 (11 + 2 * i) W d.py d.σy) => yLook_calls hy h)
  rw [hlx] at HO1 HTG1 HNEW1 ⊢
  rw [hlk] at HYL HOK
  clear hlx hlk HL
  simp only at HO1 HTG1 HNEW1 HYL HOK ⊢
  go_wp2_with fail
  refine (HYL.out _ ((HI1.out.side i d HD.out).y.kp (Kp.alloc (Kp.refl (fun _ => False) _) _) (fun _ _ e => e))).mono ?_
  rintro e w2 ⟨v2, rfl, ao2, c2, rfl, ho2, hk2, hnew2⟩
  have y0 : w2.cell? ⟨w1.heap.size, 0, none⟩ = some (.int .i64 kd) := hk2.cell (by simp)
  have y1 : w2.cell? ⟨w1.heap.size, 1, none⟩ = some (.slice ao1 sh.length c1) := hk2.cell (by simp)
  have y2 : w2.cell? ⟨w1.heap.size, 2, none⟩ = some (.bool ro) := hk2.cell (by simp)
  have hs2 : w1.heap.size < w2.heap.size := by have := hk2.size; simp at this; omega
  have HO2 := hid ho2
  have HK2 : Hid (Kp0 w1 w2) := hid (Kp0.trans (Kp.alloc (Kp.refl _ _) _) hk2)
  clear ho2 hk2 hnew2
  have HSAME : Hid (∀ W, Kp0 w2 W → Calls Tryz.prog 118 #[.slice ao1 sh.length c1, .slice ao2 sh.length c2] W fun e w' => e = .returned (.bool true) ∧ Kp0 W w') := hid (fun W kW =>
    (same_calls _ _ _ _ W ((HO1.out.rd.kp0 HK2.out).kp0 kW) (HO2.out.rd.kp0 kW) (by have := HOK.out; omega)).mono (by
      rintro e w' ⟨rfl, hk⟩
      exact ⟨by simp, hk⟩))
  go_wp2_with fail
  refine (HSAME.out _ (Kp.alloc (Kp.refl _ _) _)).mono ?_
  rintro e w3 ⟨rfl, hk3⟩
  have x0 : w3.cell? ⟨w2.heap.size, 0, none⟩ = some (.int .i64 kd) := hk3.cell (by simp)
  have x2 : w3.cell? ⟨w2.heap.size, 2, none⟩ = some (.bool ro) := hk3.cell (by simp)
  have hk23 : Kp0 w2 w3 := Kp0.trans (Kp.alloc (Kp.refl _ _) _) hk3
  have y0' := hk23.cell y0
  have y1' := hk23.cell y1
  have y2' := hk23.cell y2
  have hs3 : w2.heap.size < w3.heap.size := by have := hk3.size; simp at this; omega
  have HI3 := hid (HI1.out.kp0 HX.out (fun _ _ => rfl) (HK2.out.trans hk23))
  have HK3 := hid (HK2.out.trans hk23)
  clear hk3 hk23 y0 y1 y2
  go_wp2_with fail
  refine (kept_calls HI3.out.wat).mono ?_
  rintro e w4 ⟨rfl, hk4⟩
  have y0 := hk4.cell y0'
  have y1 := hk4.cell y1'
  have y2 := hk4.cell y2'
  have x0' := hk4.cell x0
  have x2' := hk4.cell x2
  have HI4 := hid (HI3.out.kp0 HX.out (fun _ _ => rfl) hk4)
  have HK4 := hid (HK3.out.trans hk4)
  clear hk4 y0' y1' y2' x0 x2
  have HO4 : Hid (OwI w4 (.slice ao1 sh.length c1) sh) := hid (HO1.out.kp HK4.out (fun _ _ e => e))
  go_wp2_with fail
  refine (keep_calls HI4.out.wat ao1 _ c1 _ HO4.out HTG1.out (HI.out.wat.newApart HNEW1.out) (by have := HOK.out; omega) hnl hla).mono ?_
  rintro e w5 ⟨rfl, T5, S5, ht5, hw5, hs5, hu5, hl5, hla5, hk5⟩
  have u0 := hk5.cell y0 (by rw [HNEW0.out _ (Nat.le_refl _)]; simp)
  have u2 := hk5.cell y2 (by rw [HNEW0.out _ (Nat.le_refl _)]; simp)
  have t0 := hk5.cell x0' (by rw [HNEW0.out _ (by simp; omega)]; simp)
  have t2 := hk5.cell x2' (by rw [HNEW0.out _ (by simp; omega)]; simp)
  have HI5 := hid (HI4.out.stepW HX.out ht5 hw5 hs5 hk5)
  have HK5 := hid hk5
  have HT5 := hid ht5
  have HR5 := hid (And.intro hu5 (And.intro hl5 hla5))
  clear ht5 hw5 hs5 hu5 hl5 hla5 hk5 y0 y1 y2 x0' x2'
  go_wp2
  go_ret
  obtain ⟨hu5, hl5, hla5⟩ := HR5.out
  have s1 := HK1.out.size
  have s4 := HK4.out.size
  have t1 : ∀ b, b < w.heap.size → T1 b = T b := HT1.out
  refine ⟨ret_bool (by simp), T5, S5, fun b hb => by rw [HT5.out b (by omega), t1 b hb], HI5.out, by omega, by rw [hu5]; omega, by omega, ?_⟩
  have k1 : Kp (fun b => 5 ≤ (T b).1) w w1 := HK1.out.mono (fun b hb e => by omega)
  exact (k1.trans0 HK4.out).trans HK5.out (fun b hb e => by rw [t1 b hb] at e; omega)

end Go.Proofs.YticbbncdcannlaaGreat

/- The law's steps, walked: plain. -/
namespace Go.Proofs.YticbbncdcannlaaGreat
open Go.RowKit

theorem hand_calls (g n c : Nat) (a : Option Addr) (xs : List Int) (w : World) (hn : xs.length = n) (hr : RdI w (.slice a n c) xs) (hb : n ≤ 1000000000) (hg : w.heap[g]? = some (.cells (ints (xs ++ [0])).toArray 3 (0, 0))) :
    Calls Tryz.prog 105 #[.slice (some ⟨g, 0, none⟩) (n + 1) (n + 1), .slice a n c] w fun e w' => (∃ ai ci, e = .returned (.slice ai n ci) ∧ RdI w (.slice ai n ci) xs ∧ ∀ b, (Value.slice ai n ci).ownBlock = some b → b = g) ∧ w' = w := by
  cases a with
  | none =>
    have hx : xs = [] := by
      obtain ⟨a, c', h1, h2⟩ := hr
      apply Classical.byContradiction
      intro hne
      obtain ⟨g, o, h3, _⟩ := h2 hne
      simp at h1
      rw [h3] at h1
      simp at h1
    subst hx
    simp at hn
    subst hn
    refine (hand_nil _ 0 c w).mono ?_
    rintro e w' ⟨rfl, rfl⟩
    exact ⟨⟨none, 0, rfl, ⟨none, 0, rfl, fun h => absurd rfl h⟩, fun b hb => by simp [Value.ownBlock] at hb⟩, rfl⟩
  | some a =>
    refine (hand_some g n (n + 1) c a w (by omega) (by omega)).mono ?_
    rintro e w' ⟨rfl, rfl⟩
    refine ⟨⟨some ⟨g, 0, none⟩, n + 1, rfl, ⟨some ⟨g, 0, none⟩, n + 1, by rw [hn], fun _ => ⟨g, 0, rfl, fun j hj => ?_⟩⟩, fun b hb => by simp [Value.ownBlock] at hb; exact hb.symm⟩, rfl⟩
    rw [Nat.zero_add, cell_of_row _ g j _ _ _ hg]
    have := ints_get (xs := xs ++ [0]) (j := j) (by simp; omega)
    rw [nth_lt (by simp; omega), List.getElem_append_left hj, ← nth_lt hj] at this
    simpa using this

/-- The list of an op: the caller's. -/
structure OpL (T : Tags) (w : World) (vL : Value) (a : Option Addr) (n c : Nat) (xs : List Int) : Prop where
  form : vL = .slice a n c
  len : xs.length = n
  rd : RdI w vL xs
  tag : xs ≠ [] → ∀ b, vL.ownBlock = some b → b < w.heap.size ∧ (T b).1 = 0
  big : n ≤ 100000000


set_option maxRecDepth 100000 in
set_option maxHeartbeats 2000000 in
theorem plain_make {R : Tags → Nat → World → Nat → Sp → Prop} (X : XC R) {T : Tags} {w : World} {p : Nat} {S : WS} {L : List SD} (hI : Inv R T w p S L) {i : Nat} {d : SD} (hd : L[i]? = some d) (hσ : d.σx = d.σy) (oH oA oB oC oD : Int) (vL : Value) (wh : Bool) (xs : List Int) (a : Option Addr) (n c : Nat) (hL : OpL T w vL a n c xs) (hA : IntKind.i64.wrap oA = oA)
    (hnt : S.turned.length + 1 ≤ 1000000000) (hm : d.σy.arrs.length + 1 ≤ 100000000) (hb : d.σy.bufs.length + 1 ≤ 100000000) :
    Calls Tryz.prog 75 #[.pointer (some ⟨p, 0, none⟩), .pointer (some ⟨d.sb, 0, none⟩), .agg #[.int .i64 1, .int .i64 oH, .int .i64 oA, .int .i64 oB, .int .i64 oC, .int .i64 oD, vL, .bool wh]] w fun e w' => e = .returned (.bool true) ∧ Went R T w p S (L.set i { d with σx := (d.σy.make oA xs).1, σy := (d.σy.make oA xs).1 }) 0 1 w' := by
  have hsd := hI.side i d hd
  have z0 : w.cell? ⟨d.sb, 0, none⟩ = some (.pointer (some ⟨d.px, 0, none⟩)) := by simp [World.cell?, hsd.blk]
  have z1 : w.cell? ⟨d.sb, 1, none⟩ = some (.pointer (some ⟨d.py, 0, none⟩)) := by simp [World.cell?, hsd.blk]
  have hsb : d.sb < w.heap.size := lt_of_heap hsd.blk
  obtain ⟨rfl, hlen, hrd, htag, hbig⟩ := hL
  have HRD := hid hrd
  have HTAG := hid htag
  have HLEN := hid hlen
  have HI := hid hI
  have HD := hid hd
  have HX := hid X
  have HS := hid hσ
  have HSD := hid hsd
  have HA := hid hA
  clear hI hd hσ hsd X hrd htag hlen hA
  obtain ⟨T1, hT1⟩ : ∃ T1, retag w T (5, 9) = T1 := ⟨_, rfl⟩
  have HT1 : Hid (TagsTo w T T1) := hid (by rw [← hT1]; exact retag_to w T _)
  have HNEW : Hid (∀ b, w.heap.size ≤ b → T1 b = (5, 9)) := hid (fun b hb => by rw [← hT1]; exact retag_new hb)
  clear hT1
  have HLENT : Hid (∀ y, Calls Tryz.prog 104 #[.slice a n c] (w.alloc y) fun e w' => e = .returned (.slice (some ⟨w.heap.size + 1, 0, none⟩) (n + 1) (n + 1)) ∧ w' = (w.alloc y).alloc (.cells (ints (xs ++ [0])).toArray 3)) := hid (fun y =>
    (lent_calls _ xs (w.alloc y) (HRD.out.kp0 (Kp.alloc (Kp.refl _ _) _)) (by have := HLEN.out; omega)).mono (by
      rintro e w' ⟨rfl, rfl⟩
      rw [HLEN.out]
      exact ⟨by simp, rfl⟩))
  go_enter Tryz.func75, Tryz.ntmps75
  go_wp2_with fail
  refine (HLENT.out _).mono ?_
  rintro e w2 ⟨rfl, hw2⟩
  have HK2 : Hid (Kp0 w w2) := hid (by rw [hw2]; exact Kp.alloc (Kp.alloc (Kp.refl _ _) _) _)
  have hg2 : w2.heap[w.heap.size + 1]? = some (.cells (ints (xs ++ [0])).toArray 3 (0, 0)) := by
    rw [hw2]
    have := heap_alloc_new (w.alloc (.cells #[.int .i64 1, .int .i64 oH, .int .i64 oA, .int .i64 oB, .int .i64 oC, .int .i64 oD, .slice a n c, .bool wh] 87)) (.cells (ints (xs ++ [0])).toArray 3)
    simpa using this
  have hbox : w2.heap[w.heap.size]? = some (.cells #[.int .i64 1, .int .i64 oH, .int .i64 oA, .int .i64 oB, .int .i64 oC, .int .i64 oD, .slice a n c, .bool wh] 87 (0, 0)) := by
    rw [hw2, Below.heap_alloc _ _ _ (by simp)]
    exact heap_alloc_new _ _
  have HG2 := hid hg2
  have HBOX := hid hbox
  have hs2 : w.heap.size + 1 < w2.heap.size := lt_of_heap hg2
  have b0 : w2.cell? ⟨w.heap.size, 0, none⟩ = some (.int .i64 1) := by simp [World.cell?, hbox]
  have b1 : w2.cell? ⟨w.heap.size, 1, none⟩ = some (.int .i64 oH) := by simp [World.cell?, hbox]
  have b2 : w2.cell? ⟨w.heap.size, 2, none⟩ = some (.int .i64 oA) := by simp [World.cell?, hbox]
  have b6 : w2.cell? ⟨w.heap.size, 6, none⟩ = some (.slice a n c) := by simp [World.cell?, hbox]
  have y0 := HK2.out.cell z0
  have y1 := HK2.out.cell z1
  have HI2 := hid (HI.out.kp0 HX.out HT1.out HK2.out)
  clear hw2 hg2 hbox z0 z1 HLENT
  go_wp2_with fail
  refine (hand_calls (w.heap.size + 1) n c a xs w2 HLEN.out (HRD.out.kp0 HK2.out) (by omega) HG2.out).mono ?_
  rintro e w2' ⟨⟨ai, ci, rfl, hin, hib⟩, hw⟩
  obtain rfl := hw.symm
  have HIN := hid hin
  have HIB : Hid (∀ b, (Value.slice ai n ci).ownBlock = some b → (T1 b).1 ≠ 10 + 2 * i) := hid (fun b hb => by
    have := hib b hb
    rw [this, HNEW.out _ (by omega)]
    simp; omega)
  clear hin hib
  have nn : Hid (∀ b, w.heap.size ≤ b → ¬ (T1 b).1 = 10 + 2 * i) := hid (fun b hb => by rw [HNEW.out b hb]; simp; omega)
  have ct : Hid (xs ≠ [] → ∀ b, (Value.slice a n c).ownBlock = some b → b < w.heap.size ∧ (T1 b).1 = 0) := hid (fun hx b hb => by
    have := HTAG.out hx b hb
    exact ⟨this.1, by rw [HT1.out b this.1]; exact this.2⟩)
  have HXC : Hid (∀ W, Kp0 w2 W → Calls Tryz.prog 28 #[.pointer (some ⟨d.px, 0, none⟩), .int .i64 oA, .slice ai n ci] W fun e w3 => e = .returned (.tuple #[.int .i64 (d.σx.make oA xs).2.1, .int .i64 (d.σx.make oA xs).2.2]) ∧ ∃ T3, TagsTo w2 T1 T3 ∧ Inv R T3 w3 p S (L.set i { d with σx := (d.σx.make oA xs).1 }) ∧ Kp (fun b => (T1 b).1 = 10 + 2 * i) w2 w3) := hid (fun W kW => by
    have hIW := HI2.out.kp0 HX.out (fun _ _ => rfl) kW
    refine (HX.out.make oA _ xs (hIW.side i d HD.out).x (HIN.out.kp0 kW) HIB.out (by have := HLEN.out; omega) (by rw [HS.out]; exact hm) (by rw [HS.out]; exact hb)).mono ?_
    rintro e w3 ⟨rfl, T3, ht3, hr3, hk3⟩
    exact ⟨rfl, T3, fun b hb => ht3 b (Nat.lt_of_lt_of_le hb kW.size), hIW.stepX HX.out HD.out ht3 hr3 hk3, (Kp.of0 kW).trans hk3 (fun _ _ e => e)⟩)
  have HD3 : Hid ((L.set i { d with σx := (d.σx.make oA xs).1 })[i]? = some { d with σx := (d.σx.make oA xs).1 }) := hid (by
    rw [List.getElem?_set]
    have : i < L.length := by
      have h := HD.out
      rcases Nat.lt_or_ge i L.length with h' | h'
      · exact h'
      · rw [List.getElem?_eq_none h'] at h; cases h
    simp [this])
  go_wp2
  go_region_held3 (fun w' => w'.cell? ⟨d.sb, 0, none⟩ = some (.pointer (some ⟨d.px, 0, none⟩)) ∧ w'.cell? ⟨w.heap.size, 2, none⟩ = some (.int .i64 oA)) (first | go_keep | (go_split_ands; exact ⟨hk3.cell y0 (by rw [HT1.out _ hsb, HSD.out.tag]; simp; omega), hk3.cell b2 (nn.out _ (Nat.le_refl _))⟩))
    ((go_at_call 28; refine (HXC.out _ ?_).mono ?_; (first | exact Kp0.refl _ | exact Kp0.drew (Kp0.refl _)); rintro e w3 ⟨rfl, T3, ht3, hI3, hk3⟩))
  have d0 := hk3.cell b0 (nn.out _ (Nat.le_refl _))
  have d1 := hk3.cell b1 (nn.out _ (Nat.le_refl _))
  have d2 := hk3.cell b2 (nn.out _ (Nat.le_refl _))
  have d6 := hk3.cell b6 (nn.out _ (Nat.le_refl _))
  have x1 := hk3.cell y1 (by rw [HT1.out _ hsb, HSD.out.tag]; simp; omega)
  have HG3 := hid (hk3.heap HG2.out (nn.out _ (by omega)))
  have hs3 : w2.heap.size ≤ w3.heap.size := hk3.size
  have HRD3 := hid ((HRD.out.kp0 HK2.out).kpne hk3 (fun hx b hb e => by have := (ct.out hx b hb).2; omega))
  have HI3 := hid hI3
  have HT3 := hid ht3
  have HK3 := hid hk3
  clear ht3 hI3 hk3 b0 b1 b2 b6 y0 y1 HXC
  have HYC : Hid (∀ W, Kp0 w3 W → Calls Tryz.prog 106 #[.pointer (some ⟨d.py, 0, none⟩), .int .i64 oA, .slice a n c] W fun e w4 => e = .returned (.tuple #[.int .i64 (d.σy.make oA xs).2.1, .int .i64 (d.σy.make oA xs).2.2]) ∧ ∃ T4, TagsTo w3 T3 T4 ∧ Inv R T4 w4 p S ((L.set i { d with σx := (d.σx.make oA xs).1 }).set i { { d with σx := (d.σx.make oA xs).1 } with σy := (d.σy.make oA xs).1 }) ∧ Kp (fun b => (T3 b).1 = 11 + 2 * i) w3 w4) := hid (fun W kW => by
    have hIW := HI3.out.kp0 HX.out (fun _ _ => rfl) kW
    refine (ymake_calls (hIW.side i _ HD3.out).y oA _ xs (HRD3.out.kp0 kW) (fun hx b hb e => by have := ct.out hx b hb; have := e.1; rw [HT3.out b (by omega)] at this; omega) hm hb).mono ?_
    rintro e w4 ⟨rfl, hst4⟩
    obtain ⟨T4, ht4, hr4, hk4⟩ := hst4.step
    exact ⟨rfl, T4, fun b hb => ht4 b (Nat.lt_of_lt_of_le hb kW.size), hIW.stepY HX.out HD3.out ht4 hr4 hk4, (Kp.of0 kW).trans hk4 (fun _ _ e => e)⟩)
  have nn4 : Hid (∀ b, w.heap.size ≤ b → b < w2.heap.size → ¬ (T3 b).1 = 11 + 2 * i) := hid (fun b hb hb2 => by rw [HT3.out b hb2, HNEW.out b hb]; simp; omega)
  go_wp2
  go_region_held3 (fun w' => w'.cell? ⟨d.sb, 1, none⟩ = some (.pointer (some ⟨d.py, 0, none⟩)) ∧ w'.cell? ⟨w.heap.size, 2, none⟩ = some (.int .i64 oA) ∧ w'.cell? ⟨w.heap.size, 6, none⟩ = some (.slice a n c)) (first | go_keep | (go_split_ands; exact ⟨hk4.cell x1 (by rw [HT3.out _ (by simp; omega), HT1.out _ hsb, HSD.out.tag]; simp; omega), hk4.cell d2 (nn4.out _ (Nat.le_refl _) (by simp; omega)), hk4.cell d6 (nn4.out _ (Nat.le_refl _) (by simp; omega))⟩))
    ((go_at_call 106; refine (HYC.out _ ?_).mono ?_; (first | exact Kp0.refl _ | exact Kp0.drew (Kp0.refl _)); rintro e w4 ⟨rfl, T4, ht4, hI4, hk4⟩))
  have d0' := hk4.cell d0 (nn4.out _ (Nat.le_refl _) (by simp; omega))
  have d6' := hk4.cell d6 (nn4.out _ (Nat.le_refl _) (by simp; omega))
  have HG4 := hid (hk4.heap HG3.out (nn4.out _ (by omega) hs2))
  have hs4 : w3.heap.size ≤ w4.heap.size := hk4.size
  have HRD4 := hid (HRD3.out.kpne hk4 (fun hx b hb e => by
    have := ct.out hx b hb
    rw [HT3.out b (by omega)] at e
    omega))
  have HI4 := hid hI4
  have HT4 := hid ht4
  have HK4 := hid hk4
  have HCT := hid ct.out
  clear ht4 hI4 hk4 d0 d1 d2 d6 HYC
  have HT41 : Hid (∀ b, b < w2.heap.size → T4 b = T1 b) := hid (fun b hb => by rw [HT4.out b (by omega), HT3.out b hb])
  go_wp2_with fail
  refine (returned_calls HI4.out.wat (w.heap.size + 1) n _ xs HLEN.out (by omega) HRD4.out HG4.out (by rw [HT41.out _ hs2]; exact HNEW.out _ (by omega)) (fun hx b hb => by
      have := HCT.out hx b hb
      rw [HT41.out b (by omega)]
      omega) hnt (fun j v hv e => by have := HI.out.wat.lt hv e; omega) (fun j v hv e => by have := HI.out.wat.ltt hv e; omega)).mono ?_
  rintro e w5 ⟨rfl, T5, vt, ht5, hw5, hk5⟩
  have HI5 := hid (HI4.out.stepW HX.out ht5 hw5 rfl hk5)
  have HT5 := hid ht5
  have HK5 := hid hk5
  clear ht5 hw5 hk5
  have q1 : ((d.σx.make oA xs).2.1 == (d.σy.make oA xs).2.1) = true := by rw [HS.out]; simp
  have q2 : ((d.σx.make oA xs).2.2 == (d.σy.make oA xs).2.2) = true := by rw [HS.out]; simp
  go_wp2
  go_ret
  have hLL : (L.set i { d with σx := (d.σx.make oA xs).1 }).set i { { d with σx := (d.σx.make oA xs).1 } with σy := (d.σy.make oA xs).1 } = L.set i { d with σx := (d.σy.make oA xs).1, σy := (d.σy.make oA xs).1 } := by
    first | rw [List.set_set, HS.out] | (rw [List.set_set]; show L.set i ⟨d.sb, d.px, d.py, d.σx, d.σy⟩ = _; rw [HS.out])
  have hI5 := HI5.out
  rw [hLL] at hI5
  have s2 := HK2.out.size
  refine ⟨ret_bool (by simp), T5, _, fun b hb => by rw [HT5.out b (by omega), HT41.out b (by omega), HT1.out b hb], hI5, Nat.le_refl _, by simp [WS.turn], by simp [WS.turn], ?_⟩
  have k3 : Kp (fun b => 5 ≤ (T b).1) w w3 := (Kp.of0 HK2.out).trans HK3.out (fun b hb e => by rw [HT1.out b hb] at e; omega)
  have k4 : Kp (fun b => 5 ≤ (T b).1) w w4 := k3.trans HK4.out (fun b hb e => by rw [HT3.out b (by omega), HT1.out b hb] at e; omega)
  exact k4.trans HK5.out (fun b hb e => by rw [HT41.out b (by omega), HT1.out b hb] at e; omega)

end Go.Proofs.YticbbncdcannlaaGreat

/- The law's steps, walked: plain: set. -/
namespace Go.Proofs.YticbbncdcannlaaGreat
open Go.RowKit

set_option maxRecDepth 100000 in
set_option maxHeartbeats 2000000 in
theorem plain_set {R : Tags → Nat → World → Nat → Sp → Prop} (X : XC R) {T : Tags} {w : World} {p : Nat} {S : WS} {L : List SD} (hI : Inv R T w p S L) {i : Nat} {d : SD} (hd : L[i]? = some d) (hσ : d.σx = d.σy) (oH oA oB oC oD : Int) (vL : Value) (wh : Bool) (xs : List Int) (a : Option Addr) (n c : Nat) (hL : OpL T w vL a n c xs) (hA : IntKind.i64.wrap oA = oA)
    (hnt : S.turned.length + 1 ≤ 1000000000) (_hm : d.σy.arrs.length + 1 ≤ 100000000) (_hb : d.σy.bufs.length + 1 ≤ 100000000) :
    Calls Tryz.prog 75 #[.pointer (some ⟨p, 0, none⟩), .pointer (some ⟨d.sb, 0, none⟩), .agg #[.int .i64 2, .int .i64 oH, .int .i64 oA, .int .i64 oB, .int .i64 oC, .int .i64 oD, vL, .bool wh]] w fun e w' => e = .returned (.bool true) ∧ Went R T w p S (L.set i { d with σx := (d.σy.set oH oA xs).1, σy := (d.σy.set oH oA xs).1 }) 0 1 w' := by
  have hsd := hI.side i d hd
  have z0 : w.cell? ⟨d.sb, 0, none⟩ = some (.pointer (some ⟨d.px, 0, none⟩)) := by simp [World.cell?, hsd.blk]
  have z1 : w.cell? ⟨d.sb, 1, none⟩ = some (.pointer (some ⟨d.py, 0, none⟩)) := by simp [World.cell?, hsd.blk]
  have hsb : d.sb < w.heap.size := lt_of_heap hsd.blk
  obtain ⟨rfl, hlen, hrd, htag, hbig⟩ := hL
  have HRD := hid hrd
  have HTAG := hid htag
  have HLEN := hid hlen
  have HI := hid hI
  have HD := hid hd
  have HX := hid X
  have HS := hid hσ
  have HSD := hid hsd
  have HA := hid hA
  clear hI hd hσ hsd X hrd htag hlen hA
  obtain ⟨T1, hT1⟩ : ∃ T1, retag w T (5, 9) = T1 := ⟨_, rfl⟩
  have HT1 : Hid (TagsTo w T T1) := hid (by rw [← hT1]; exact retag_to w T _)
  have HNEW : Hid (∀ b, w.heap.size ≤ b → T1 b = (5, 9)) := hid (fun b hb => by rw [← hT1]; exact retag_new hb)
  clear hT1
  have HLENT : Hid (∀ y, Calls Tryz.prog 104 #[.slice a n c] (w.alloc y) fun e w' => e = .returned (.slice (some ⟨w.heap.size + 1, 0, none⟩) (n + 1) (n + 1)) ∧ w' = (w.alloc y).alloc (.cells (ints (xs ++ [0])).toArray 3)) := hid (fun y =>
    (lent_calls _ xs (w.alloc y) (HRD.out.kp0 (Kp.alloc (Kp.refl _ _) _)) (by have := HLEN.out; omega)).mono (by
      rintro e w' ⟨rfl, rfl⟩
      rw [HLEN.out]
      exact ⟨by simp, rfl⟩))
  go_enter Tryz.func75, Tryz.ntmps75
  go_wp2_with fail
  refine (HLENT.out _).mono ?_
  rintro e w2 ⟨rfl, hw2⟩
  have HK2 : Hid (Kp0 w w2) := hid (by rw [hw2]; exact Kp.alloc (Kp.alloc (Kp.refl _ _) _) _)
  have hg2 : w2.heap[w.heap.size + 1]? = some (.cells (ints (xs ++ [0])).toArray 3 (0, 0)) := by
    rw [hw2]
    have := heap_alloc_new (w.alloc (.cells #[.int .i64 2, .int .i64 oH, .int .i64 oA, .int .i64 oB, .int .i64 oC, .int .i64 oD, .slice a n c, .bool wh] 87)) (.cells (ints (xs ++ [0])).toArray 3)
    simpa using this
  have hbox : w2.heap[w.heap.size]? = some (.cells #[.int .i64 2, .int .i64 oH, .int .i64 oA, .int .i64 oB, .int .i64 oC, .int .i64 oD, .slice a n c, .bool wh] 87 (0, 0)) := by
    rw [hw2, Below.heap_alloc _ _ _ (by simp)]
    exact heap_alloc_new _ _
  have HG2 := hid hg2
  have HBOX := hid hbox
  have hs2 : w.heap.size + 1 < w2.heap.size := lt_of_heap hg2
  have b0 : w2.cell? ⟨w.heap.size, 0, none⟩ = some (.int .i64 2) := by simp [World.cell?, hbox]
  have b1 : w2.cell? ⟨w.heap.size, 1, none⟩ = some (.int .i64 oH) := by simp [World.cell?, hbox]
  have b2 : w2.cell? ⟨w.heap.size, 2, none⟩ = some (.int .i64 oA) := by simp [World.cell?, hbox]
  have b6 : w2.cell? ⟨w.heap.size, 6, none⟩ = some (.slice a n c) := by simp [World.cell?, hbox]
  have y0 := HK2.out.cell z0
  have y1 := HK2.out.cell z1
  have HI2 := hid (HI.out.kp0 HX.out HT1.out HK2.out)
  clear hw2 hg2 hbox z0 z1 HLENT
  go_wp2_with fail
  refine (hand_calls (w.heap.size + 1) n c a xs w2 HLEN.out (HRD.out.kp0 HK2.out) (by omega) HG2.out).mono ?_
  rintro e w2' ⟨⟨ai, ci, rfl, hin, hib⟩, hw⟩
  obtain rfl := hw.symm
  have HIN := hid hin
  have HIB : Hid (∀ b, (Value.slice ai n ci).ownBlock = some b → (T1 b).1 ≠ 10 + 2 * i) := hid (fun b hb => by
    have := hib b hb
    rw [this, HNEW.out _ (by omega)]
    simp; omega)
  clear hin hib
  have nn : Hid (∀ b, w.heap.size ≤ b → ¬ (T1 b).1 = 10 + 2 * i) := hid (fun b hb => by rw [HNEW.out b hb]; simp; omega)
  have ct : Hid (xs ≠ [] → ∀ b, (Value.slice a n c).ownBlock = some b → b < w.heap.size ∧ (T1 b).1 = 0) := hid (fun hx b hb => by
    have := HTAG.out hx b hb
    exact ⟨this.1, by rw [HT1.out b this.1]; exact this.2⟩)
  have HXC : Hid (∀ W, Kp0 w2 W → Calls Tryz.prog 36 #[.pointer (some ⟨d.px, 0, none⟩), .int .i64 oH, .int .i64 oA, .slice ai n ci] W fun e w3 => e = .returned (.int .i64 (d.σx.set oH oA xs).2) ∧ ∃ T3, TagsTo w2 T1 T3 ∧ Inv R T3 w3 p S (L.set i { d with σx := (d.σx.set oH oA xs).1 }) ∧ Kp (fun b => (T1 b).1 = 10 + 2 * i) w2 w3) := hid (fun W kW => by
    have hIW := HI2.out.kp0 HX.out (fun _ _ => rfl) kW
    refine (HX.out.set oH oA _ xs (hIW.side i d HD.out).x (HIN.out.kp0 kW) HIB.out (by have := HLEN.out; omega) HA.out).mono ?_
    rintro e w3 ⟨rfl, T3, ht3, hr3, hk3⟩
    exact ⟨rfl, T3, fun b hb => ht3 b (Nat.lt_of_lt_of_le hb kW.size), hIW.stepX HX.out HD.out ht3 hr3 hk3, (Kp.of0 kW).trans hk3 (fun _ _ e => e)⟩)
  have HD3 : Hid ((L.set i { d with σx := (d.σx.set oH oA xs).1 })[i]? = some { d with σx := (d.σx.set oH oA xs).1 }) := hid (by
    rw [List.getElem?_set]
    have : i < L.length := by
      have h := HD.out
      rcases Nat.lt_or_ge i L.length with h' | h'
      · exact h'
      · rw [List.getElem?_eq_none h'] at h; cases h
    simp [this])
  go_wp2
  go_region_held3 (fun w' => w'.cell? ⟨d.sb, 0, none⟩ = some (.pointer (some ⟨d.px, 0, none⟩)) ∧ w'.cell? ⟨w.heap.size, 1, none⟩ = some (.int .i64 oH) ∧ w'.cell? ⟨w.heap.size, 2, none⟩ = some (.int .i64 oA)) (first | go_keep | (go_split_ands; exact ⟨hk3.cell y0 (by rw [HT1.out _ hsb, HSD.out.tag]; simp; omega), hk3.cell b1 (nn.out _ (Nat.le_refl _)), hk3.cell b2 (nn.out _ (Nat.le_refl _))⟩))
    ((go_at_call 36; refine (HXC.out _ ?_).mono ?_; (first | exact Kp0.refl _ | exact Kp0.drew (Kp0.refl _)); rintro e w3 ⟨rfl, T3, ht3, hI3, hk3⟩))
  have d0 := hk3.cell b0 (nn.out _ (Nat.le_refl _))
  have d1 := hk3.cell b1 (nn.out _ (Nat.le_refl _))
  have d2 := hk3.cell b2 (nn.out _ (Nat.le_refl _))
  have d6 := hk3.cell b6 (nn.out _ (Nat.le_refl _))
  have x1 := hk3.cell y1 (by rw [HT1.out _ hsb, HSD.out.tag]; simp; omega)
  have HG3 := hid (hk3.heap HG2.out (nn.out _ (by omega)))
  have hs3 : w2.heap.size ≤ w3.heap.size := hk3.size
  have HRD3 := hid ((HRD.out.kp0 HK2.out).kpne hk3 (fun hx b hb e => by have := (ct.out hx b hb).2; omega))
  have HI3 := hid hI3
  have HT3 := hid ht3
  have HK3 := hid hk3
  clear ht3 hI3 hk3 b0 b1 b2 b6 y0 y1 HXC
  have HYC : Hid (∀ W, Kp0 w3 W → Calls Tryz.prog 107 #[.pointer (some ⟨d.py, 0, none⟩), .int .i64 oH, .int .i64 oA, .slice a n c] W fun e w4 => e = .returned (.int .i64 (d.σy.set oH oA xs).2) ∧ ∃ T4, TagsTo w3 T3 T4 ∧ Inv R T4 w4 p S ((L.set i { d with σx := (d.σx.set oH oA xs).1 }).set i { { d with σx := (d.σx.set oH oA xs).1 } with σy := (d.σy.set oH oA xs).1 }) ∧ Kp (fun b => (T3 b).1 = 11 + 2 * i) w3 w4) := hid (fun W kW => by
    have hIW := HI3.out.kp0 HX.out (fun _ _ => rfl) kW
    refine (yset_calls (hIW.side i _ HD3.out).y oH oA _ xs (HRD3.out.kp0 kW)).mono ?_
    rintro e w4 ⟨rfl, hst4⟩
    obtain ⟨T4, ht4, hr4, hk4⟩ := hst4.step
    exact ⟨rfl, T4, fun b hb => ht4 b (Nat.lt_of_lt_of_le hb kW.size), hIW.stepY HX.out HD3.out ht4 hr4 hk4, (Kp.of0 kW).trans hk4 (fun _ _ e => e)⟩)
  have nn4 : Hid (∀ b, w.heap.size ≤ b → b < w2.heap.size → ¬ (T3 b).1 = 11 + 2 * i) := hid (fun b hb hb2 => by rw [HT3.out b hb2, HNEW.out b hb]; simp; omega)
  go_wp2
  go_region_held3 (fun w' => w'.cell? ⟨d.sb, 1, none⟩ = some (.pointer (some ⟨d.py, 0, none⟩)) ∧ w'.cell? ⟨w.heap.size, 1, none⟩ = some (.int .i64 oH) ∧ w'.cell? ⟨w.heap.size, 2, none⟩ = some (.int .i64 oA) ∧ w'.cell? ⟨w.heap.size, 6, none⟩ = some (.slice a n c)) (first | go_keep | (go_split_ands; exact ⟨hk4.cell x1 (by rw [HT3.out _ (by simp; omega), HT1.out _ hsb, HSD.out.tag]; simp; omega), hk4.cell d1 (nn4.out _ (Nat.le_refl _) (by simp; omega)), hk4.cell d2 (nn4.out _ (Nat.le_refl _) (by simp; omega)), hk4.cell d6 (nn4.out _ (Nat.le_refl _) (by simp; omega))⟩))
    ((go_at_call 107; refine (HYC.out _ ?_).mono ?_; (first | exact Kp0.refl _ | exact Kp0.drew (Kp0.refl _)); rintro e w4 ⟨rfl, T4, ht4, hI4, hk4⟩))
  have d0' := hk4.cell d0 (nn4.out _ (Nat.le_refl _) (by simp; omega))
  have d6' := hk4.cell d6 (nn4.out _ (Nat.le_refl _) (by simp; omega))
  have HG4 := hid (hk4.heap HG3.out (nn4.out _ (by omega) hs2))
  have hs4 : w3.heap.size ≤ w4.heap.size := hk4.size
  have HRD4 := hid (HRD3.out.kpne hk4 (fun hx b hb e => by
    have := ct.out hx b hb
    rw [HT3.out b (by omega)] at e
    omega))
  have HI4 := hid hI4
  have HT4 := hid ht4
  have HK4 := hid hk4
  have HCT := hid ct.out
  clear ht4 hI4 hk4 d0 d1 d2 d6 HYC
  have HT41 : Hid (∀ b, b < w2.heap.size → T4 b = T1 b) := hid (fun b hb => by rw [HT4.out b (by omega), HT3.out b hb])
  go_wp2_with fail
  refine (returned_calls HI4.out.wat (w.heap.size + 1) n _ xs HLEN.out (by omega) HRD4.out HG4.out (by rw [HT41.out _ hs2]; exact HNEW.out _ (by omega)) (fun hx b hb => by
      have := HCT.out hx b hb
      rw [HT41.out b (by omega)]
      omega) hnt (fun j v hv e => by have := HI.out.wat.lt hv e; omega) (fun j v hv e => by have := HI.out.wat.ltt hv e; omega)).mono ?_
  rintro e w5 ⟨rfl, T5, vt, ht5, hw5, hk5⟩
  have HI5 := hid (HI4.out.stepW HX.out ht5 hw5 rfl hk5)
  have HT5 := hid ht5
  have HK5 := hid hk5
  clear ht5 hw5 hk5
  have q2 : ((d.σx.set oH oA xs).2 == (d.σy.set oH oA xs).2) = true := by rw [HS.out]; simp
  go_wp2
  go_ret
  have hLL : (L.set i { d with σx := (d.σx.set oH oA xs).1 }).set i { { d with σx := (d.σx.set oH oA xs).1 } with σy := (d.σy.set oH oA xs).1 } = L.set i { d with σx := (d.σy.set oH oA xs).1, σy := (d.σy.set oH oA xs).1 } := by
    first | rw [List.set_set, HS.out] | (rw [List.set_set]; show L.set i ⟨d.sb, d.px, d.py, d.σx, d.σy⟩ = _; rw [HS.out])
  have hI5 := HI5.out
  rw [hLL] at hI5
  have s2 := HK2.out.size
  refine ⟨ret_bool (by simp), T5, _, fun b hb => by rw [HT5.out b (by omega), HT41.out b (by omega), HT1.out b hb], hI5, Nat.le_refl _, by simp [WS.turn], by simp [WS.turn], ?_⟩
  have k3 : Kp (fun b => 5 ≤ (T b).1) w w3 := (Kp.of0 HK2.out).trans HK3.out (fun b hb e => by rw [HT1.out b hb] at e; omega)
  have k4 : Kp (fun b => 5 ≤ (T b).1) w w4 := k3.trans HK4.out (fun b hb e => by rw [HT3.out b (by omega), HT1.out b hb] at e; omega)
  exact k4.trans HK5.out (fun b hb e => by rw [HT41.out b (by omega), HT1.out b hb] at e; omega)

end Go.Proofs.YticbbncdcannlaaGreat

/- The law's steps, walked: plain: get. -/
namespace Go.Proofs.YticbbncdcannlaaGreat
open Go.RowKit

set_option maxRecDepth 100000 in
set_option maxHeartbeats 2000000 in
theorem plain_get {R : Tags → Nat → World → Nat → Sp → Prop} (X : XC R) {T : Tags} {w : World} {p : Nat} {S : WS} {L : List SD} (hI : Inv R T w p S L) {i : Nat} {d : SD} (hd : L[i]? = some d) (hσ : d.σx = d.σy) (oH oA oB oC oD : Int) (vL : Value) (wh : Bool) (xs : List Int) (a : Option Addr) (n c : Nat) (hL : OpL T w vL a n c xs) (hA : IntKind.i64.wrap oA = oA)
    (hnt : S.turned.length + 1 ≤ 1000000000) (_hm : d.σy.arrs.length + 1 ≤ 100000000) (_hb : d.σy.bufs.length + 1 ≤ 100000000) :
    Calls Tryz.prog 75 #[.pointer (some ⟨p, 0, none⟩), .pointer (some ⟨d.sb, 0, none⟩), .agg #[.int .i64 3, .int .i64 oH, .int .i64 oA, .int .i64 oB, .int .i64 oC, .int .i64 oD, vL, .bool wh]] w fun e w' => e = .returned (.bool true) ∧ Went R T w p S (L.set i { d with σx := d.σy, σy := d.σy }) 0 1 w' := by
  have hsd := hI.side i d hd
  have z0 : w.cell? ⟨d.sb, 0, none⟩ = some (.pointer (some ⟨d.px, 0, none⟩)) := by simp [World.cell?, hsd.blk]
  have z1 : w.cell? ⟨d.sb, 1, none⟩ = some (.pointer (some ⟨d.py, 0, none⟩)) := by simp [World.cell?, hsd.blk]
  have hsb : d.sb < w.heap.size := lt_of_heap hsd.blk
  obtain ⟨rfl, hlen, hrd, htag, hbig⟩ := hL
  have HRD := hid hrd
  have HTAG := hid htag
  have HLEN := hid hlen
  have HI := hid hI
  have HD := hid hd
  have HX := hid X
  have HS := hid hσ
  have HSD := hid hsd
  have HA := hid hA
  clear hI hd hσ hsd X hrd htag hlen hA
  obtain ⟨T1, hT1⟩ : ∃ T1, retag w T (5, 9) = T1 := ⟨_, rfl⟩
  have HT1 : Hid (TagsTo w T T1) := hid (by rw [← hT1]; exact retag_to w T _)
  have HNEW : Hid (∀ b, w.heap.size ≤ b → T1 b = (5, 9)) := hid (fun b hb => by rw [← hT1]; exact retag_new hb)
  clear hT1
  have HLENT : Hid (∀ y, Calls Tryz.prog 104 #[.slice a n c] (w.alloc y) fun e w' => e = .returned (.slice (some ⟨w.heap.size + 1, 0, none⟩) (n + 1) (n + 1)) ∧ w' = (w.alloc y).alloc (.cells (ints (xs ++ [0])).toArray 3)) := hid (fun y =>
    (lent_calls _ xs (w.alloc y) (HRD.out.kp0 (Kp.alloc (Kp.refl _ _) _)) (by have := HLEN.out; omega)).mono (by
      rintro e w' ⟨rfl, rfl⟩
      rw [HLEN.out]
      exact ⟨by simp, rfl⟩))
  go_enter Tryz.func75, Tryz.ntmps75
  go_wp2_with fail
  refine (HLENT.out _).mono ?_
  rintro e w2 ⟨rfl, hw2⟩
  have HK2 : Hid (Kp0 w w2) := hid (by rw [hw2]; exact Kp.alloc (Kp.alloc (Kp.refl _ _) _) _)
  have hg2 : w2.heap[w.heap.size + 1]? = some (.cells (ints (xs ++ [0])).toArray 3 (0, 0)) := by
    rw [hw2]
    have := heap_alloc_new (w.alloc (.cells #[.int .i64 3, .int .i64 oH, .int .i64 oA, .int .i64 oB, .int .i64 oC, .int .i64 oD, .slice a n c, .bool wh] 87)) (.cells (ints (xs ++ [0])).toArray 3)
    simpa using this
  have hbox : w2.heap[w.heap.size]? = some (.cells #[.int .i64 3, .int .i64 oH, .int .i64 oA, .int .i64 oB, .int .i64 oC, .int .i64 oD, .slice a n c, .bool wh] 87 (0, 0)) := by
    rw [hw2, Below.heap_alloc _ _ _ (by simp)]
    exact heap_alloc_new _ _
  have HG2 := hid hg2
  have HBOX := hid hbox
  have hs2 : w.heap.size + 1 < w2.heap.size := lt_of_heap hg2
  have b0 : w2.cell? ⟨w.heap.size, 0, none⟩ = some (.int .i64 3) := by simp [World.cell?, hbox]
  have b1 : w2.cell? ⟨w.heap.size, 1, none⟩ = some (.int .i64 oH) := by simp [World.cell?, hbox]
  have b2 : w2.cell? ⟨w.heap.size, 2, none⟩ = some (.int .i64 oA) := by simp [World.cell?, hbox]
  have b6 : w2.cell? ⟨w.heap.size, 6, none⟩ = some (.slice a n c) := by simp [World.cell?, hbox]
  have y0 := HK2.out.cell z0
  have y1 := HK2.out.cell z1
  have HI2 := hid (HI.out.kp0 HX.out HT1.out HK2.out)
  clear hw2 hg2 hbox z0 z1 HLENT
  go_wp2_with fail
  refine (hand_calls (w.heap.size + 1) n c a xs w2 HLEN.out (HRD.out.kp0 HK2.out) (by omega) HG2.out).mono ?_
  rintro e w2' ⟨⟨ai, ci, rfl, hin, hib⟩, hw⟩
  obtain rfl := hw.symm
  have HIN := hid hin
  have HIB : Hid (∀ b, (Value.slice ai n ci).ownBlock = some b → (T1 b).1 ≠ 10 + 2 * i) := hid (fun b hb => by
    have := hib b hb
    rw [this, HNEW.out _ (by omega)]
    simp; omega)
  clear hin hib
  have nn : Hid (∀ b, w.heap.size ≤ b → ¬ (T1 b).1 = 10 + 2 * i) := hid (fun b hb => by rw [HNEW.out b hb]; simp; omega)
  have ct : Hid (xs ≠ [] → ∀ b, (Value.slice a n c).ownBlock = some b → b < w.heap.size ∧ (T1 b).1 = 0) := hid (fun hx b hb => by
    have := HTAG.out hx b hb
    exact ⟨this.1, by rw [HT1.out b this.1]; exact this.2⟩)
  have HXC : Hid (∀ W, Kp0 w2 W → Calls Tryz.prog 37 #[.pointer (some ⟨d.px, 0, none⟩), .int .i64 oH, .slice ai n ci] W fun e w3 => e = .returned (.tuple #[.int .i64 (d.σx.get oH xs).1, .int .i64 (d.σx.get oH xs).2]) ∧ ∃ T3, TagsTo w2 T1 T3 ∧ Inv R T3 w3 p S (L.set i { d with σx := d.σx }) ∧ Kp (fun b => (T1 b).1 = 10 + 2 * i) w2 w3) := hid (fun W kW => by
    have hIW := HI2.out.kp0 HX.out (fun _ _ => rfl) kW
    refine (HX.out.get oH _ xs (hIW.side i d HD.out).x (HIN.out.kp0 kW) HIB.out (by have := HLEN.out; omega)).mono ?_
    rintro e w3 ⟨rfl, T3, ht3, hr3, hk3⟩
    exact ⟨rfl, T3, fun b hb => ht3 b (Nat.lt_of_lt_of_le hb kW.size), hIW.stepX HX.out HD.out ht3 hr3 hk3, (Kp.of0 kW).trans hk3 (fun _ _ e => e)⟩)
  have HD3 : Hid ((L.set i { d with σx := d.σx })[i]? = some { d with σx := d.σx }) := hid (by
    rw [List.getElem?_set]
    have : i < L.length := by
      have h := HD.out
      rcases Nat.lt_or_ge i L.length with h' | h'
      · exact h'
      · rw [List.getElem?_eq_none h'] at h; cases h
    simp [this])
  go_wp2
  go_region_held3 (fun w' => w'.cell? ⟨d.sb, 0, none⟩ = some (.pointer (some ⟨d.px, 0, none⟩)) ∧ w'.cell? ⟨w.heap.size, 1, none⟩ = some (.int .i64 oH)) (first | go_keep | (go_split_ands; exact ⟨hk3.cell y0 (by rw [HT1.out _ hsb, HSD.out.tag]; simp; omega), hk3.cell b1 (nn.out _ (Nat.le_refl _))⟩))
    ((go_at_call 37; refine (HXC.out _ ?_).mono ?_; (first | exact Kp0.refl _ | exact Kp0.drew (Kp0.refl _)); rintro e w3 ⟨rfl, T3, ht3, hI3, hk3⟩))
  have d0 := hk3.cell b0 (nn.out _ (Nat.le_refl _))
  have d1 := hk3.cell b1 (nn.out _ (Nat.le_refl _))
  have d2 := hk3.cell b2 (nn.out _ (Nat.le_refl _))
  have d6 := hk3.cell b6 (nn.out _ (Nat.le_refl _))
  have x1 := hk3.cell y1 (by rw [HT1.out _ hsb, HSD.out.tag]; simp; omega)
  have HG3 := hid (hk3.heap HG2.out (nn.out _ (by omega)))
  have hs3 : w2.heap.size ≤ w3.heap.size := hk3.size
  have HRD3 := hid ((HRD.out.kp0 HK2.out).kpne hk3 (fun hx b hb e => by have := (ct.out hx b hb).2; omega))
  have HI3 := hid hI3
  have HT3 := hid ht3
  have HK3 := hid hk3
  clear ht3 hI3 hk3 b0 b1 b2 b6 y0 y1 HXC
  have HYC : Hid (∀ W, Kp0 w3 W → Calls Tryz.prog 108 #[.pointer (some ⟨d.py, 0, none⟩), .int .i64 oH, .slice a n c] W fun e w4 => e = .returned (.tuple #[.int .i64 (d.σy.get oH xs).1, .int .i64 (d.σy.get oH xs).2]) ∧ ∃ T4, TagsTo w3 T3 T4 ∧ Inv R T4 w4 p S ((L.set i { d with σx := d.σx }).set i { { d with σx := d.σx } with σy := d.σy }) ∧ Kp (fun b => (T3 b).1 = 11 + 2 * i) w3 w4) := hid (fun W kW => by
    have hIW := HI3.out.kp0 HX.out (fun _ _ => rfl) kW
    refine (yget_calls (hIW.side i _ HD3.out).y oH _ xs (HRD3.out.kp0 kW)).mono ?_
    rintro e w4 ⟨rfl, hst4⟩
    obtain ⟨T4, ht4, hr4, hk4⟩ := (YStep.same (hIW.side i _ HD3.out).y hst4).step
    exact ⟨rfl, T4, fun b hb => ht4 b (Nat.lt_of_lt_of_le hb kW.size), hIW.stepY HX.out HD3.out ht4 hr4 hk4, (Kp.of0 kW).trans hk4 (fun _ _ e => e)⟩)
  have nn4 : Hid (∀ b, w.heap.size ≤ b → b < w2.heap.size → ¬ (T3 b).1 = 11 + 2 * i) := hid (fun b hb hb2 => by rw [HT3.out b hb2, HNEW.out b hb]; simp; omega)
  go_wp2
  go_region_held3 (fun w' => w'.cell? ⟨d.sb, 1, none⟩ = some (.pointer (some ⟨d.py, 0, none⟩)) ∧ w'.cell? ⟨w.heap.size, 1, none⟩ = some (.int .i64 oH) ∧ w'.cell? ⟨w.heap.size, 6, none⟩ = some (.slice a n c)) (first | go_keep | (go_split_ands; exact ⟨hk4.cell x1 (by rw [HT3.out _ (by simp; omega), HT1.out _ hsb, HSD.out.tag]; simp; omega), hk4.cell d1 (nn4.out _ (Nat.le_refl _) (by simp; omega)), hk4.cell d6 (nn4.out _ (Nat.le_refl _) (by simp; omega))⟩))
    ((go_at_call 108; refine (HYC.out _ ?_).mono ?_; (first | exact Kp0.refl _ | exact Kp0.drew (Kp0.refl _)); rintro e w4 ⟨rfl, T4, ht4, hI4, hk4⟩))
  have d0' := hk4.cell d0 (nn4.out _ (Nat.le_refl _) (by simp; omega))
  have d6' := hk4.cell d6 (nn4.out _ (Nat.le_refl _) (by simp; omega))
  have HG4 := hid (hk4.heap HG3.out (nn4.out _ (by omega) hs2))
  have hs4 : w3.heap.size ≤ w4.heap.size := hk4.size
  have HRD4 := hid (HRD3.out.kpne hk4 (fun hx b hb e => by
    have := ct.out hx b hb
    rw [HT3.out b (by omega)] at e
    omega))
  have HI4 := hid hI4
  have HT4 := hid ht4
  have HK4 := hid hk4
  have HCT := hid ct.out
  clear ht4 hI4 hk4 d0 d1 d2 d6 HYC
  have HT41 : Hid (∀ b, b < w2.heap.size → T4 b = T1 b) := hid (fun b hb => by rw [HT4.out b (by omega), HT3.out b hb])
  go_wp2_with fail
  refine (returned_calls HI4.out.wat (w.heap.size + 1) n _ xs HLEN.out (by omega) HRD4.out HG4.out (by rw [HT41.out _ hs2]; exact HNEW.out _ (by omega)) (fun hx b hb => by
      have := HCT.out hx b hb
      rw [HT41.out b (by omega)]
      omega) hnt (fun j v hv e => by have := HI.out.wat.lt hv e; omega) (fun j v hv e => by have := HI.out.wat.ltt hv e; omega)).mono ?_
  rintro e w5 ⟨rfl, T5, vt, ht5, hw5, hk5⟩
  have HI5 := hid (HI4.out.stepW HX.out ht5 hw5 rfl hk5)
  have HT5 := hid ht5
  have HK5 := hid hk5
  clear ht5 hw5 hk5
  have q1 : ((d.σx.get oH xs).1 == (d.σy.get oH xs).1) = true := by rw [HS.out]; simp
  have q2 : ((d.σx.get oH xs).2 == (d.σy.get oH xs).2) = true := by rw [HS.out]; simp
  go_wp2
  go_ret
  have hLL : (L.set i { d with σx := d.σx }).set i { { d with σx := d.σx } with σy := d.σy } = L.set i { d with σx := d.σy, σy := d.σy } := by
    first | rw [List.set_set, HS.out] | (rw [List.set_set]; show L.set i ⟨d.sb, d.px, d.py, d.σx, d.σy⟩ = _; rw [HS.out])
  have hI5 := HI5.out
  rw [hLL] at hI5
  have s2 := HK2.out.size
  refine ⟨ret_bool (by simp), T5, _, fun b hb => by rw [HT5.out b (by omega), HT41.out b (by omega), HT1.out b hb], hI5, Nat.le_refl _, by simp [WS.turn], by simp [WS.turn], ?_⟩
  have k3 : Kp (fun b => 5 ≤ (T b).1) w w3 := (Kp.of0 HK2.out).trans HK3.out (fun b hb e => by rw [HT1.out b hb] at e; omega)
  have k4 : Kp (fun b => 5 ≤ (T b).1) w w4 := k3.trans HK4.out (fun b hb e => by rw [HT3.out b (by omega), HT1.out b hb] at e; omega)
  exact k4.trans HK5.out (fun b hb e => by rw [HT41.out b (by omega), HT1.out b hb] at e; omega)

end Go.Proofs.YticbbncdcannlaaGreat
