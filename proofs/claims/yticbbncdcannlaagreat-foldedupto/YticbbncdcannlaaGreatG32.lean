/- Views: the program's state against the document's; Cut, Turn in the document's words. -/
import Derived.Test.YticbbncdcannlaaGreatG31
import Derived.Test.YticbbncdcannlaaGreatG22
import Derived.Test.YticbbncdcannlaaGreatG28
import Derived.Test.YticbbncdcannlaaGreatG29

namespace Go.Proofs.YticbbncdcannlaaGreat
open Go.RowKit

theorem lay_used {σ : Sp} {arr : Arr} (hu : σ.used arr.buf = true) (i : Nat) : (σ.lay arr).used i = σ.used i := by
  have e : (σ.lay arr).used i = (σ.used i || (arr.buf == i)) := by
    unfold Sp.used usedTo Sp.lay
    rw [List.take_length, List.take_length, List.any_append]
    simp
  rw [e]
  by_cases h : arr.buf = i
  · rw [← h, hu]; rfl
  · have : (arr.buf == i) = false := by simpa using h
    rw [this, Bool.or_false]

theorem lay_find (σ : Sp) (arr : Arr) (d : Int) : (σ.lay arr).find d = if d = (σ.arrs.length : Int) + 1 then some arr else σ.find d := by
  unfold Sp.find Sp.lay
  by_cases hd : 1 ≤ d
  · rw [if_pos hd, if_pos hd]
    unfold List.getD
    rw [List.getElem?_append]
    by_cases e : d = (σ.arrs.length : Int) + 1
    · rw [if_pos e, if_neg (by unfold ix; omega), show ix d - σ.arrs.length = 0 by unfold ix; omega]
      rfl
    · rw [if_neg e]
      split
      · rfl
      · rename_i hn
        have h1 : ([some arr] : List (Option Arr))[ix d - σ.arrs.length]? = none := List.getElem?_eq_none (by unfold ix at *; simp; omega)
        rw [h1, List.getElem?_eq_none (Nat.le_of_not_lt hn)]
  · rw [if_neg hd, if_neg hd, if_neg (by omega)]

theorem lay_live (σ : Sp) (arr : Arr) : (σ.lay arr).live = σ.live + 1 := by
  unfold Sp.live Sp.lay
  rw [List.filter_append]
  simp

theorem lay_taken {σ : Sp} {arr : Arr} (hu : σ.used arr.buf = true) (k c : Int) : (σ.lay arr).taken k c = σ.taken k c := by
  rw [Bool.eq_iff_iff, taken_iff, taken_iff]
  simp only [lay_used hu]
  rfl

theorem KTie.lay {σ : Sp} {k : Int} {c : List Int} {bs : List (Int × Int)} {arr : Arr} (h : KTie σ k c bs) (hu : σ.used arr.buf = true) : KTie (σ.lay arr) k c bs := by
  refine ⟨h.len, h.sorted, h.inn, fun s z => ?_, fun j hj => ?_, h.wf1, h.wf2⟩
  · rw [h.mem s z]
    simp only [lay_used hu]
    rfl
  · rw [lay_taken hu]
    exact h.val j hj

theorem Tie.view {X : XS} {L L' : XL} {σ : Sp} (hT : Tie X (Maps.size L.D) σ) (hmap : Maps.Tidy L.D) (hent : XMap L.D X.A) (arr : Arr) (y : XA) (hu : σ.used arr.buf = true) (hy : ATie (σ.lay arr) arr y)
    (hD : L'.D = L.D.put (.int .i64 ((X.last : Int) + 1)) (.held (.agg y.cs))) : Tie (X.more y) (Maps.size L'.D) (σ.lay arr) := by
  refine ⟨?_, hT.k1.lay hu, hT.k2.lay hu, fun d hd => ?_, fun d a hd => ?_, ?_, ?_⟩
  · simp [XS.more, Sp.lay, hT.last]
  · rw [lay_find] at hd
    have e1 : ¬ d = (σ.arrs.length : Int) + 1 := fun e => by rw [if_pos e] at hd; cases hd
    rw [if_neg e1] at hd
    show (if d = (X.last : Int) + 1 then _ else _) = none
    rw [if_neg (by rw [hT.last]; exact e1)]
    exact hT.non d hd
  · rw [lay_find] at hd
    by_cases e1 : d = (σ.arrs.length : Int) + 1
    · rw [if_pos e1] at hd
      injection hd with hd
      subst hd
      refine ⟨y, ?_, hy⟩
      show (if d = (X.last : Int) + 1 then _ else _) = _
      rw [if_pos (by rw [hT.last]; exact e1)]
    · rw [if_neg e1] at hd
      obtain ⟨x, hx, hax⟩ := hT.som d a hd
      refine ⟨x, ?_, ⟨hax.kind, hax.ro, hax.l, hax.g, hax.cells, hax.buf⟩⟩
      show (if d = (X.last : Int) + 1 then _ else _) = _
      rw [if_neg (by rw [hT.last]; exact e1)]
      exact hx
  · rw [lay_live, hD, Maps.size_put hmap, hT.live]
    have : Maps.has L.D (.int .i64 ((X.last : Int) + 1)) = false := by
      refine hent.non _ (hT.non _ ?_)
      unfold Sp.find
      rw [if_pos (by omega), hT.last]
      unfold List.getD
      rw [List.getElem?_eq_none (by unfold ix; omega)]
      rfl
    rw [this]; rfl
  · intro i j b c hb hc hi hj
    rw [lay_used hu] at hi hj
    exact hT.apart i j b c hb hc hi hj

/-- A view of an array that is there, as the document has it and as the program has it. -/
theorem ATie.view {σ : Sp} {a : Arr} {x : XA} (h : ATie σ a x) (s t' : List Int) (f' : Int) (hs : okShape s) (ht : t'.length ≤ s.length) (hu : ∀ k, k < s.length → nth s k = 1 → nth t' k = 0) (φ : List Int → List Int) (hin : ∀ i, inB s i → inB a.shape (φ i)) (hd : ∀ i, inB s i → f' + dotTo i t' s.length = x.f + dotTo (φ i) x.t a.shape.length) (read : Bool) (y : XA) (hy : y = { x.seen s t' f' with ro := x.ro || read }) :
    ATie (σ.lay ⟨a.kind, s, picked a.cells ((List.range (vol s).toNat).map fun r : Nat => rank a.shape (φ (idx s r))), a.ro || read, a.buf⟩) ⟨a.kind, s, picked a.cells ((List.range (vol s).toNat).map fun r : Nat => rank a.shape (φ (idx s r))), a.ro || read, a.buf⟩ y := by
  subst hy
  have hl := h.l
  rw [← hl] at hin hd ⊢
  have hg := h.g.view hs ht hu φ hin hd
  have hgc := gc_view h.g.shape.2.1 hs.2.1 φ hin hd
  refine ⟨h.kind, ?_, rfl, hg, ?_, ?_⟩
  · show (x.ro || read) = (a.ro || read)
    rw [h.ro]
  · show gc s t' f' s.length = _
    rw [hgc, h.cells]
  · obtain ⟨b, hb, hx, hk, hc⟩ := h.buf
    refine ⟨b, hb, hx, hk, fun j hj => ?_⟩
    have hj' : j < ((List.range (vol s).toNat).map fun r : Nat => rank x.l (φ (idx s r))).length := by simpa [picked] using hj
    show b.at' ≤ nth (picked a.cells _) j ∧ nth (picked a.cells _) j < _
    rw [picked_nth _ _ _ hj']
    have := (gc_rank (t := x.t) (f := x.f) h.g.shape.2.1 φ hin hs.2.1 j hj').2
    rw [h.cells] at this
    exact hc _ this

/-- makeView in the document's words. -/
theorem xc_view {T : Tags} {o : Nat} {w : World} {p : Nat} {σ : Sp} (hok : σ.ok) {L : XL} {X : XS} (hX : XAt T o w p L X) (hT : Tie X (Maps.size L.D) σ) {h : Int} {a : Arr} {x : XA} (hf : σ.find h = some a) (hx : ATie σ a x) (s t' : List Int) (f' : Int) (hs : okShape s) (ht : t'.length ≤ s.length) (hu : ∀ k, k < s.length → nth s k = 1 → nth t' k = 0) (φ : List Int → List Int) (hin : ∀ i, inB s i → inB a.shape (φ i)) (hd : ∀ i, inB s i → f' + dotTo i t' s.length = x.f + dotTo (φ i) x.t a.shape.length) (read : Bool) (z : XA) (hz : z = { x with ro := x.ro || read }) (hm : σ.arrs.length + 1 ≤ 100000000)
    (R : Sp × Int × Int) (hR : R = σ.derive a s ((List.range (vol s).toNat).map fun r : Nat => rank a.shape (φ (idx s r))) read) :
    ∀ W, Kp0 w W → Calls Tryz.prog 54 #[.pointer (some ⟨p, 0, none⟩), .agg z.cs, .agg (grC s t' f').toArray] W fun e w' => ∃ a b, e = .returned (.tuple #[.int .i64 a, .int .i64 b]) ∧ ((a = R.2.1 ∧ b = R.2.2) ∧ Step XRep T o w p R.1 w') := by
  intro W k
  have hXW := hX.kp0 k
  have ha := kind_of hok hf
  have hrk : ∀ j, j < ((List.range (vol s).toNat).map fun r : Nat => rank a.shape (φ (idx s r))).length → 0 ≤ nth ((List.range (vol s).toNat).map fun r : Nat => rank a.shape (φ (idx s r))) j ∧ nth ((List.range (vol s).toNat).map fun r : Nat => rank a.shape (φ (idx s r))) j < a.cells.length := fun j hj => by
    have := gc_rank (t := x.t) (f := x.f) ha.shape.2.1 φ hin hs.2.1 j hj
    rw [show gc a.shape x.t x.f a.shape.length = a.cells by rw [← hx.l]; exact hx.cells] at this
    omega
  have hv := vol_bd s hs.2.1 hs.1 s.length (Nat.le_refl _)
  rw [List.take_length] at hv
  have hdo := derive_ok hok ha s ((List.range (vol s).toNat).map fun r : Nat => rank a.shape (φ (idx s r))) hs (by simp; omega) hrk read hm
  rw [← hR] at hdo
  by_cases hl : 40 ≤ σ.live
  · have hR' : R = (σ, 0, 7) := by rw [hR, Sp.derive, if_pos hl]
    rw [hR']
    refine (xmakeView_many hXW z s t' f' (by rw [hT.live]; exact hl)).mono ?_
    rintro e w' ⟨rfl, hk'⟩
    exact ⟨0, 7, rfl, ⟨rfl, rfl⟩, XRep.stay ⟨hok, L, X, hX, hT⟩ (Kp0.trans k hk')⟩
  · have hR' : R = (σ.lay ⟨a.kind, s, picked a.cells ((List.range (vol s).toNat).map fun r : Nat => rank a.shape (φ (idx s r))), a.ro || read, a.buf⟩, (σ.arrs.length : Int) + 1, 0) := by rw [hR, Sp.derive, if_neg hl]
    rw [hR'] at hdo ⊢
    refine (xmakeView_yes hXW z s t' f' (by rw [hT.live]; exact hl) (by rw [hT.last]; omega)).mono ?_
    rintro e w' ⟨rfl, hk', hX'⟩
    have hat := hx.view s t' f' hs ht hu φ hin hd read (z.seen s t' f') (by rw [hz]; rfl)
    refine ⟨_, _, rfl, ⟨by rw [hT.last], rfl⟩, T, fun _ _ => rfl, ⟨hdo, _, _, hX', ?_⟩, (Kp.of0 k).trans hk' (fun _ _ e => e)⟩
    have hub := used_of hf
    exact hT.view (hX.map.tidy Tryz.lawInt) hX.ent _ _ hub hat rfl

end Go.Proofs.YticbbncdcannlaaGreat

/- The program's space, walked: findAll. -/
namespace Go.Proofs.YticbbncdcannlaaGreat
open Go.RowKit Go.Maps Go.ChangeMaps Go.MapKept

theorem Tryz.mkArr1 (W : World) : (Instr.makeSlice 99 (.int .i64 1) (.int .i64 1)).run Tryz.prog W = .ok (.slice (some ⟨W.heap.size, 0, none⟩) 1 1) (W.alloc (.cells xaZ 109)) := by kernel_rfl
theorem Tryz.mkArr2 (W : World) : (Instr.makeSlice 99 (.int .i64 2) (.int .i64 2)).run Tryz.prog W = .ok (.slice (some ⟨W.heap.size, 0, none⟩) 2 2) (W.alloc (.cells (xaZ ++ xaZ) 109)) := by kernel_rfl
theorem Tryz.mkVal1 (W : World) : (Instr.makeSlice 25 (.int .i64 1) (.int .i64 1)).run Tryz.prog W = .ok (.slice (some ⟨W.heap.size, 0, none⟩) 1 1) (W.alloc (.cells #[.slice none 0 0] 26)) := by kernel_rfl
set_option maxRecDepth 100000 in
set_option maxHeartbeats 4000000 in
theorem xfindAll1_no0 {T : Tags} {o : Nat} {w : World} {p : Nat} {L : XL} {X : XS} (h : XAt T o w p L X) (a : Int) (vh : Value) (hr : RdI w vh [a]) (hn : X.A a = none) :
    Calls Tryz.prog 50 #[.pointer (some ⟨p, 0, none⟩), vh] w fun e w' => e = .returned (.tuple #[.slice none 0 0, .int .i64 2]) ∧ Kp0 w w' := by
  obtain ⟨A, c, rfl, hp⟩ := rd_parts hr
  obtain ⟨g0, o0, rfl, hc⟩ := hp (by simp)
  have r0 : w.cell? ⟨g0, o0, none⟩ = some (.int .i64 a) := hc 0 (by simp)
  have HF0 : Hid (∀ W, Kp0 w W → Calls Tryz.prog 52 #[.pointer (some ⟨p, 0, none⟩), .int .i64 a] W fun e w' => e = .returned (.tuple #[.agg xaZ, .nilIface, .int .i64 2]) ∧ Kp0 W w') := fun W k => xfind_none (h.kp0 k) a hn
  have hmk := Tryz.mkArr1
  have HB0 : Hid ((w.alloc (.cells xaZ 109)).heap[w.heap.size]? = some (.cells xaZ 109 (0, 0))) := heap_alloc_new w _
  have HK0 : Hid (Kp0 w (w.alloc (.cells xaZ 109))) := (Kp.refl _ w).alloc _
  clear h hr hp hc hn
  go_enter Tryz.func50, Tryz.ntmps50
  go_wp2
  generalize w.alloc (.cells xaZ 109) = W at HB0 HK0 ⊢
  obtain ⟨b0, hb0⟩ : ∃ b0, w.heap.size = b0 := ⟨_, rfl⟩
  rw [hb0] at HB0 ⊢
  have HBB := hid hb0
  clear hb0 hmk
  go_loopw [17] (fun t w' => ((t = .int .i64 0 ∧ Hid (w'.heap[b0]? = some (.cells xaZ 109 (0, 0))))) ∧ Hid (Kp0 w w')) (fun t _ => 1 - (intOf t).toNat)
  case atStart => exact ⟨⟨rfl, HB0⟩, HK0⟩
  case round =>
    clear HB0 HK0
    obtain ⟨⟨rfl, HB⟩, HK⟩ := hrel
    have q1 := HK.out.cell r0
    go_wp2_with fail
    refine (HF0.out _ HK.out).mono ?_
    rintro e w2 ⟨rfl, hw⟩
    have HK2 : Hid (Kp0 w w2) := Kp0.trans HK.out hw
    clear hw q1
    unfold xaZ
    go_wp2
    go_ret2
    exact ⟨rfl, HK2.out.alloc _⟩

set_option maxRecDepth 100000 in
set_option maxHeartbeats 4000000 in
theorem xfindAll1_yes {T : Tags} {o : Nat} {w : World} {p : Nat} {L : XL} {X : XS} (h : XAt T o w p L X) (a : Int) (vh : Value) (hr : RdI w vh [a]) (x : XA) (hAx : X.A a = some x) (hkx : x.kind = 1 ∨ x.kind = 2) :
    Calls Tryz.prog 50 #[.pointer (some ⟨p, 0, none⟩), vh] w fun e w' => ∃ g, e = .returned (.tuple #[.slice (some ⟨g, 0, none⟩) 1 1, .int .i64 0]) ∧ Kp0 w w' ∧ w'.heap[g]? = some (.cells x.cs 109 (0, 0)) ∧ w.heap.size ≤ g := by
  obtain ⟨A, c, rfl, hp⟩ := rd_parts hr
  obtain ⟨g0, o0, rfl, hc⟩ := hp (by simp)
  have r0 : w.cell? ⟨g0, o0, none⟩ = some (.int .i64 a) := hc 0 (by simp)
  have HF0 : Hid (∀ W, Kp0 w W → Calls Tryz.prog 52 #[.pointer (some ⟨p, 0, none⟩), .int .i64 a] W fun e w' => ∃ I, e = .returned (.tuple #[.agg x.cs, I, .int .i64 0]) ∧ Kp0 W w') := fun W k => (xfind_some (h.kp0 k) a x hAx hkx).mono (fun e w' hh => ⟨_, hh⟩)
  have hmk := Tryz.mkArr1
  have HB0 : Hid ((w.alloc (.cells xaZ 109)).heap[w.heap.size]? = some (.cells xaZ 109 (0, 0))) := heap_alloc_new w _
  have HK0 : Hid (Kp0 w (w.alloc (.cells xaZ 109))) := (Kp.refl _ w).alloc _
  clear h hr hp hc hAx hkx
  go_enter Tryz.func50, Tryz.ntmps50
  go_wp2
  generalize w.alloc (.cells xaZ 109) = W at HB0 HK0 ⊢
  obtain ⟨b0, hb0⟩ : ∃ b0, w.heap.size = b0 := ⟨_, rfl⟩
  rw [hb0] at HB0 ⊢
  have HBB := hid hb0
  clear hb0 hmk
  go_loopw [17] (fun t w' => ((t = .int .i64 0 ∧ Hid (w'.heap[b0]? = some (.cells xaZ 109 (0, 0)))) ∨ (t = .int .i64 1 ∧ Hid (w'.heap[b0]? = some (.cells x.cs 109 (0, 0))))) ∧ Hid (Kp0 w w')) (fun t _ => 1 - (intOf t).toNat)
  case atStart => exact ⟨.inl ⟨rfl, HB0⟩, HK0⟩
  case round =>
    clear HB0 HK0
    obtain ⟨hrel, HK⟩ := hrel
    rcases hrel with ⟨rfl, HB⟩ | ⟨rfl, HB⟩
    · have q1 := HK.out.cell r0
      go_wp2_with fail
      refine (HF0.out _ HK.out).mono ?_
      rintro e w2 ⟨I, rfl, hw⟩
      have HK2 : Hid (Kp0 w w2) := Kp0.trans HK.out hw
      have HB2 := hid (hw.heap HB.out)
      have hlt : b0 < w2.heap.size := lt_of_heap HB2.out
      have HBW : Hid (∀ O, (w2.alloc O).heap[b0]? = _) := fun O => heap_alloc_keeps HB2.out O
      clear hw q1
      unfold XA.cs
      go_wp2_with (refine wpList_storeMid _ rfl 109 109 (.tmp 35) _ rfl b0 0 _ _ rfl rfl (HBW.out _) Tryz.szArr (by simp [xaZ]) (all13 rfl rfl rfl rfl rfl rfl rfl rfl rfl rfl rfl rfl rfl) ?_; intro w5 hB5 hK5)
      have HK5 : Hid (Kp0 w w5) := Kp.trans (HK2.out.alloc _) hK5 (fun i hi e => by have := HBB.out; omega)
      have HB5 : Hid (w5.heap[b0]? = some (.cells x.cs 109 (0, 0))) := hB5
      clear hB5 hK5
      go_wp2
      go_roundw
      case rel => exact ⟨.inr (⟨by go_num, HB5⟩), HK5⟩
      case measure => simp [intOf]
    · go_wp2
      go_ret2
      exact ⟨b0, rfl, HK.out, HB.out, by have := HBB.out; omega⟩

set_option maxRecDepth 100000 in
set_option maxHeartbeats 4000000 in
theorem xfindAll2_no0 {T : Tags} {o : Nat} {w : World} {p : Nat} {L : XL} {X : XS} (h : XAt T o w p L X) (a b : Int) (vh : Value) (hr : RdI w vh [a, b]) (hn : X.A a = none) :
    Calls Tryz.prog 50 #[.pointer (some ⟨p, 0, none⟩), vh] w fun e w' => e = .returned (.tuple #[.slice none 0 0, .int .i64 2]) ∧ Kp0 w w' := by
  obtain ⟨A, c, rfl, hp⟩ := rd_parts hr
  obtain ⟨g0, o0, rfl, hc⟩ := hp (by simp)
  have r0 : w.cell? ⟨g0, o0, none⟩ = some (.int .i64 a) := hc 0 (by simp)
  have r1 : w.cell? ⟨g0, o0 + 1, none⟩ = some (.int .i64 b) := hc 1 (by simp)
  have HF0 : Hid (∀ W, Kp0 w W → Calls Tryz.prog 52 #[.pointer (some ⟨p, 0, none⟩), .int .i64 a] W fun e w' => e = .returned (.tuple #[.agg xaZ, .nilIface, .int .i64 2]) ∧ Kp0 W w') := fun W k => xfind_none (h.kp0 k) a hn
  have hmk := Tryz.mkArr2
  have HB0 : Hid ((w.alloc (.cells (xaZ ++ xaZ) 109)).heap[w.heap.size]? = some (.cells (xaZ ++ xaZ) 109 (0, 0))) := heap_alloc_new w _
  have HK0 : Hid (Kp0 w (w.alloc (.cells (xaZ ++ xaZ) 109))) := (Kp.refl _ w).alloc _
  clear h hr hp hc hn
  go_enter Tryz.func50, Tryz.ntmps50
  go_wp2
  generalize w.alloc (.cells (xaZ ++ xaZ) 109) = W at HB0 HK0 ⊢
  obtain ⟨b0, hb0⟩ : ∃ b0, w.heap.size = b0 := ⟨_, rfl⟩
  rw [hb0] at HB0 ⊢
  have HBB := hid hb0
  clear hb0 hmk
  go_loopw [17] (fun t w' => ((t = .int .i64 0 ∧ Hid (w'.heap[b0]? = some (.cells (xaZ ++ xaZ) 109 (0, 0))))) ∧ Hid (Kp0 w w')) (fun t _ => 2 - (intOf t).toNat)
  case atStart => exact ⟨⟨rfl, HB0⟩, HK0⟩
  case round =>
    clear HB0 HK0
    obtain ⟨⟨rfl, HB⟩, HK⟩ := hrel
    have q1 := HK.out.cell r0
    go_wp2_with fail
    refine (HF0.out _ HK.out).mono ?_
    rintro e w2 ⟨rfl, hw⟩
    have HK2 : Hid (Kp0 w w2) := Kp0.trans HK.out hw
    clear hw q1
    unfold xaZ
    go_wp2
    go_ret2
    exact ⟨rfl, HK2.out.alloc _⟩

set_option maxRecDepth 100000 in
set_option maxHeartbeats 4000000 in
theorem xfindAll2_no1 {T : Tags} {o : Nat} {w : World} {p : Nat} {L : XL} {X : XS} (h : XAt T o w p L X) (a b : Int) (vh : Value) (hr : RdI w vh [a, b]) (x : XA) (hAx : X.A a = some x) (hkx : x.kind = 1 ∨ x.kind = 2) (hn : X.A b = none) :
    Calls Tryz.prog 50 #[.pointer (some ⟨p, 0, none⟩), vh] w fun e w' => e = .returned (.tuple #[.slice none 0 0, .int .i64 2]) ∧ Kp0 w w' := by
  obtain ⟨A, c, rfl, hp⟩ := rd_parts hr
  obtain ⟨g0, o0, rfl, hc⟩ := hp (by simp)
  have r0 : w.cell? ⟨g0, o0, none⟩ = some (.int .i64 a) := hc 0 (by simp)
  have r1 : w.cell? ⟨g0, o0 + 1, none⟩ = some (.int .i64 b) := hc 1 (by simp)
  have HF0 : Hid (∀ W, Kp0 w W → Calls Tryz.prog 52 #[.pointer (some ⟨p, 0, none⟩), .int .i64 a] W fun e w' => ∃ I, e = .returned (.tuple #[.agg x.cs, I, .int .i64 0]) ∧ Kp0 W w') := fun W k => (xfind_some (h.kp0 k) a x hAx hkx).mono (fun e w' hh => ⟨_, hh⟩)
  have HF1 : Hid (∀ W, Kp0 w W → Calls Tryz.prog 52 #[.pointer (some ⟨p, 0, none⟩), .int .i64 b] W fun e w' => e = .returned (.tuple #[.agg xaZ, .nilIface, .int .i64 2]) ∧ Kp0 W w') := fun W k => xfind_none (h.kp0 k) b hn
  have hmk := Tryz.mkArr2
  have HB0 : Hid ((w.alloc (.cells (xaZ ++ xaZ) 109)).heap[w.heap.size]? = some (.cells (xaZ ++ xaZ) 109 (0, 0))) := heap_alloc_new w _
  have HK0 : Hid (Kp0 w (w.alloc (.cells (xaZ ++ xaZ) 109))) := (Kp.refl _ w).alloc _
  clear h hr hp hc hAx hkx hn
  go_enter Tryz.func50, Tryz.ntmps50
  go_wp2
  generalize w.alloc (.cells (xaZ ++ xaZ) 109) = W at HB0 HK0 ⊢
  obtain ⟨b0, hb0⟩ : ∃ b0, w.heap.size = b0 := ⟨_, rfl⟩
  rw [hb0] at HB0 ⊢
  have HBB := hid hb0
  clear hb0 hmk
  go_loopw [17] (fun t w' => ((t = .int .i64 0 ∧ Hid (w'.heap[b0]? = some (.cells (xaZ ++ xaZ) 109 (0, 0)))) ∨ (t = .int .i64 1 ∧ Hid (w'.heap[b0]? = some (.cells (x.cs ++ xaZ) 109 (0, 0))))) ∧ Hid (Kp0 w w')) (fun t _ => 2 - (intOf t).toNat)
  case atStart => exact ⟨.inl ⟨rfl, HB0⟩, HK0⟩
  case round =>
    clear HB0 HK0
    obtain ⟨hrel, HK⟩ := hrel
    rcases hrel with ⟨rfl, HB⟩ | ⟨rfl, HB⟩
    · have q1 := HK.out.cell r0
      go_wp2_with fail
      refine (HF0.out _ HK.out).mono ?_
      rintro e w2 ⟨I, rfl, hw⟩
      have HK2 : Hid (Kp0 w w2) := Kp0.trans HK.out hw
      have HB2 := hid (hw.heap HB.out)
      have hlt : b0 < w2.heap.size := lt_of_heap HB2.out
      have HBW : Hid (∀ O, (w2.alloc O).heap[b0]? = _) := fun O => heap_alloc_keeps HB2.out O
      clear hw q1
      unfold XA.cs
      go_wp2_with (refine wpList_storeMid _ rfl 109 109 (.tmp 35) _ rfl b0 0 _ _ rfl rfl (HBW.out _) Tryz.szArr (by simp [xaZ]) (all13 rfl rfl rfl rfl rfl rfl rfl rfl rfl rfl rfl rfl rfl) ?_; intro w5 hB5 hK5)
      have HK5 : Hid (Kp0 w w5) := Kp.trans (HK2.out.alloc _) hK5 (fun i hi e => by have := HBB.out; omega)
      have HB5 : Hid (w5.heap[b0]? = some (.cells (x.cs ++ xaZ) 109 (0, 0))) := hB5
      clear hB5 hK5
      go_wp2
      go_roundw
      case rel => exact ⟨.inr (⟨by go_num, HB5⟩), HK5⟩
      case measure => simp [intOf]
    · have q1 := HK.out.cell r1
      go_wp2_with fail
      refine (HF1.out _ HK.out).mono ?_
      rintro e w2 ⟨rfl, hw⟩
      have HK2 : Hid (Kp0 w w2) := Kp0.trans HK.out hw
      clear hw q1
      unfold xaZ
      go_wp2
      go_ret2
      exact ⟨rfl, HK2.out.alloc _⟩

set_option maxRecDepth 100000 in
set_option maxHeartbeats 4000000 in
theorem xfindAll2_yes {T : Tags} {o : Nat} {w : World} {p : Nat} {L : XL} {X : XS} (h : XAt T o w p L X) (a b : Int) (vh : Value) (hr : RdI w vh [a, b]) (x : XA) (hAx : X.A a = some x) (hkx : x.kind = 1 ∨ x.kind = 2) (y : XA) (hAy : X.A b = some y) (hky : y.kind = 1 ∨ y.kind = 2) :
    Calls Tryz.prog 50 #[.pointer (some ⟨p, 0, none⟩), vh] w fun e w' => ∃ g, e = .returned (.tuple #[.slice (some ⟨g, 0, none⟩) 2 2, .int .i64 0]) ∧ Kp0 w w' ∧ w'.heap[g]? = some (.cells (x.cs ++ y.cs) 109 (0, 0)) ∧ w.heap.size ≤ g := by
  obtain ⟨A, c, rfl, hp⟩ := rd_parts hr
  obtain ⟨g0, o0, rfl, hc⟩ := hp (by simp)
  have r0 : w.cell? ⟨g0, o0, none⟩ = some (.int .i64 a) := hc 0 (by simp)
  have r1 : w.cell? ⟨g0, o0 + 1, none⟩ = some (.int .i64 b) := hc 1 (by simp)
  have HF0 : Hid (∀ W, Kp0 w W → Calls Tryz.prog 52 #[.pointer (some ⟨p, 0, none⟩), .int .i64 a] W fun e w' => ∃ I, e = .returned (.tuple #[.agg x.cs, I, .int .i64 0]) ∧ Kp0 W w') := fun W k => (xfind_some (h.kp0 k) a x hAx hkx).mono (fun e w' hh => ⟨_, hh⟩)
  have HF1 : Hid (∀ W, Kp0 w W → Calls Tryz.prog 52 #[.pointer (some ⟨p, 0, none⟩), .int .i64 b] W fun e w' => ∃ I, e = .returned (.tuple #[.agg y.cs, I, .int .i64 0]) ∧ Kp0 W w') := fun W k => (xfind_some (h.kp0 k) b y hAy hky).mono (fun e w' hh => ⟨_, hh⟩)
  have hmk := Tryz.mkArr2
  have HB0 : Hid ((w.alloc (.cells (xaZ ++ xaZ) 109)).heap[w.heap.size]? = some (.cells (xaZ ++ xaZ) 109 (0, 0))) := heap_alloc_new w _
  have HK0 : Hid (Kp0 w (w.alloc (.cells (xaZ ++ xaZ) 109))) := (Kp.refl _ w).alloc _
  clear h hr hp hc hAx hkx hAy hky
  go_enter Tryz.func50, Tryz.ntmps50
  go_wp2
  generalize w.alloc (.cells (xaZ ++ xaZ) 109) = W at HB0 HK0 ⊢
  obtain ⟨b0, hb0⟩ : ∃ b0, w.heap.size = b0 := ⟨_, rfl⟩
  rw [hb0] at HB0 ⊢
  have HBB := hid hb0
  clear hb0 hmk
  go_loopw [17] (fun t w' => ((t = .int .i64 0 ∧ Hid (w'.heap[b0]? = some (.cells (xaZ ++ xaZ) 109 (0, 0)))) ∨ (t = .int .i64 1 ∧ Hid (w'.heap[b0]? = some (.cells (x.cs ++ xaZ) 109 (0, 0)))) ∨ (t = .int .i64 2 ∧ Hid (w'.heap[b0]? = some (.cells (x.cs ++ y.cs) 109 (0, 0))))) ∧ Hid (Kp0 w w')) (fun t _ => 2 - (intOf t).toNat)
  case atStart => exact ⟨.inl ⟨rfl, HB0⟩, HK0⟩
  case round =>
    clear HB0 HK0
    obtain ⟨hrel, HK⟩ := hrel
    rcases hrel with ⟨rfl, HB⟩ | ⟨rfl, HB⟩ | ⟨rfl, HB⟩
    · have q1 := HK.out.cell r0
      go_wp2_with fail
      refine (HF0.out _ HK.out).mono ?_
      rintro e w2 ⟨I, rfl, hw⟩
      have HK2 : Hid (Kp0 w w2) := Kp0.trans HK.out hw
      have HB2 := hid (hw.heap HB.out)
      have hlt : b0 < w2.heap.size := lt_of_heap HB2.out
      have HBW : Hid (∀ O, (w2.alloc O).heap[b0]? = _) := fun O => heap_alloc_keeps HB2.out O
      clear hw q1
      unfold XA.cs
      go_wp2_with (refine wpList_storeMid _ rfl 109 109 (.tmp 35) _ rfl b0 0 _ _ rfl rfl (HBW.out _) Tryz.szArr (by simp [xaZ]) (all13 rfl rfl rfl rfl rfl rfl rfl rfl rfl rfl rfl rfl rfl) ?_; intro w5 hB5 hK5)
      have HK5 : Hid (Kp0 w w5) := Kp.trans (HK2.out.alloc _) hK5 (fun i hi e => by have := HBB.out; omega)
      have HB5 : Hid (w5.heap[b0]? = some (.cells (x.cs ++ xaZ) 109 (0, 0))) := hB5
      clear hB5 hK5
      go_wp2
      go_roundw
      case rel => exact ⟨.inr (.inl ⟨by go_num, HB5⟩), HK5⟩
      case measure => simp [intOf]
    · have q1 := HK.out.cell r1
      go_wp2_with fail
      refine (HF1.out _ HK.out).mono ?_
      rintro e w2 ⟨I, rfl, hw⟩
      have HK2 : Hid (Kp0 w w2) := Kp0.trans HK.out hw
      have HB2 := hid (hw.heap HB.out)
      have hlt : b0 < w2.heap.size := lt_of_heap HB2.out
      have HBW : Hid (∀ O, (w2.alloc O).heap[b0]? = _) := fun O => heap_alloc_keeps HB2.out O
      clear hw q1
      unfold XA.cs
      go_wp2_with (refine wpList_storeMid _ rfl 109 109 (.tmp 35) _ rfl b0 13 _ _ rfl rfl (HBW.out _) Tryz.szArr (by simp [xaZ, XA.cs]) (all13 rfl rfl rfl rfl rfl rfl rfl rfl rfl rfl rfl rfl rfl) ?_; intro w5 hB5 hK5)
      have HK5 : Hid (Kp0 w w5) := Kp.trans (HK2.out.alloc _) hK5 (fun i hi e => by have := HBB.out; omega)
      have HB5 : Hid (w5.heap[b0]? = some (.cells (x.cs ++ y.cs) 109 (0, 0))) := hB5
      clear hB5 hK5
      go_wp2
      go_roundw
      case rel => exact ⟨.inr (.inr (⟨by go_num, HB5⟩)), HK5⟩
      case measure => simp [intOf]
    · go_wp2
      go_ret2
      exact ⟨b0, rfl, HK.out, HB.out, by have := HBB.out; omega⟩

end Go.Proofs.YticbbncdcannlaaGreat

/- Cut, Turn in the document's words. -/
namespace Go.Proofs.YticbbncdcannlaaGreat
open Go.RowKit

/-- The program's look at a cut is the document's. -/
theorem cutsP_iff (size start count step : Int) (hs : 1 ≤ size ∧ size ≤ 60) : cutsP size start count step = true ↔ step ≠ 0 ∧ 1 ≤ count ∧ count ≤ 60 ∧ cutR size start count step = true := by
  rw [cutR_iff]
  constructor
  · intro h
    unfold cutsP at h
    split at h
    · cases h
    split at h
    · cases h
    split at h
    · cases h
    split at h
    · cases h
    split at h
    · cases h
    rename_i h1 h2 h3 h4 h5
    split at h
    · rename_i h6
      refine ⟨h1, by omega, by omega, .inl (by omega), fun i hi => ?_⟩
      have : i = 0 := by omega
      subst this
      simp
      omega
    split at h
    · cases h
    split at h
    · cases h
    rename_i h6 h7 h8
    simp at h
    refine ⟨h1, by omega, by omega, .inr (by omega), fun i hi => ?_⟩
    have hi' : (i : Int) ≤ count - 1 := by omega
    have hi0 : (0 : Int) ≤ (i : Int) := by omega
    rcases Int.lt_or_lt_of_ne h1 with hn | hp
    · have a1 := Int.mul_le_mul_of_nonpos_right hi' (show step ≤ 0 by omega)
      have a2 := Int.mul_le_mul_of_nonpos_right hi0 (show step ≤ 0 by omega)
      omega
    · have a1 := Int.mul_le_mul_of_nonneg_right hi' (show 0 ≤ step by omega)
      have a2 := Int.mul_le_mul_of_nonneg_right hi0 (show 0 ≤ step by omega)
      omega
  · rintro ⟨h1, h2, h3, h4, h5⟩
    have b0 := h5 0 (by omega)
    simp at b0
    have hle : ((count.toNat : Nat) : Int) ≤ size := cut_le (by omega) h1 h5
    unfold cutsP
    rw [if_neg h1, if_neg (by omega), if_neg (by omega), if_neg (by omega), if_neg (by omega)]
    by_cases h6 : count = 1
    · rw [if_pos h6]
    · have b1 := h5 1 (by omega)
      simp at b1
      have b2 := h5 (count - 1).toNat (by omega)
      rw [show (((count - 1).toNat : Nat) : Int) = count - 1 by omega] at b2
      rw [if_neg h6, if_neg (by omega), if_neg (by omega)]
      simp
      exact b2

theorem cut_grid {l t : List Int} {f M start step : Int} {k cn : Nat} (hg : GOk l t f M) (hk : k < l.length) (hc : 1 ≤ cn) (h : ∀ i : Nat, i < cn → 0 ≤ start + (i : Int) * step ∧ start + (i : Int) * step < nth l k) :
    (0 ≤ f ∧ f ≤ 1000000) ∧ (-1000000 ≤ start * nth t k ∧ start * nth t k ≤ 1000000) ∧ ((cn : Int) ≠ 1 → IntKind.i64.wrap (step * nth t k) = step * nth t k) := by
  have hs := hg.shape.2.1
  have hf := first_in hs hg.inside
  have hM := hg.small
  have hp := gc_pos l t f hs k (by omega)
  have h0 := within_to hs hg.inside k (by omega) 0 hp
  have b0 := h 0 (by omega)
  simp at b0
  have s0 := step_in hs hg.inside k hk 0 start.toNat hp (by omega)
  rw [show ((start.toNat : Nat) : Int) = start by omega] at s0
  refine ⟨by omega, by omega, fun hn => ?_⟩
  have b1 := h 1 (by omega)
  simp at b1
  have s1 := step_in hs hg.inside k hk 0 (start + step).toNat hp (by omega)
  rw [show (((start + step).toNat : Nat) : Int) = start + step by omega, Int.add_mul] at s1
  simp [IntKind.wrap, IntKind.signed, IntKind.bits]
  omega

theorem xc_cut {T : Tags} {o : Nat} {w : World} {p : Nat} {σ : Sp} (h axis start count step : Int) (hR : XRep T o w p σ) (hm : σ.arrs.length + 1 ≤ 100000000) :
    Calls Tryz.prog 21 #[.pointer (some ⟨p, 0, none⟩), .int .i64 h, .int .i64 axis, .int .i64 start, .int .i64 count, .int .i64 step] w fun e w' => e = .returned (.tuple #[.int .i64 (σ.cut h axis start count step).2.1, .int .i64 (σ.cut h axis start count step).2.2]) ∧ Step XRep T o w p (σ.cut h axis start count step).1 w' := by
  have hR' := hR
  obtain ⟨hok, L, X, hX, hT⟩ := hR
  cases hf : σ.find h with
  | none =>
    have hres : σ.cut h axis start count step = (σ, 0, 2) := by simp [Sp.cut, hf]
    rw [hres]
    refine (xCut_none hX h axis start count step (hT.non h hf)).mono ?_
    rintro e w' ⟨rfl, hk⟩
    exact ⟨rfl, hR'.stay hk⟩
  | some a =>
    obtain ⟨x, hA, hx⟩ := hT.som h a hf
    have ha := kind_of hok hf
    have hkd : x.kind = 1 ∨ x.kind = 2 := by rw [hx.kind]; exact ha.kind
    have hl := hx.l
    have hs := hx.g.shape
    by_cases hax : 0 ≤ axis ∧ axis < (x.l.length : Int)
    · obtain ⟨k, rfl⟩ : ∃ k : Nat, axis = (k : Int) := ⟨axis.toNat, by omega⟩
      have hk : k < x.l.length := by omega
      have hsz := hs.2.1 k hk
      by_cases hc : cutsP (nth x.l k) start count step = true
      · obtain ⟨c1, c2, c3, c4⟩ := (cutsP_iff _ _ _ _ hsz).1 hc
        obtain ⟨cn, rfl⟩ : ∃ cn : Nat, count = (cn : Int) := ⟨count.toNat, by omega⟩
        have c5 := ((cutR_iff _ _ _ _).1 c4).2
        simp only [Int.toNat_natCast] at c5
        have hB : cutB a.shape (k : Int) start (cn : Int) step = true := by
          unfold cutB cutA
          rw [← hl, Int.toNat_natCast, c4]
          simp
          omega
        have hres : σ.cut h (k : Int) start (cn : Int) step = σ.derive a (a.shape.set k (cn : Int)) (cutRk a.shape k start (cn : Int) step) false := by
          simp only [Sp.cut, hf]
          rw [if_neg (by rw [hB]; simp), Int.toNat_natCast]
        have hcs := cut_shape hs hk (by omega) c1 c5
        obtain ⟨g1, g2, g3⟩ := cut_grid (step := step) hx.g hk (by omega) c5
        have hV := xc_view hok hX hT hf hx (a.shape.set k (cn : Int)) (cutT x.l x.t k cn step) (x.f + start * nth x.t k) (by rw [← hl]; exact hcs) (by unfold cutT; rw [mkL_length, ← hl, List.length_set]; exact Nat.le_refl _) (fun j hj hj1 => by
            rw [← hl] at hj hj1
            rw [List.length_set] at hj
            rw [cutT_nth hx.g.steps hk]
            rw [nth_setU hk] at hj1
            unfold upd at hj1 ⊢
            by_cases e : j = k
            · rw [if_pos e] at hj1 ⊢
              rw [stepOf, if_pos hj1]
            · rw [if_neg e] at hj1 ⊢
              exact hx.g.unit j hj hj1) (fun i => cutL i k start cn step) (fun i hi => by rw [← hl] at hi ⊢; exact cutL_in hs hk (by omega) c5 hi) (fun i hi => by rw [← hl] at hi ⊢; exact cut_dot hk (by omega) i hi) false x (by simp) hm _ hres
        have hG : Hid (∀ W, Kp0 w W → Calls Tryz.prog 55 #[.agg (grC x.l x.t x.f).toArray, .int .i64 (k : Int), .int .i64 start, .int .i64 (cn : Int), .int .i64 step] W fun e w' => e = .returned (.tuple #[.agg (grC (a.shape.set k (cn : Int)) (cutT x.l x.t k cn step) (x.f + start * nth x.t k)).toArray, .bool true]) ∧ Kp0 W w') := fun W _ => by
          rw [← hl]
          exact xgcut_yes x.l x.t x.f start step k cn W hk hs.1 hx.g.steps hs.2.1 hc g1 g2 g3
        refine (xCut_yes hX h (k : Int) start (cn : Int) step x hA hkd _ _ _ hG (hid hV)).mono ?_
        rintro e w' ⟨r1, r2, rfl, ⟨rfl, rfl⟩, hst⟩
        exact ⟨rfl, hst⟩
      · have hc' : cutsP (nth x.l k) start count step = false := by simpa using hc
        have hB : cutB a.shape (k : Int) start count step = false := by
          rw [← Bool.not_eq_true]
          intro e
          unfold cutB at e
          rw [← hl, Int.toNat_natCast] at e
          simp only [Bool.and_eq_true] at e
          obtain ⟨e1, e2⟩ := e
          obtain ⟨a1, a2, a3, a4, a5⟩ := (cutA_iff _ _ _ _).1 e1
          exact hc ((cutsP_iff _ _ _ _ hsz).2 ⟨a5, a3, a4, e2⟩)
        have hres : σ.cut h (k : Int) start count step = (σ, 0, 5) := by simp [Sp.cut, hf, hB]
        rw [hres]
        refine (xCut_no hX h (k : Int) start count step x hA hkd (hid (fun W _ => xgcut_no x.l x.t x.f start count step k W hk hs.1 hs.2.1 hc'))).mono ?_
        rintro e w' ⟨rfl, hk'⟩
        exact ⟨rfl, hR'.stay hk'⟩
    · have hb : (decide (0 ≤ axis) && decide (axis < (x.l.length : Int))) = false := by
        rw [← Bool.not_eq_true]; simp; omega
      have hB : cutB a.shape axis start count step = false := by
        rw [← Bool.not_eq_true]
        intro e
        unfold cutB at e
        rw [← hl] at e
        simp only [Bool.and_eq_true] at e
        obtain ⟨a1, a2, -⟩ := (cutA_iff _ _ _ _).1 e.1
        exact hax ⟨a1, a2⟩
      have hres : σ.cut h axis start count step = (σ, 0, 5) := by simp [Sp.cut, hf, hB]
      rw [hres]
      refine (xCut_no hX h axis start count step x hA hkd (hid (fun W _ => xgcut_axis x.l x.t x.f axis start count step W hb))).mono ?_
      rintro e w' ⟨rfl, hk'⟩
      exact ⟨rfl, hR'.stay hk'⟩

theorem xc_turn {T : Tags} {o : Nat} {w : World} {p : Nat} {σ : Sp} (h : Int) (va : Value) (ax : List Int) (hr : RdI w va ax) (hR : XRep T o w p σ) (hm : σ.arrs.length + 1 ≤ 100000000) :
    Calls Tryz.prog 20 #[.pointer (some ⟨p, 0, none⟩), .int .i64 h, va] w fun e w' => e = .returned (.tuple #[.int .i64 (σ.turn h ax).2.1, .int .i64 (σ.turn h ax).2.2]) ∧ Step XRep T o w p (σ.turn h ax).1 w' := by
  have hR' := hR
  obtain ⟨hok, L, X, hX, hT⟩ := hR
  cases hf : σ.find h with
  | none =>
    have hres : σ.turn h ax = (σ, 0, 2) := by simp [Sp.turn, hf]
    rw [hres]
    refine (xTurn_none hX h va (hT.non h hf)).mono ?_
    rintro e w' ⟨rfl, hk⟩
    exact ⟨rfl, hR'.stay hk⟩
  | some a =>
    obtain ⟨x, hA, hx⟩ := hT.som h a hf
    have ha := kind_of hok hf
    have hkd : x.kind = 1 ∨ x.kind = 2 := by rw [hx.kind]; exact ha.kind
    have hl := hx.l
    have hs := hx.g.shape
    cases hb : turnB a.shape.length ax with
    | false =>
      have hres : σ.turn h ax = (σ, 0, 4) := by simp [Sp.turn, hf, hb]
      rw [hres]
      rw [← hl] at hb
      refine (xTurn_no hX h va x hA hkd (hid (fun W k => xgturn_no x.l x.t ax x.f va W (hr.kp0 k) hs.1 hb))).mono ?_
      rintro e w' ⟨rfl, hk'⟩
      exact ⟨rfl, hR'.stay hk'⟩
    | true =>
      have hres : σ.turn h ax = σ.derive a (turnS a.shape ax) (turnRk a.shape ax) false := by simp [Sp.turn, hf, hb]
      rw [← hl] at hb
      obtain ⟨t1, t2⟩ := (turnB_iff _ _).1 hb
      have hts := turn_shape hs t1 t2
      have hV := xc_view hok hX hT hf hx (turnS a.shape ax) (turnS x.t ax) x.f (by rw [← hl]; exact hts) (by rw [turnS_length, turnS_length]; exact Nat.le_refl _) (fun j hj hj1 => by
          rw [turnS_length] at hj
          rw [turnS_nth _ _ _ hj] at hj1 ⊢
          rw [← hl] at hj1
          have := (t2 j (by omega)).1
          exact hx.g.unit _ (by omega) hj1) (fun i => turnTo a.shape.length ax i a.shape.length) (fun i hi => by
          rw [← hl] at hi ⊢
          exact ⟨(turnTo_length _ _ _ _).symm, turnTo_in hs t1 t2 hi x.l.length (Nat.le_refl _)⟩) (fun i hi => by
          rw [← hl, turnS_length, turn_dot t1 t2 i x.l.length (Nat.le_refl _), t1]) false x (by simp) hm _ hres
      have hG : Hid (∀ W, Kp0 w W → Calls Tryz.prog 53 #[.agg (grC x.l x.t x.f).toArray, va] W fun e w' => e = .returned (.tuple #[.agg (grC (turnS a.shape ax) (turnS x.t ax) x.f).toArray, .bool true]) ∧ Kp0 W w') := fun W k => by
        rw [← hl]
        exact xgturn_yes x.l x.t ax x.f _ va W (hr.kp0 k) hx.g hb
      refine (xTurn_yes hX h va x hA hkd _ _ _ hG (hid hV)).mono ?_
      rintro e w' ⟨r1, r2, rfl, ⟨rfl, rfl⟩, hst⟩
      exact ⟨rfl, hst⟩

end Go.Proofs.YticbbncdcannlaaGreat

/- makeWhole in the document's words, with the blocks of the stores. -/
namespace Go.Proofs.YticbbncdcannlaaGreat
open Go.RowKit

/-- The program's state behind a call, the stores where they were. -/
def StepQ (T : Tags) (o : Nat) (w : World) (p : Nat) (L : XL) (σ' : Sp) (w' : World) : Prop :=
  ∃ T' L' X', TagsTo w T T' ∧ σ'.ok ∧ XAt T' o w' p L' X' ∧ Tie X' (Maps.size L'.D) σ' ∧ Kp (fun b => (T b).1 = o) w w' ∧ L'.q1 = L.q1 ∧ L'.q2 = L.q2

theorem xc_whole {T : Tags} {o : Nat} {w : World} {p : Nat} {σ : Sp} {L : XL} {X : XS} (kind : Int) (s : List Int) (hok : σ.ok) (hX : XAt T o w p L X) (hT : Tie X (Maps.size L.D) σ) (hk : kind = 1 ∨ kind = 2) (hs : shapeB s = true) (hm : σ.arrs.length + 1 ≤ 100000000) (hb : σ.bufs.length + 1 ≤ 100000000) :
    ∀ W, Kp0 w W → Calls Tryz.prog 63 #[.pointer (some ⟨p, 0, none⟩), .int .i64 kind, L.inV kind, .agg (shC s).toArray] W fun e w' => e = .returned (.tuple #[.int .i64 (σ.make kind s).2.1, .int .i64 (σ.make kind s).2.2]) ∧ StepQ T o w p L (σ.make kind s).1 w' := by
  have hsh := (shapeB_iff s).1 hs
  have hv := vol_bd s hsh.2.1 hsh.1 s.length (Nat.le_refl _)
  rw [List.take_length] at hv
  have stay : ∀ {w'}, Kp0 w w' → StepQ T o w p L σ w' := fun k => ⟨T, L, X, fun _ _ => rfl, hok, hX.kp0 k, hT, Kp.of0 k, rfl, rfl⟩
  intro W k
  have hXW := hX.kp0 k
  by_cases hl : 40 ≤ σ.live
  · rw [make_many hk hs hl]
    refine (xwholeManyB hXW s (by rw [hT.live]; exact hl) kind (L.inV kind)).mono ?_
    rintro e w' ⟨rfl, hk'⟩
    exact ⟨rfl, stay (Kp0.trans k hk')⟩
  · have hl' : ¬ 40 ≤ Maps.size L.D := by rw [hT.live]; exact hl
    rcases hk with rfl | rfl
    · have hc1 : X.c1.length ≤ 10000 := by rw [hT.k1.len]; exact cap_le hok 1
      have hf1 := hT.k1.few
      have hpl := place_of hT.k1 (vol s) (by omega)
      obtain ⟨l1, l2, l3⟩ := low_bd (vol s) hT.k1.inn (by omega)
      by_cases hfit : (low (vol s) X.b1).1 + vol s ≤ (σ.cap 1 : Int)
      · rw [if_pos hfit] at hpl
        have hres : σ.make 1 s = (σ.made 1 (low (vol s) X.b1).1 s (vol s).toNat fun _ => 0, (σ.arrs.length : Int) + 1, 0) := by
          unfold Sp.make
          rw [if_neg (by omega), if_neg (by simp [hs]), if_neg hl, hpl, if_neg (by omega)]
        rw [hres]
        refine (xwholeOkB hXW s hsh hl' hT.k1.inn hc1 (by omega) (by rw [hT.k1.len]; exact hfit) (by rw [hT.last]; omega)).mono ?_
        rintro e w' ⟨rfl, hk', T', L', t, hTT, ht1, ht2, hX', hD, hq1, hq2, -⟩
        refine ⟨by rw [hT.last], T', L', _, fun b hb' => hTT b (Nat.lt_of_lt_of_le hb' k.size), ?_, hX', ?_, (Kp.of0 k).trans hk' (fun _ _ e => e), hq1, hq2⟩
        · exact made_ok hok 1 _ s _ (.inl rfl) hsh l1 (by rw [show (((vol s).toNat : Nat) : Int) = vol s by omega]; exact hfit) hm hb
        · exact hT.madeB hok (hX.map.tidy Tryz.lawInt) hX.ent s t hsh ht1 ht2 (by rw [hT.k1.len]; exact hfit) hD
      · rw [if_neg hfit] at hpl
        have hres : σ.make 1 s = (σ, 0, 8) := by
          unfold Sp.make
          rw [if_neg (by omega), if_neg (by simp [hs]), if_neg hl, hpl, if_pos (by omega)]
        rw [hres]
        refine (xwholeFullB hXW s hsh hl' hT.k1.inn hc1 (by omega) (by rw [hT.k1.len]; omega)).mono ?_
        rintro e w' ⟨rfl, hk'⟩
        exact ⟨rfl, stay (Kp0.trans k hk')⟩
    · have hc2 : X.c2.length ≤ 10000 := by rw [hT.k2.len]; exact cap_le hok 2
      have hf2 := hT.k2.few
      have hpl := place_of hT.k2 (vol s) (by omega)
      obtain ⟨l1, l2, l3⟩ := low_bd (vol s) hT.k2.inn (by omega)
      by_cases hfit : (low (vol s) X.b2).1 + vol s ≤ (σ.cap 2 : Int)
      · rw [if_pos hfit] at hpl
        have hres : σ.make 2 s = (σ.made 2 (low (vol s) X.b2).1 s (vol s).toNat fun _ => 0, (σ.arrs.length : Int) + 1, 0) := by
          unfold Sp.make
          rw [if_neg (by omega), if_neg (by simp [hs]), if_neg hl, hpl, if_neg (by omega)]
        rw [hres]
        refine (xwholeOkI hXW s hsh hl' hT.k2.inn hc2 (by omega) (by rw [hT.k2.len]; exact hfit) (by rw [hT.last]; omega)).mono ?_
        rintro e w' ⟨rfl, hk', T', L', t, hTT, ht1, ht2, hX', hD, hq1, hq2, -⟩
        refine ⟨by rw [hT.last], T', L', _, fun b hb' => hTT b (Nat.lt_of_lt_of_le hb' k.size), ?_, hX', ?_, (Kp.of0 k).trans hk' (fun _ _ e => e), hq1, hq2⟩
        · exact made_ok hok 2 _ s _ (.inr rfl) hsh l1 (by rw [show (((vol s).toNat : Nat) : Int) = vol s by omega]; exact hfit) hm hb
        · exact hT.madeI hok (hX.map.tidy Tryz.lawInt) hX.ent s t hsh ht1 ht2 (by rw [hT.k2.len]; exact hfit) hD
      · rw [if_neg hfit] at hpl
        have hres : σ.make 2 s = (σ, 0, 8) := by
          unfold Sp.make
          rw [if_neg (by omega), if_neg (by simp [hs]), if_neg hl, hpl, if_pos (by omega)]
        rw [hres]
        refine (xwholeFullI hXW s hsh hl' hT.k2.inn hc2 (by omega) (by rw [hT.k2.len]; omega)).mono ?_
        rintro e w' ⟨rfl, hk'⟩
        exact ⟨rfl, stay (Kp0.trans k hk')⟩

end Go.Proofs.YticbbncdcannlaaGreat

/- An array made of zeros and then written: an array made of those values. -/
namespace Go.Proofs.YticbbncdcannlaaGreat
open Go.RowKit

theorem put_put (σ : Sp) (k : Int) (c : Nat) (v u : Int) : (σ.put k c v).put k c u = σ.put k c u := by
  unfold Sp.put
  split <;> simp

theorem put_comm (σ : Sp) (k : Int) (c d : Nat) (v u : Int) (h : c ≠ d) : (σ.put k c v).put k d u = (σ.put k d u).put k c v := by
  unfold Sp.put
  split
  · simp only [Sp.mk.injEq, true_and, and_true]
    exact List.set_comm _ _ h
  · simp only [Sp.mk.injEq, true_and, and_true]
    exact List.set_comm _ _ h

theorem put_lay (σ : Sp) (k : Int) (c : Nat) (v : Int) (a : Arr) : (σ.lay a).put k c v = (σ.put k c v).lay a := by
  unfold Sp.put Sp.lay
  split <;> rfl

theorem puts_lay (σ : Sp) (k b : Int) (f : Nat → Int) (a : Arr) (m : Nat) : (σ.lay a).puts k b f m = (σ.puts k b f m).lay a := by
  induction m with
  | zero => rfl
  | succ m ih => rw [Sp.puts, ih, put_lay]; rfl

theorem put_puts (σ : Sp) (k a : Int) (f : Nat → Int) (h0 : 0 ≤ a) (v : Int) (n : Nat) : ∀ m : Nat, m ≤ n → (σ.put k (a + n).toNat v).puts k a f m = (σ.puts k a f m).put k (a + n).toNat v
  | 0, _ => rfl
  | m + 1, h => by
    rw [Sp.puts, put_puts σ k a f h0 v n m (by omega), put_comm _ _ _ _ _ _ (by omega)]
    rfl

theorem puts_over (σ : Sp) (k a : Int) (g f : Nat → Int) (h0 : 0 ≤ a) (m : Nat) : (σ.puts k a g m).puts k a f m = σ.puts k a f m := by
  induction m with
  | zero => rfl
  | succ m ih =>
    show ((((σ.puts k a g m).put k (a + m).toNat (g m)).puts k a f m).put k (a + m).toNat (f m)) = (σ.puts k a f m).put k (a + m).toNat (f m)
    rw [put_puts _ _ _ _ h0 _ m m (Nat.le_refl _), put_put, ih]

theorem writes_rng (σ : Sp) (k a : Int) (f : Nat → Int) (n : Nat) : ∀ m, m ≤ n → σ.writes k (rng a n) f m = σ.puts k a f m
  | 0, _ => rfl
  | m + 1, h => by rw [Sp.writes, Sp.puts, writes_rng σ k a f n m (by omega), nth_rng _ _ _ (by omega)]

/-- Zeros, and then these numbers. -/
theorem made_writes (σ : Sp) (k a : Int) (s : List Int) (m : Nat) (f : Nat → Int) (h0 : 0 ≤ a) : (σ.made k a s m fun _ => 0).writes k (rng a m) f m = σ.made k a s m f := by
  rw [writes_rng _ _ _ _ _ _ (Nat.le_refl _)]
  unfold Sp.made
  rw [puts_lay, puts_over _ _ _ _ _ h0]

end Go.Proofs.YticbbncdcannlaaGreat
