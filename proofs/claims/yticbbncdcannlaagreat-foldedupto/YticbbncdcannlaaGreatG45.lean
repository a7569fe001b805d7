/- The program's space at int64, walked: Reshape, where it makes a new buffer. -/
import Derived.Deep.RegionLaw
import Derived.BigRegion
import Derived.Deep.Cut
import Derived.Deep.RegionHeld3
import Derived.Test.YticbbncdcannlaaGreatG44
import Derived.Test.YticbbncdcannlaaGreatG37
import Derived.Test.YticbbncdcannlaaGreatG14
import Derived.Test.YticbbncdcannlaaGreatG35
import Derived.Test.YticbbncdcannlaaGreatG39
import Derived.Test.YticbbncdcannlaaGreatG34
import Derived.Test.YticbbncdcannlaaGreatG30
import Derived.Test.YticbbncdcannlaaGreatG43

namespace Go.Proofs.YticbbncdcannlaaGreat
open Go.RowKit Go.Maps Go.ChangeMaps Go.MapKept

set_option maxRecDepth 100000 in
set_option maxHeartbeats 4000000 in
theorem xReshapeCopyI {T : Tags} {o : Nat} {w : World} {p : Nat} {L : XL} {X : XS} (h : XAt T o w p L X) (hd : Int) (va : Value) (x : XA) (s : List Int) (hA : X.A hd = some x) (hk : x.kind = 2) (hl : okShape x.l) (hs : okShape s) (hv : vol s = vol x.l) (mc : Nat) (P : List Int) (mv : Nat) (V : List Int) {S1 : Nat → Prop} (HS1 : Hid (∀ b, S1 b → b < w.heap.size)) {R : Int → Int → World → Prop}
    (HS : Hid (∀ W, Kp0 w W → Calls Tryz.prog 56 #[va] W fun e w' => e = .returned (.tuple #[.agg (shC s).toArray, .bool true]) ∧ Kp0 W w'))
    (HG : Hid (∀ W, Calls Tryz.prog 58 #[.agg (grC x.l x.t x.f).toArray, .agg (shC s).toArray] W fun e w' => e = .returned (.tuple #[.agg zG, .bool false]) ∧ Kp0 W w'))
    (HC : Hid (∀ W, Calls Tryz.prog 60 #[.agg (grC x.l x.t x.f).toArray] W fun e w' => ∃ ao c, e = .returned (.slice ao mc c) ∧ Kp0 W w' ∧ Fr W.heap.size w' (.slice ao mc c) P))
    (HRd : Hid (∀ W vp, Kp0 w W → RdI W vp P → Calls Tryz.prog 215 #[.pointer (some ⟨L.q2, 0, none⟩), vp] W fun e w' => ∃ ao c, e = .returned (.slice ao mv c) ∧ Kp0 W w' ∧ Fr W.heap.size w' (.slice ao mv c) V))
    (HM : Hid (∀ W vv, Kp0 w W → Fr w.heap.size W vv V → Calls Tryz.prog 59 #[.pointer (some ⟨p, 0, none⟩), .int .i64 2, .iface 127 (.pointer (some ⟨L.q2, 0, none⟩)), .agg (shC s).toArray, vv] W fun e w' => ∃ a b, e = .returned (.tuple #[.int .i64 a, .int .i64 b]) ∧ R a b w' ∧ Kp S1 W w')) :
    Calls Tryz.prog 24 #[.pointer (some ⟨p, 0, none⟩), .int .i64 hd, va] w fun e w' => ∃ a b, e = .returned (.tuple #[.int .i64 a, .bool false, .int .i64 b]) ∧ R a b w' := by
  have HF := hid (xfind_some h hd x hA (.inr hk))
  rw [hk, inVI] at HF
  have HC2 : Hid (∀ W, Calls Tryz.prog 60 #[.agg (grC x.l x.t x.f).toArray] W fun e w' => ∃ v, e = .returned v ∧ ∃ ao c, v = .slice ao mc c ∧ Kp0 W w' ∧ Fr W.heap.size w' (.slice ao mc c) P) := hid (fun W => (HC.out W).mono (fun e w' ⟨ao, c, h1, h2, h3⟩ => ⟨_, h1, ao, c, rfl, h2, h3⟩))
  have HR2 : Hid (∀ W vp, Kp0 w W → RdI W vp P → Calls Tryz.prog 215 #[.pointer (some ⟨L.q2, 0, none⟩), vp] W fun e w' => ∃ v, e = .returned v ∧ ∃ ao c, v = .slice ao mv c ∧ Kp0 W w' ∧ Fr W.heap.size w' (.slice ao mv c) V) := hid (fun W vp k hr => (HRd.out W vp k hr).mono (fun e w' ⟨ao, c, h1, h2, h3⟩ => ⟨_, h1, ao, c, rfl, h2, h3⟩))
  have HM2 : Hid (∀ W vv, Kp0 w W → Fr w.heap.size W vv V → Calls Tryz.prog 59 #[.pointer (some ⟨p, 0, none⟩), .int .i64 2, .iface 127 (.pointer (some ⟨L.q2, 0, none⟩)), .agg (shC s).toArray, vv] W fun e w' => ∃ v, e = .returned v ∧ ∃ a b, v = .tuple #[.int .i64 a, .int .i64 b] ∧ R a b w' ∧ Kp S1 W w') := hid (fun W vv k hr => (HM.out W vv k hr).mono (fun e w' ⟨a, b, h1, h2⟩ => ⟨_, h1, a, b, rfl, h2⟩))
  have HMR := hid (Tryz.mReadI ⟨L.q2, 0, none⟩)
  have hna := Tryz.nReadI ⟨L.q2, 0, none⟩
  have HV1 : Hid (∀ W, Calls Tryz.prog 57 #[.agg (shC s).toArray] W fun e w' => ∃ v, e = .returned v ∧ (v = .int .i64 (vol s) ∧ Kp0 W w')) := hid (fun W => (xvolume_calls s W hs.2.1 hs.1).mono (fun e w' h => ⟨_, h.1, rfl, h.2⟩))
  have HV2 : Hid (∀ W, Calls Tryz.prog 57 #[.agg (shC x.l).toArray] W fun e w' => ∃ v, e = .returned v ∧ (v = .int .i64 (vol x.l) ∧ Kp0 W w')) := hid (fun W => (xvolume_calls x.l W hl.2.1 hl.1).mono (fun e w' h => ⟨_, h.1, rfl, h.2⟩))
  rw [hv] at HV1
  generalize vol x.l = v2 at *
  clear HC HRd HM
  generalize L.q2 = q at *
  unfold XA.cs at HF
  rw [hk] at HF
  unfold shC at HS HV1 HV2 HG HM2
  unfold grC at HG HC2
  unfold zG at HG
  generalize x.l.length = n at *
  generalize s.length = m at *
  clear h hA hk hl hs hv
  go_enter Tryz.func24, Tryz.ntmps24
  go_wp2_with fail
  refine HF.out.mono ?_
  rintro e w2 ⟨rfl, hw⟩
  have HK := hid hw
  have HB2 : Hid ((w2.alloc (.cells #[.int .i64 2, .int .i64 x.buf, .int .i64 (nth x.l 0), .int .i64 (nth x.l 1), .int .i64 (nth x.l 2), .int .i64 (nth x.l 3), .int .i64 (n : Int), .int .i64 x.f, .int .i64 (nth x.t 0), .int .i64 (nth x.t 1), .int .i64 (nth x.t 2), .int .i64 (nth x.t 3), .bool x.ro] 109)).heap[w2.heap.size]? = some (.cells #[.int .i64 2, .int .i64 x.buf, .int .i64 (nth x.l 0), .int .i64 (nth x.l 1), .int .i64 (nth x.l 2), .int .i64 (nth x.l 3), .int .i64 (n : Int), .int .i64 x.f, .int .i64 (nth x.t 0), .int .i64 (nth x.t 1), .int .i64 (nth x.t 2), .int .i64 (nth x.t 3), .bool x.ro] 109 (0, 0))) := heap_alloc_new w2 _
  clear hw
  go_wp2_with fail
  refine (HS.out _ (HK.out.alloc _)).mono ?_
  rintro e w3 ⟨rfl, hw⟩
  have HB3 := hid (hw.heap HB2.out)
  have HK3 : Hid (Kp0 w w3) := Kp0.trans (HK.out.alloc _) hw
  have HN0 : Hid (¬ S1 w2.heap.size) := hid (fun e => by have := HS1.out _ e; have := HK.out.size; omega)
  have HN1 : Hid (¬ S1 w3.heap.size) := hid (fun e => by have := HS1.out _ e; have := HK3.out.size; omega)
  clear hw HB2
  generalize w2.heap.size = b0 at *
  go_wp2
  have HB4 := hid (heap_alloc_keeps HB3.out (.cells #[.int .i64 (nth s 0), .int .i64 (nth s 1), .int .i64 (nth s 2), .int .i64 (nth s 3), .int .i64 (m : Int)] 104))
  have HS4 := hid (heap_alloc_new w3 (.cells #[.int .i64 (nth s 0), .int .i64 (nth s 1), .int .i64 (nth s 2), .int .i64 (nth s 3), .int .i64 (m : Int)] 104))
  have HK4 := hid (HK3.out.alloc (.cells #[.int .i64 (nth s 0), .int .i64 (nth s 1), .int .i64 (nth s 2), .int .i64 (nth s 3), .int .i64 (m : Int)] 104))
  clear HB3 HK3
  generalize w3.alloc (.cells #[.int .i64 (nth s 0), .int .i64 (nth s 1), .int .i64 (nth s 2), .int .i64 (nth s 3), .int .i64 (m : Int)] 104) = W4 at *
  generalize w3.heap.size = b1 at *
  obtain ⟨y0, y1, y2, y3, y4, y5, y6, y7, y8, y9, y10, y11, y12⟩ := cells13 HB4.out
  obtain ⟨z0, z1, z2, z3, z4⟩ := cells5 HS4.out
  clear y0 y1 y7 y8 y9 y10 y11 y12
  have HKc : Hid (Kp0 w W4.drew) := hid HK4.out.drew
  go_cut [44] from 34 (fun s44 W => s44 = .bool false ∧ Kp0 w W ∧ W.heap[b0]? = some (.cells #[.int .i64 2, .int .i64 x.buf, .int .i64 (nth x.l 0), .int .i64 (nth x.l 1), .int .i64 (nth x.l 2), .int .i64 (nth x.l 3), .int .i64 (n : Int), .int .i64 x.f, .int .i64 (nth x.t 0), .int .i64 (nth x.t 1), .int .i64 (nth x.t 2), .int .i64 (nth x.t 3), .bool x.ro] 109 (0, 0)) ∧ W.heap[b1]? = some (.cells #[.int .i64 (nth s 0), .int .i64 (nth s 1), .int .i64 (nth s 2), .int .i64 (nth s 3), .int .i64 (m : Int)] 104 (0, 0)))
  case first =>
    go_region_law ((first
      | (refine step_call1w (by rfl) 57 (.tmp 37) _ (by rfl) _ Tryz.func57 (by kernel_rfl) (by kernel_rfl) _ (by rfl) (HV1.out _) ?_; intro v7 w7 hR7; obtain ⟨rfl, hk7⟩ := hR7; have HKc := hid (Kp0.trans HKc.out hk7); have HB4 := hid (hk7.heap HB4.out); have HS4 := hid (hk7.heap HS4.out); have y2 := hk7.cell y2; have y3 := hk7.cell y3; have y4 := hk7.cell y4; have y5 := hk7.cell y5; have y6 := hk7.cell y6; have z0 := hk7.cell z0; have z1 := hk7.cell z1; have z2 := hk7.cell z2; have z3 := hk7.cell z3; have z4 := hk7.cell z4; clear hk7)
      | (refine step_call1w (by rfl) 57 (.tmp 41) _ (by rfl) _ Tryz.func57 (by kernel_rfl) (by kernel_rfl) _ (by rfl) (HV2.out _) ?_; intro v7 w7 hR7; obtain ⟨rfl, hk7⟩ := hR7; have HKc := hid (Kp0.trans HKc.out hk7); have HB4 := hid (hk7.heap HB4.out); have HS4 := hid (hk7.heap HS4.out); have y2 := hk7.cell y2; have y3 := hk7.cell y3; have y4 := hk7.cell y4; have y5 := hk7.cell y5; have y6 := hk7.cell y6; have z0 := hk7.cell z0; have z1 := hk7.cell z1; have z2 := hk7.cell z2; have z3 := hk7.cell z3; have z4 := hk7.cell z4; clear hk7)))
    all_goals
      go_wp2_with fail
      go_meet
      case rel => exact ⟨rfl, HKc.out, HB4.out, HS4.out⟩
  case rest =>
    obtain ⟨rfl, hKc, hB4, hS4⟩ := hcut
    have HKc := hid hKc
    have HB4 := hid hB4
    have HS4 := hid hS4
    clear hKc hB4 hS4 y2 y3 y4 y5 y6 z0 z1 z2 z3 z4 HV1 HV2 HS HF HK HK4
    have hlt := lt_of_heap HB4.out
    have hlt1 := lt_of_heap HS4.out
    obtain ⟨y0, y1, y2, y3, y4, y5, y6, y7, y8, y9, y10, y11, y12⟩ := cells13 HB4.out
    obtain ⟨z0, z1, z2, z3, z4⟩ := cells5 HS4.out
    go_wp2_with fail
    refine (HG.out _).mono ?_
    rintro e w4 ⟨rfl, hw⟩
    have HB5 := hid (hw.heap HB4.out)
    have HS5 := hid (hw.heap HS4.out)
    have HK5 : Hid (Kp0 w w4) := Kp0.trans HKc.out hw
    clear hw y0 y1 y2 y3 y4 y5 y6 y7 y8 y9 y10 y11 y12 z0 z1 z2 z3 z4 HB4 HS4 HKc hlt hlt1
    go_wp2
    have HB6 := hid (heap_alloc_keeps HB5.out (.cells #[.int .i64 0, .int .i64 0, .int .i64 0, .int .i64 0, .int .i64 0, .int .i64 0, .int .i64 0, .int .i64 0, .int .i64 0, .int .i64 0] 107))
    have HS6 := hid (heap_alloc_keeps HS5.out (.cells #[.int .i64 0, .int .i64 0, .int .i64 0, .int .i64 0, .int .i64 0, .int .i64 0, .int .i64 0, .int .i64 0, .int .i64 0, .int .i64 0] 107))
    have HK6 := hid (HK5.out.alloc (.cells #[.int .i64 0, .int .i64 0, .int .i64 0, .int .i64 0, .int .i64 0, .int .i64 0, .int .i64 0, .int .i64 0, .int .i64 0, .int .i64 0] 107))
    generalize w4.alloc (.cells #[.int .i64 0, .int .i64 0, .int .i64 0, .int .i64 0, .int .i64 0, .int .i64 0, .int .i64 0, .int .i64 0, .int .i64 0, .int .i64 0] 107) = W6 at HB6 HS6 HK6 ⊢
    clear HB5 HS5 HK5
    obtain ⟨y0, y1, y2, y3, y4, y5, y6, y7, y8, y9, y10, y11, y12⟩ := cells13 HB6.out
    obtain ⟨z0, z1, z2, z3, z4⟩ := cells5 HS6.out
    have HKd : Hid (Kp0 w W6.drew) := hid HK6.out.drew
    clear y1 y12
    go_cut [11, 18] from 45 (fun s11 s18 W => ∃ a b, s11 = .int .i64 b ∧ s18 = .int .i64 a ∧ R a b W)
    case first =>
      go_region_held3 (fun W => W.cell? ⟨b0, 0, none⟩ = some (.int .i64 2) ∧ W.cell? ⟨b0, 2, none⟩ = some (.int .i64 (nth x.l 0)) ∧ W.cell? ⟨b0, 3, none⟩ = some (.int .i64 (nth x.l 1)) ∧ W.cell? ⟨b0, 4, none⟩ = some (.int .i64 (nth x.l 2)) ∧ W.cell? ⟨b0, 5, none⟩ = some (.int .i64 (nth x.l 3)) ∧ W.cell? ⟨b0, 6, none⟩ = some (.int .i64 (n : Int)) ∧ W.cell? ⟨b0, 7, none⟩ = some (.int .i64 x.f) ∧ W.cell? ⟨b0, 8, none⟩ = some (.int .i64 (nth x.t 0)) ∧ W.cell? ⟨b0, 9, none⟩ = some (.int .i64 (nth x.t 1)) ∧ W.cell? ⟨b0, 10, none⟩ = some (.int .i64 (nth x.t 2)) ∧ W.cell? ⟨b0, 11, none⟩ = some (.int .i64 (nth x.t 3)) ∧ W.cell? ⟨b1, 0, none⟩ = some (.int .i64 (nth s 0)) ∧ W.cell? ⟨b1, 1, none⟩ = some (.int .i64 (nth s 1)) ∧ W.cell? ⟨b1, 2, none⟩ = some (.int .i64 (nth s 2)) ∧ W.cell? ⟨b1, 3, none⟩ = some (.int .i64 (nth s 3)) ∧ W.cell? ⟨b1, 4, none⟩ = some (.int .i64 (m : Int))) (go_keep)
        ((first
        | (refine step_call1 (by rfl) 60 (.tmp 72) _ (by rfl) _ Tryz.func60 (by kernel_rfl) (by kernel_rfl) _ (by rfl) (HC2.out _) ?_; intro v7 w7 hR7; obtain ⟨ao, c7, rfl, hk7, hf7⟩ := hR7; have y0 := hk7.cell y0; have y2 := hk7.cell y2; have y3 := hk7.cell y3; have y4 := hk7.cell y4; have y5 := hk7.cell y5; have y6 := hk7.cell y6; have y7 := hk7.cell y7; have y8 := hk7.cell y8; have y9 := hk7.cell y9; have y10 := hk7.cell y10; have y11 := hk7.cell y11; have z0 := hk7.cell z0; have z1 := hk7.cell z1; have z2 := hk7.cell z2; have z3 := hk7.cell z3; have z4 := hk7.cell z4)
        | (refine step_invoke1 (by rfl) (.tmp 76) "Read" (.tmp 73) _ (by rfl) _ (.slice ao mc c7) (by rfl) (by rfl) _ _ (HMR.out _ _) (HR2.out _ _ (Kp0.trans HKd.out hk7) hf7.1) ?_; intro v8 w8 hR8; obtain ⟨ao8, c8, rfl, hk8, hf8⟩ := hR8; have y0 := hk8.cell y0; have y2 := hk8.cell y2; have y3 := hk8.cell y3; have y4 := hk8.cell y4; have y5 := hk8.cell y5; have y6 := hk8.cell y6; have y7 := hk8.cell y7; have y8 := hk8.cell y8; have y9 := hk8.cell y9; have y10 := hk8.cell y10; have y11 := hk8.cell y11; have z0 := hk8.cell z0; have z1 := hk8.cell z1; have z2 := hk8.cell z2; have z3 := hk8.cell z3; have z4 := hk8.cell z4)
        | (refine step_call5 (by rfl) 59 (.tmp 65) (.tmp 67) (.tmp 68) (.tmp 69) (.tmp 77) _ (by rfl) _ Tryz.func59 (by kernel_rfl) (by kernel_rfl) _ _ _ _ _ (by rfl) (by rfl) (by rfl) (by rfl) (by rfl) (HM2.out _ _ (Kp0.trans (Kp0.trans HKd.out hk7) hk8) (hf8.le (Kp0.trans HKd.out hk7).size)) ?_; intro v9 w9 hR9; obtain ⟨a9, b9, rfl, hR9, hk9⟩ := hR9; have y0 := hk9.cell y0 HN0.out; have y2 := hk9.cell y2 HN0.out; have y3 := hk9.cell y3 HN0.out; have y4 := hk9.cell y4 HN0.out; have y5 := hk9.cell y5 HN0.out; have y6 := hk9.cell y6 HN0.out; have y7 := hk9.cell y7 HN0.out; have y8 := hk9.cell y8 HN0.out; have y9 := hk9.cell y9 HN0.out; have y10 := hk9.cell y10 HN0.out; have y11 := hk9.cell y11 HN0.out; have z0 := hk9.cell z0 HN1.out; have z1 := hk9.cell z1 HN1.out; have z2 := hk9.cell z2 HN1.out; have z3 := hk9.cell z3 HN1.out; have z4 := hk9.cell z4 HN1.out)))
      all_goals
        have HR9 := hid hR9
        clear hR9 hk7 hk8 hk9 hf7 hf8 y0 y2 y3 y4 y5 y6 y7 y8 y9 y10 y11 z0 z1 z2 z3 z4
        go_wp2_with fail
        go_meet
        case rel => exact ⟨_, _, rfl, rfl, HR9.out⟩
    case rest =>
      obtain ⟨a9, b9, rfl, rfl, hR9⟩ := hcut
      have HR9 := hid hR9
      clear hR9 y0 y2 y3 y4 y5 y6 y7 y8 y9 y10 y11 z0 z1 z2 z3 z4
      go_wp2
      go_ret3
      exact ⟨_, _, rfl, HR9.out⟩

end Go.Proofs.YticbbncdcannlaaGreat

/- The program's calls in the document's words: Reshape. -/
namespace Go.Proofs.YticbbncdcannlaaGreat
open Go.RowKit

theorem RdI.lt {w : World} {v : Value} {xs : List Int} (h : RdI w v xs) (hne : xs ≠ []) {b : Nat} (hb : v.ownBlock = some b) : b < w.heap.size := by
  obtain ⟨a, cap, rfl, h⟩ := h
  obtain ⟨g, o, rfl, hc⟩ := h hne
  have h0 := hc 0 (List.length_pos_iff.2 hne)
  have : g = b := by simpa [Value.ownBlock] using hb
  subst this
  exact block_lt_of_cell h0

theorem read_eq {σ : Sp} {a : Arr} {x : XA} {h : Int} {c : List Int} {bs : List (Int × Int)} (hx : ATie σ a x) (hf : σ.find h = some a) (ha : a.ok σ) (hk : KTie σ a.kind c bs) : (a.cells.map fun q => nth c q.toNat) = σ.valuesOf a := by
  refine ext_nth (by simp [Sp.valuesOf]) (fun j hj => ?_)
  have hj' : j < a.cells.length := by simpa using hj
  have h1 := ha.inside j hj'
  have h2 := hx.taken hf j hj'
  unfold Sp.valuesOf
  rw [map_nth _ _ _ hj', map_nth _ _ _ hj']
  exact hk.at _ h1.1 h1.2 h2

theorem Step.untag {T : Tags} {o : Nat} {w W w' : World} {p : Nat} {σ : Sp} {t : Nat × Nat} (h : Step XRep (retag w T t) o W p σ w') (k : Kp0 w W) : Step XRep T o w p σ w' := by
  obtain ⟨T', h1, h2, h3⟩ := h
  exact ⟨T', fun b hb => (h1 b (Nat.lt_of_lt_of_le hb k.size)).trans (retag_to w T t b hb), h2, (Kp.of0 k).trans h3 (fun b hb e => by rw [retag_to w T t b hb] at e; exact e)⟩

theorem xc_rview {T : Tags} {o : Nat} {w : World} {p : Nat} {σ : Sp} (hok : σ.ok) {L : XL} {X : XS} (hX : XAt T o w p L X) (hT : Tie X (Maps.size L.D) σ) {h : Int} {a : Arr} {x : XA} (hf : σ.find h = some a) (hx : ATie σ a x) (s : List Int) (hs : okShape s) (hv : vol s = vol a.shape) (he : evenB s a.cells = true) (hm : σ.arrs.length + 1 ≤ 100000000) :
    ∀ W, Kp0 w W → Calls Tryz.prog 54 #[.pointer (some ⟨p, 0, none⟩), .agg x.cs, .agg (grC s (evenT s a.cells) x.f).toArray] W fun e w' => ∃ r b, e = .returned (.tuple #[.int .i64 r, .int .i64 b]) ∧ ((r = (σ.reshape h s).2.1 ∧ (b == 0) = (σ.reshape h s).2.2.1 ∧ b = (σ.reshape h s).2.2.2) ∧ Step XRep T o w p (σ.reshape h s).1 w') := by
  intro W k
  have hXW := hX.kp0 k
  have ha := kind_of hok hf
  have hsb : shapeB s = true := (shapeB_iff s).2 hs
  have hc := hx.cells
  have hge := even_ok (s := s) hx.g hs (by rw [hc]; exact he)
  rw [hc] at hge
  by_cases hl : 40 ≤ σ.live
  · have hR' : σ.reshape h s = (σ, 0, false, 7) := by simp [Sp.reshape, hf, hsb, hv, he, hl]
    rw [hR']
    refine (xmakeView_many hXW x s _ _ (by rw [hT.live]; exact hl)).mono ?_
    rintro e w' ⟨rfl, hk'⟩
    exact ⟨0, 7, rfl, ⟨rfl, rfl, rfl⟩, XRep.stay ⟨hok, L, X, hX, hT⟩ (Kp0.trans k hk')⟩
  · have hR' : σ.reshape h s = (σ.lay ⟨a.kind, s, a.cells, a.ro, a.buf⟩, (σ.arrs.length : Int) + 1, true, 0) := by simp [Sp.reshape, hf, hsb, hv, he, hl]
    rw [hR']
    refine (xmakeView_yes hXW x s _ _ (by rw [hT.live]; exact hl) (by rw [hT.last]; omega)).mono ?_
    rintro e w' ⟨rfl, hk', hX'⟩
    have hdo := lay_ok hok ⟨a.kind, s, a.cells, a.ro, a.buf⟩ ⟨ha.kind, hs, by rw [ha.length]; exact hv.symm, ha.inside, ha.buf⟩ hm
    have hat : ATie (σ.lay ⟨a.kind, s, a.cells, a.ro, a.buf⟩) ⟨a.kind, s, a.cells, a.ro, a.buf⟩ (x.seen s (evenT s a.cells) x.f) := ⟨hx.kind, hx.ro, rfl, hge.1, hge.2, hx.buf⟩
    refine ⟨_, _, rfl, ⟨by rw [hT.last], rfl, rfl⟩, T, fun _ _ => rfl, ⟨hdo, _, _, hX', ?_⟩, (Kp.of0 k).trans hk' (fun _ _ e => e)⟩
    have hub := used_of hf
    exact hT.view (hX.map.tidy Tryz.lawInt) hX.ent _ _ hub hat rfl

theorem xc_reshape {T : Tags} {o : Nat} {w : World} {p : Nat} {σ : Sp} (h : Int) (va : Value) (s : List Int) (hr : RdI w va s) (hR : XRep T o w p σ) (hm : σ.arrs.length + 1 ≤ 100000000) (hb : σ.bufs.length + 1 ≤ 100000000) :
    Calls Tryz.prog 24 #[.pointer (some ⟨p, 0, none⟩), .int .i64 h, va] w fun e w' => e = .returned (.tuple #[.int .i64 (σ.reshape h s).2.1, .bool (σ.reshape h s).2.2.1, .int .i64 (σ.reshape h s).2.2.2]) ∧ Step XRep T o w p (σ.reshape h s).1 w' := by
  have hR' := hR
  obtain ⟨hok, L, X, hX, hT⟩ := hR
  cases hf : σ.find h with
  | none =>
    have hres : σ.reshape h s = (σ, 0, false, 2) := by simp [Sp.reshape, hf]
    rw [hres]
    refine (xReshape_none hX h va (hT.non h hf)).mono ?_
    rintro e w' ⟨rfl, hk⟩
    exact ⟨rfl, hR'.stay hk⟩
  | some a =>
    obtain ⟨x, hA, hx⟩ := hT.som h a hf
    have ha := kind_of hok hf
    have hkd : x.kind = 1 ∨ x.kind = 2 := by rw [hx.kind]; exact ha.kind
    have hl := hx.l
    cases hsb : shapeB s with
    | false =>
      have hres : σ.reshape h s = (σ, 0, false, 4) := by simp [Sp.reshape, hf, hsb]
      rw [hres]
      refine (xReshape_shape hX h va x hA hkd (hid (fun W k => by have := xshape_calls va s W (hr.kp0 k); rw [hsb] at this; exact this))).mono ?_
      rintro e w' ⟨rfl, hk⟩
      exact ⟨rfl, hR'.stay hk⟩
    | true =>
      have hs : okShape s := (shapeB_iff s).1 hsb
      have HS : Hid (∀ W, Kp0 w W → Calls Tryz.prog 56 #[va] W fun e w' => e = .returned (.tuple #[.agg (shC s).toArray, .bool true]) ∧ Kp0 W w') := hid (fun W k => by have := xshape_calls va s W (hr.kp0 k); rw [hsb] at this; exact this)
      by_cases hv : vol s = vol a.shape
      · have hv' : vol s = vol x.l := by rw [hl]; exact hv
        have hG := fun W => xgresh_calls x.l x.t s x.f _ W hx.g hs hv'
        rw [hx.cells] at hG
        cases he : evenB s a.cells with
        | true =>
          refine (xReshape_view hX h va x s hA hkd hx.g.shape hs hv' s (evenT s a.cells) x.f HS (hid (fun W => (hG W).mono ?_)) (hid (xc_rview hok hX hT hf hx s hs hv he hm))).mono ?_
          · rintro e w' ⟨h1 | h1, hk⟩
            · exact ⟨h1.2, hk⟩
            · rw [he] at h1; exact absurd h1.1 (by simp)
          · rintro e w' ⟨r, b, rfl, ⟨rfl, h2, rfl⟩, hst⟩
            exact ⟨by rw [h2], hst⟩
        | false =>
          have hVl : (σ.valuesOf a).length = (vol s).toNat := by have := ha.length; simp [Sp.valuesOf]; omega
          have hne : σ.valuesOf a ≠ [] := fun e => by rw [e] at hVl; have := vol_pos_of hs.2.1; simp at hVl; omega
          have h36 : a.cells.length ≤ 1000000 := by have := ha.length; have := ha.shape.2.2; omega
          have hres : σ.reshape h s = ((σ.fresh a.kind s fun i => asK a.kind (nth (σ.valuesOf a) i)).1, (σ.fresh a.kind s fun i => asK a.kind (nth (σ.valuesOf a) i)).2.1, false, (σ.fresh a.kind s fun i => asK a.kind (nth (σ.valuesOf a) i)).2.2) := by simp [Sp.reshape, hf, hsb, hv, he]
          rw [hres]
          have hG2 : ∀ W, Calls Tryz.prog 58 #[.agg (grC x.l x.t x.f).toArray, .agg (shC s).toArray] W fun e w' => e = .returned (.tuple #[.agg zG, .bool false]) ∧ Kp0 W w' := fun W => (hG W).mono (by
            rintro e w' ⟨h1 | h1, hk⟩
            · rw [he] at h1; exact absurd h1.1 (by simp)
            · exact ⟨h1.2, hk⟩)
          have hX1 := hX.tags (retag_to w T (o + 1, 0))
          have hS1 : ∀ b, (retag w T (o + 1, 0) b).1 = o → b < w.heap.size := fun b e => by
            rcases Nat.lt_or_ge b w.heap.size with h1 | h1
            · exact h1
            · rw [retag_new h1] at e; simp at e
          have hvo : ∀ W vv, Kp0 w W → Fr w.heap.size W vv (σ.valuesOf a) → ∀ b, vv.ownBlock = some b → (retag w T (o + 1, 0) b).1 ≠ o ∧ b < W.heap.size := fun W vv k hfr b e => ⟨by rw [retag_new (hfr.2 b e)]; simp, hfr.1.lt hne e⟩
          rcases ha.kind with hk | hk
          · rw [hk]
            have heq := read_eq hx hf ha (c := X.c1) (bs := X.b1) (by rw [hk]; exact hT.k1)
            refine (xReshapeCopyB hX h va x s hA (by rw [hx.kind, hk]) hx.g.shape hs hv' a.cells.length a.cells (σ.valuesOf a).length (σ.valuesOf a) (hid hS1) (R := fun r b w' => (r = (σ.fresh 1 s fun i => asK 1 (nth (σ.valuesOf a) i)).2.1 ∧ b = (σ.fresh 1 s fun i => asK 1 (nth (σ.valuesOf a) i)).2.2) ∧ Step XRep T o w p (σ.fresh 1 s fun i => asK 1 (nth (σ.valuesOf a) i)).1 w') HS (hid hG2) (hid (fun W => xc_cells hx W)) (hid (fun W vp k hrd => ?_)) (hid (fun W vv k hfr => ?_))).mono ?_
            · refine (xReadB_calls (hX.kp0 k).s1 a.cells vp hrd (fun j hj => by have := ha.inside j hj; rw [hk] at this; rw [hT.k1.len]; exact this) (hT.k1.wrap (.inl rfl)) h36).mono ?_
              rintro e w' ⟨v, rfl, hn⟩
              rw [heq] at hn
              obtain ⟨ao, c, rfl, k', hfr⟩ := hn.fr
              exact ⟨ao, c, rfl, k', hfr⟩
            · refine (xc_makeOfB s hok (hX1.kp0 k) hT hsb hm hb (σ.valuesOf a) hVl (fun j => (hT.valuesIn ha j).1) vv hfr.1 (hvo W vv k hfr)).mono ?_
              rintro e w' ⟨r, b, rfl, hrb, hst⟩
              exact ⟨r, b, rfl, ⟨hrb, hst.untag k⟩, hst.choose_spec.2.2⟩
            · rintro e w' ⟨r, b, rfl, ⟨rfl, rfl⟩, hst⟩
              exact ⟨rfl, hst⟩
          · rw [hk]
            have heq := read_eq hx hf ha (c := X.c2) (bs := X.b2) (by rw [hk]; exact hT.k2)
            refine (xReshapeCopyI hX h va x s hA (by rw [hx.kind, hk]) hx.g.shape hs hv' a.cells.length a.cells (σ.valuesOf a).length (σ.valuesOf a) (hid hS1) (R := fun r b w' => (r = (σ.fresh 2 s fun i => asK 2 (nth (σ.valuesOf a) i)).2.1 ∧ b = (σ.fresh 2 s fun i => asK 2 (nth (σ.valuesOf a) i)).2.2) ∧ Step XRep T o w p (σ.fresh 2 s fun i => asK 2 (nth (σ.valuesOf a) i)).1 w') HS (hid hG2) (hid (fun W => xc_cells hx W)) (hid (fun W vp k hrd => ?_)) (hid (fun W vv k hfr => ?_))).mono ?_
            · refine (xReadI_calls (hX.kp0 k).s2 a.cells vp hrd (fun j hj => by have := ha.inside j hj; rw [hk] at this; rw [hT.k2.len]; exact this) (hT.k2.wrap (.inr rfl)) h36).mono ?_
              rintro e w' ⟨v, rfl, hn⟩
              rw [heq] at hn
              obtain ⟨ao, c, rfl, k', hfr⟩ := hn.fr
              exact ⟨ao, c, rfl, k', hfr⟩
            · refine (xc_makeOfI s hok (hX1.kp0 k) hT hsb hm hb (σ.valuesOf a) hVl (fun j => (hT.valuesIn ha j).1) vv hfr.1 (hvo W vv k hfr)).mono ?_
              rintro e w' ⟨r, b, rfl, hrb, hst⟩
              exact ⟨r, b, rfl, ⟨hrb, hst.untag k⟩, hst.choose_spec.2.2⟩
            · rintro e w' ⟨r, b, rfl, ⟨rfl, rfl⟩, hst⟩
              exact ⟨rfl, hst⟩
      · have hres : σ.reshape h s = (σ, 0, false, 4) := by simp [Sp.reshape, hf, hv]
        rw [hres]
        refine (xReshape_vol hX h va x s hA hkd hx.g.shape hs (by rw [hl]; exact hv) HS).mono ?_
        rintro e w' ⟨rfl, hk⟩
        exact ⟨rfl, hR'.stay hk⟩

end Go.Proofs.YticbbncdcannlaaGreat

/- The program's space at uint8, walked: Fold, where it makes an array. -/
namespace Go.Proofs.YticbbncdcannlaaGreat
open Go.RowKit Go.Maps Go.ChangeMaps Go.MapKept

set_option maxRecDepth 100000 in
set_option maxHeartbeats 4000000 in
theorem xFoldOkB {T : Tags} {o : Nat} {w : World} {p : Nat} {L : XL} {X : XS} (h : XAt T o w p L X) (op hd : Int) (k N : Nat) (x : XA) (hA : X.A hd = some x) (hk : x.kind = 1) (h1 : 1 ≤ op) (h5 : op ≤ 5) (h2 : op ≠ 2) (hN : 1 ≤ N) (l t : List Int) (F : Nat → Int) (mv : Nat) (V : List Int) {S1 : Nat → Prop} (HS1 : Hid (∀ b, S1 b → b < w.heap.size)) {R : Int → Int → World → Prop}
    (HL : Hid (∀ W, Kp0 w W → Calls Tryz.prog 69 #[.agg (grC x.l x.t x.f).toArray, .int .i64 (k : Int)] W fun e w' => ∃ g, e = .returned (.tuple #[.slice (some ⟨g, 0, none⟩) N N, .bool true]) ∧ Kp0 W w' ∧ W.heap.size ≤ g ∧ ∃ cur, w'.heap[g]? = some (.cells cur 107 (0, 0)) ∧ cur.size = N * 10 ∧ TenRows cur (fun q => grC l t (F q)) N))
    (HF : Hid (∀ W g cur, Kp0 w W → W.heap[g]? = some (.cells cur 107 (0, 0)) → TenRows cur (fun q => grC l t (F q)) N → Calls Tryz.prog 70 #[.int .i64 op, .iface 126 (.pointer (some ⟨L.q1, 0, none⟩)), .slice (some ⟨g, 0, none⟩) N N] W fun e w' => ∃ ao c, e = .returned (.slice ao mv c) ∧ Kp0 W w' ∧ Fr W.heap.size w' (.slice ao mv c) V))
    (HM : Hid (∀ W vv, Kp0 w W → Fr w.heap.size W vv V → Calls Tryz.prog 59 #[.pointer (some ⟨p, 0, none⟩), .int .i64 1, .iface 126 (.pointer (some ⟨L.q1, 0, none⟩)), .agg (shC l).toArray, vv] W fun e w' => ∃ a b, e = .returned (.tuple #[.int .i64 a, .int .i64 b]) ∧ R a b w' ∧ Kp S1 W w')) :
    Calls Tryz.prog 30 #[.pointer (some ⟨p, 0, none⟩), .int .i64 op, .int .i64 hd, .int .i64 (k : Int)] w fun e w' => ∃ a b, e = .returned (.tuple #[.int .i64 a, .int .i64 b]) ∧ R a b w' := by
  have HFD := hid (xfind_some h hd x hA (.inl hk))
  rw [hk, inVB] at HFD
  have HF2 : Hid (∀ W g cur, Kp0 w W → W.heap[g]? = some (.cells cur 107 (0, 0)) → TenRows cur (fun q => grC l t (F q)) N → Calls Tryz.prog 70 #[.int .i64 op, .iface 126 (.pointer (some ⟨L.q1, 0, none⟩)), .slice (some ⟨g, 0, none⟩) N N] W fun e w' => ∃ v, e = .returned v ∧ ∃ ao c, v = .slice ao mv c ∧ Kp0 W w' ∧ Fr W.heap.size w' (.slice ao mv c) V) := hid (fun W g cur kk hg ht => (HF.out W g cur kk hg ht).mono (fun e w' ⟨ao, c, h1, h2, h3⟩ => ⟨_, h1, ao, c, rfl, h2, h3⟩))
  have HM2 : Hid (∀ W vv, Kp0 w W → Fr w.heap.size W vv V → Calls Tryz.prog 59 #[.pointer (some ⟨p, 0, none⟩), .int .i64 1, .iface 126 (.pointer (some ⟨L.q1, 0, none⟩)), .agg (shC l).toArray, vv] W fun e w' => ∃ v, e = .returned v ∧ ∃ a b, v = .tuple #[.int .i64 a, .int .i64 b] ∧ R a b w' ∧ Kp S1 W w') := hid (fun W vv kk hr => (HM.out W vv kk hr).mono (fun e w' ⟨a, b, h1, h2⟩ => ⟨_, h1, a, b, rfl, h2⟩))
  have HO := hid (xIsOp_yes op w h1 h5)
  have b2 : (op == 2) = false := by simp [h2]
  clear HF HM
  generalize L.q1 = q at *
  unfold XA.cs at HFD
  rw [hk] at HFD
  unfold grC at HL
  unfold shC at HM2
  have HTR : Hid (∀ (W : World) g cur, W.heap[g]? = some (.cells cur 107 (0, 0)) → TenRows cur (fun q => grC l t (F q)) N → W.cell? ⟨g, 0, none⟩ = some (.int .i64 (nth l 0)) ∧ W.cell? ⟨g, 1, none⟩ = some (.int .i64 (nth l 1)) ∧ W.cell? ⟨g, 2, none⟩ = some (.int .i64 (nth l 2)) ∧ W.cell? ⟨g, 3, none⟩ = some (.int .i64 (nth l 3)) ∧ W.cell? ⟨g, 4, none⟩ = some (.int .i64 (l.length : Int))) := hid (fun W g cur hg ht => by
    have key := fun c hc => ten_cellsB hg ht 0 hN c hc
    have k0 := key 0 (by omega)
    have k1 := key 1 (by omega)
    have k2 := key 2 (by omega)
    have k3 := key 3 (by omega)
    have k4 := key 4 (by omega)
    simp [grC] at k0 k1 k2 k3 k4
    exact ⟨k0, k1, k2, k3, k4⟩)
  generalize x.l.length = n at *
  obtain ⟨m, hm⟩ : ∃ m, l.length = m := ⟨_, rfl⟩
  rw [hm] at HM2 HTR
  have hN0 : 0 < N := hN
  have n0 : (0 : Int) < (N : Int) := by omega
  clear h hA hk h1 h5 h2 hm
  go_enter Tryz.func30, Tryz.ntmps30
  go_wp2_with fail
  refine HO.out.mono ?_
  rintro e w1 ⟨rfl, hw⟩
  obtain rfl := hw.symm
  clear hw HO
  go_wp2_with fail
  refine HFD.out.mono ?_
  rintro e w2 ⟨rfl, hw⟩
  have HK := hid hw
  have HB2 : Hid ((w2.alloc (.cells #[.int .i64 1, .int .i64 x.buf, .int .i64 (nth x.l 0), .int .i64 (nth x.l 1), .int .i64 (nth x.l 2), .int .i64 (nth x.l 3), .int .i64 (n : Int), .int .i64 x.f, .int .i64 (nth x.t 0), .int .i64 (nth x.t 1), .int .i64 (nth x.t 2), .int .i64 (nth x.t 3), .bool x.ro] 109)).heap[w2.heap.size]? = some (.cells #[.int .i64 1, .int .i64 x.buf, .int .i64 (nth x.l 0), .int .i64 (nth x.l 1), .int .i64 (nth x.l 2), .int .i64 (nth x.l 3), .int .i64 (n : Int), .int .i64 x.f, .int .i64 (nth x.t 0), .int .i64 (nth x.t 1), .int .i64 (nth x.t 2), .int .i64 (nth x.t 3), .bool x.ro] 109 (0, 0))) := heap_alloc_new w2 _
  have HK2 : Hid (Kp0 w (w2.alloc (.cells #[.int .i64 1, .int .i64 x.buf, .int .i64 (nth x.l 0), .int .i64 (nth x.l 1), .int .i64 (nth x.l 2), .int .i64 (nth x.l 3), .int .i64 (n : Int), .int .i64 x.f, .int .i64 (nth x.t 0), .int .i64 (nth x.t 1), .int .i64 (nth x.t 2), .int .i64 (nth x.t 3), .bool x.ro] 109))) := HK.out.alloc _
  clear hw
  go_wp2_with fail
  refine (HL.out _ HK2.out).mono ?_
  rintro e w3 ⟨g, rfl, hk3, hg3, cur, hc3, -, ht3⟩
  have HB3 := hid (hk3.heap HB2.out)
  have HK3 : Hid (Kp0 w w3) := HK2.out.trans hk3
  have HN0 : Hid (¬ S1 w2.heap.size) := hid (fun e => by have := HS1.out _ e; have := HK.out.size; omega)
  have HN1 : Hid (¬ S1 g) := hid (fun e => by have := HS1.out _ e; have := HK2.out.size; omega)
  have HC3 := hid hc3
  have HT3 := hid ht3
  clear hk3 hg3 hc3 ht3 HB2 HK2 HK HL HFD
  generalize w2.heap.size = b0 at *
  obtain ⟨y0, -⟩ := cells13 HB3.out
  obtain ⟨z0, z1, z2, z3, z4⟩ := HTR.out _ _ _ HC3.out HT3.out
  have HKd : Hid (Kp0 w w3.drew) := hid HK3.out.drew
  have HCd : Hid (w3.drew.heap[g]? = some (.cells cur 107 (0, 0))) := hid HC3.out
  clear HTR
  go_wp2
  go_region_held3 (fun W => W.cell? ⟨b0, 0, none⟩ = some (.int .i64 1) ∧ W.cell? ⟨g, 0, none⟩ = some (.int .i64 (nth l 0)) ∧ W.cell? ⟨g, 1, none⟩ = some (.int .i64 (nth l 1)) ∧ W.cell? ⟨g, 2, none⟩ = some (.int .i64 (nth l 2)) ∧ W.cell? ⟨g, 3, none⟩ = some (.int .i64 (nth l 3)) ∧ W.cell? ⟨g, 4, none⟩ = some (.int .i64 (m : Int))) (go_keep)
    ((first
      | (refine step_call3 (by rfl) 70 (.tmp 49) (.tmp 50) (.tmp 51) _ (by rfl) _ Tryz.func70 (by kernel_rfl) (by kernel_rfl) _ _ _ (by rfl) (by rfl) (by rfl) (HF2.out _ _ _ HKd.out HCd.out HT3.out) ?_; intro v7 w7 hR7; obtain ⟨ao7, c7, rfl, hk7, hf7⟩ := hR7; have y0 := hk7.cell y0; have z0 := hk7.cell z0; have z1 := hk7.cell z1; have z2 := hk7.cell z2; have z3 := hk7.cell z3; have z4 := hk7.cell z4)
      | (refine step_call5 (by rfl) 59 (.tmp 41) (.tmp 43) (.tmp 44) (.tmp 48) (.tmp 52) _ (by rfl) _ Tryz.func59 (by kernel_rfl) (by kernel_rfl) _ _ _ _ _ (by rfl) (by rfl) (by rfl) (by rfl) (by rfl) (HM2.out _ _ (Kp0.trans HKd.out hk7) (hf7.le HKd.out.size)) ?_; intro v9 w9 hR9; obtain ⟨a9, b9, rfl, hR9, hk9⟩ := hR9; have y0 := hk9.cell y0 HN0.out; have z0 := hk9.cell z0 HN1.out; have z1 := hk9.cell z1 HN1.out; have z2 := hk9.cell z2 HN1.out; have z3 := hk9.cell z3 HN1.out; have z4 := hk9.cell z4 HN1.out)))
  all_goals
    have HR9 := hid hR9
    clear hR9 hk7 hk9 hf7 y0 z0 z1 z2 z3 z4
    go_wp2
    go_ret2
    exact ⟨_, _, rfl, HR9.out⟩

end Go.Proofs.YticbbncdcannlaaGreat

/- The program's space at int64, walked: foldLayers. -/
namespace Go.Proofs.YticbbncdcannlaaGreat
open Go.RowKit Go.Maps Go.ChangeMaps Go.MapKept

theorem ten_cellsI {w : World} {g : Nat} {cur : Array Value} {ty : TypeId} {R : Nat → List Value} {N : Nat} (hg : w.heap[g]? = some (.cells cur ty (0, 0))) (h : TenRows cur R N) (q : Nat) (hq : q < N) (c : Nat) (hc : c < 10) : w.cell? ⟨g, q * 10 + c, none⟩ = (R q)[c]? := by
  rw [← h q hq c hc]
  exact cell_of_row _ _ _ _ _ _ hg

set_option maxRecDepth 100000 in
set_option maxHeartbeats 4000000 in
theorem xfoldLayersI (op : Int) (q g N : Nat) (hN : 1 ≤ N ∧ N ≤ 60) (cur : Array Value) (l t : List Int) (F : Nat → Int) (w : World) (P V FV : Nat → List Int) (mc : Nat)
    (HG : Hid (w.heap[g]? = some (.cells cur 107 (0, 0)))) (HT : Hid (TenRows cur (fun q => grC l t (F q)) N))
    (HC : Hid (∀ W i, i < N → Calls Tryz.prog 60 #[.agg (grC l t (F i)).toArray] W fun e w' => ∃ ao c, e = .returned (.slice ao mc c) ∧ Kp0 W w' ∧ Fr W.heap.size w' (.slice ao mc c) (P i)))
    (HRd : Hid (∀ W i vp, i < N → Kp0 w W → RdI W vp (P i) → Calls Tryz.prog 215 #[.pointer (some ⟨q, 0, none⟩), vp] W fun e w' => ∃ ao c, e = .returned (.slice ao mc c) ∧ Kp0 W w' ∧ Fr W.heap.size w' (.slice ao mc c) (V i)))
    (HCb : Hid (∀ W i v0 v1, i + 1 < N → Kp0 w W → Fr w.heap.size W v0 (FV i) → Fr w.heap.size W v1 (V (i + 1)) → Calls Tryz.prog 212 #[.pointer (some ⟨q, 0, none⟩), .int .i64 op, v0, v1] W fun e w' => ∃ ao c, e = .returned (.slice ao mc c) ∧ Kp0 W w' ∧ Fr W.heap.size w' (.slice ao mc c) (FV (i + 1))))
    (HV0 : Hid (FV 0 = V 0)) :
    Calls Tryz.prog 70 #[.int .i64 op, .iface 127 (.pointer (some ⟨q, 0, none⟩)), .slice (some ⟨g, 0, none⟩) N N] w fun e w' => ∃ ao c, e = .returned (.slice ao mc c) ∧ Kp0 w w' ∧ Fr w.heap.size w' (.slice ao mc c) (FV (N - 1)) := by
  have HC2 : Hid (∀ W i, i < N → Calls Tryz.prog 60 #[.agg (grC l t (F i)).toArray] W fun e w' => ∃ v, e = .returned v ∧ ∃ ao c, v = .slice ao mc c ∧ Kp0 W w' ∧ Fr W.heap.size w' (.slice ao mc c) (P i)) := hid (fun W i hi => (HC.out W i hi).mono (fun e w' ⟨ao, c, h1, h2, h3⟩ => ⟨_, h1, ao, c, rfl, h2, h3⟩))
  have HR2 : Hid (∀ W i vp, i < N → Kp0 w W → RdI W vp (P i) → Calls Tryz.prog 215 #[.pointer (some ⟨q, 0, none⟩), vp] W fun e w' => ∃ v, e = .returned v ∧ ∃ ao c, v = .slice ao mc c ∧ Kp0 W w' ∧ Fr W.heap.size w' (.slice ao mc c) (V i)) := hid (fun W i vp hi k hr => (HRd.out W i vp hi k hr).mono (fun e w' ⟨ao, c, h1, h2, h3⟩ => ⟨_, h1, ao, c, rfl, h2, h3⟩))
  have HCB2 : Hid (∀ W i v0 v1, i + 1 < N → Kp0 w W → Fr w.heap.size W v0 (FV i) → Fr w.heap.size W v1 (V (i + 1)) → Calls Tryz.prog 212 #[.pointer (some ⟨q, 0, none⟩), .int .i64 op, v0, v1] W fun e w' => ∃ v, e = .returned v ∧ ∃ ao c, v = .slice ao mc c ∧ Kp0 W w' ∧ Fr W.heap.size w' (.slice ao mc c) (FV (i + 1))) := hid (fun W i v0 v1 hi k h0 h1 => (HCb.out W i v0 v1 hi k h0 h1).mono (fun e w' ⟨ao, c, h1, h2, h3⟩ => ⟨_, h1, ao, c, rfl, h2, h3⟩))
  have HMR := hid (Tryz.mReadI ⟨q, 0, none⟩)
  have hna := Tryz.nReadI ⟨q, 0, none⟩
  have HMC := hid (Tryz.mCombineI ⟨q, 0, none⟩)
  have hnc := Tryz.nCombineI ⟨q, 0, none⟩
  have HTC : Hid (∀ W, Kp0 w W → ∀ i, i < N → ∀ c, c < 10 → W.cell? ⟨g, i * 10 + c, none⟩ = (grC l t (F i))[c]?) := hid (fun W k i hi c hc => ten_cellsI (k.heap HG.out) HT.out i hi c hc)
  clear HC HRd HCb
  unfold grC at HC2 HTC
  obtain ⟨n, hn⟩ : ∃ n, l.length = n := ⟨_, rfl⟩
  rw [hn] at HC2 HTC
  clear hn
  have hN0 : 0 < N := by omega
  have n0 : (0 : Int) < (N : Int) := by omega
  have y0 := HTC.out w (Kp0.refl _) 0 hN0 0 (by omega)
  have y1 := HTC.out w (Kp0.refl _) 0 hN0 1 (by omega)
  have y2 := HTC.out w (Kp0.refl _) 0 hN0 2 (by omega)
  have y3 := HTC.out w (Kp0.refl _) 0 hN0 3 (by omega)
  have y4 := HTC.out w (Kp0.refl _) 0 hN0 4 (by omega)
  have y5 := HTC.out w (Kp0.refl _) 0 hN0 5 (by omega)
  have y6 := HTC.out w (Kp0.refl _) 0 hN0 6 (by omega)
  have y7 := HTC.out w (Kp0.refl _) 0 hN0 7 (by omega)
  have y8 := HTC.out w (Kp0.refl _) 0 hN0 8 (by omega)
  have y9 := HTC.out w (Kp0.refl _) 0 hN0 9 (by omega)
  simp at y0 y1 y2 y3 y4 y5 y6 y7 y8 y9
  have HKd : Hid (Kp0 w w.drew) := hid (Kp0.refl w).drew
  go_enter Tryz.func70, Tryz.ntmps70
  go_wp2
  go_cut [7] from 10 (fun s7 W => ∃ ao c, s7 = .slice ao mc c ∧ Kp0 w W ∧ Fr w.heap.size W (.slice ao mc c) (FV 0))
  case first =>
    go_region_held3 (fun W => W.cell? ⟨g, 0, none⟩ = some (.int .i64 (nth l 0)) ∧ W.cell? ⟨g, 1, none⟩ = some (.int .i64 (nth l 1)) ∧ W.cell? ⟨g, 2, none⟩ = some (.int .i64 (nth l 2)) ∧ W.cell? ⟨g, 3, none⟩ = some (.int .i64 (nth l 3)) ∧ W.cell? ⟨g, 4, none⟩ = some (.int .i64 (n : Int)) ∧ W.cell? ⟨g, 5, none⟩ = some (.int .i64 (F 0)) ∧ W.cell? ⟨g, 6, none⟩ = some (.int .i64 (nth t 0)) ∧ W.cell? ⟨g, 7, none⟩ = some (.int .i64 (nth t 1)) ∧ W.cell? ⟨g, 8, none⟩ = some (.int .i64 (nth t 2)) ∧ W.cell? ⟨g, 9, none⟩ = some (.int .i64 (nth t 3))) (go_keep)
      ((first
        | (refine step_call1 (by rfl) 60 (.tmp 13) _ (by rfl) _ Tryz.func60 (by kernel_rfl) (by kernel_rfl) _ (by rfl) (HC2.out _ 0 hN0) ?_; intro v7 w7 hR7; obtain ⟨ao, c7, rfl, hk7, hf7⟩ := hR7; have y0 := hk7.cell y0; have y1 := hk7.cell y1; have y2 := hk7.cell y2; have y3 := hk7.cell y3; have y4 := hk7.cell y4; have y5 := hk7.cell y5; have y6 := hk7.cell y6; have y7 := hk7.cell y7; have y8 := hk7.cell y8; have y9 := hk7.cell y9)
        | (refine step_invoke1 (by rfl) (.tmp 17) "Read" (.tmp 14) _ (by rfl) _ (.slice ao mc c7) (by rfl) (by rfl) _ _ (HMR.out _ _) (HR2.out _ 0 _ hN0 (Kp0.trans HKd.out hk7) hf7.1) ?_; intro v8 w8 hR8; obtain ⟨ao8, c8, rfl, hk8, hf8⟩ := hR8; have y0 := hk8.cell y0; have y1 := hk8.cell y1; have y2 := hk8.cell y2; have y3 := hk8.cell y3; have y4 := hk8.cell y4; have y5 := hk8.cell y5; have y6 := hk8.cell y6; have y7 := hk8.cell y7; have y8 := hk8.cell y8; have y9 := hk8.cell y9)))
    all_goals
      have HR9 := hid (And.intro (Kp0.trans (Kp0.trans HKd.out hk7) hk8) (hf8.le (Kp0.trans HKd.out hk7).size))
      rw [← HV0.out] at HR9
      clear hk7 hk8 hf7 hf8 y0 y1 y2 y3 y4 y5 y6 y7 y8 y9
      go_wp2_with fail
      go_meet
      case rel => exact ⟨_, _, rfl, HR9.out.1, HR9.out.2⟩
  case rest =>
    obtain ⟨ao, c7, rfl, hK, hF⟩ := hcut
    have HK := hid hK
    have HF := hid hF
    clear hK hF y0 y1 y2 y3 y4 y5 y6 y7 y8 y9 HKd
    by_cases h1 : N = 1
    · subst h1
      go_wp2
      go_loopw [7, 9, 22] (fun s7 _ a w' => a = .int .i64 0 ∧ ∃ ao c, s7 = .slice ao mc c ∧ Hid (Kp0 w w') ∧ Hid (Fr w.heap.size w' (.slice ao mc c) (FV 0))) (fun _ _ _ _ => 0)
      case atStart => exact ⟨rfl, _, _, rfl, HK, HF⟩
      case round =>
        clear HK HF
        obtain ⟨rfl, ao, c, rfl, HK, HF⟩ := hrel
        go_wp2
        go_ret
        exact ⟨_, _, rfl, HK.out, HF.out⟩
    · obtain ⟨m, hm⟩ : ∃ m, N - 1 = m := ⟨_, rfl⟩
      have hmN : N = m + 1 := by omega
      have HMN := hid hmN
      have HNM := hid hm
      go_wp2
      clear hm hmN
      go_loopw [7, 9, 22] (fun s7 _ a w' => ∃ j : Nat, j ≤ m ∧ a = .int .i64 j ∧ ∃ ao c, s7 = .slice ao mc c ∧ Hid (Kp0 w w') ∧ Hid (Fr w.heap.size w' (.slice ao mc c) (FV j))) (fun _ _ a _ => m - (intOf a).toNat)
      case atStart => exact ⟨0, Nat.zero_le _, rfl, _, _, rfl, HK, HF⟩
      case round =>
        clear HK HF
        obtain ⟨j, hj, rfl, ao, c, rfl, HK, HF⟩ := hrel
        by_cases hlt : j < m
        · have j0 : (0 : Int) ≤ (j : Int) := by omega
          have j1 : (j : Int) < (m : Int) := by omega
          have hj1 : j + 1 < N := by have := HMN.out; omega
          have e10 : (j + 1) * 10 = 10 + j * 10 := by omega
          have hy : ∀ c, c < 10 → wr.cell? ⟨g, 10 + j * 10 + c, none⟩ = ([.int .i64 (nth l 0), .int .i64 (nth l 1), .int .i64 (nth l 2), .int .i64 (nth l 3), .int .i64 (n : Int), .int .i64 (F (j + 1)), .int .i64 (nth t 0), .int .i64 (nth t 1), .int .i64 (nth t 2), .int .i64 (nth t 3)] : List Value)[c]? := fun c hc => by rw [← e10]; exact HTC.out wr HK.out (j + 1) hj1 c hc
          have y0 : wr.cell? ⟨g, 10 + j * 10, none⟩ = some (.int .i64 (nth l 0)) := hy 0 (by omega)
          have y1 : wr.cell? ⟨g, 10 + j * 10 + 1, none⟩ = some (.int .i64 (nth l 1)) := hy 1 (by omega)
          have y2 : wr.cell? ⟨g, 10 + j * 10 + 2, none⟩ = some (.int .i64 (nth l 2)) := hy 2 (by omega)
          have y3 : wr.cell? ⟨g, 10 + j * 10 + 3, none⟩ = some (.int .i64 (nth l 3)) := hy 3 (by omega)
          have y4 : wr.cell? ⟨g, 10 + j * 10 + 4, none⟩ = some (.int .i64 (n : Int)) := hy 4 (by omega)
          have y5 : wr.cell? ⟨g, 10 + j * 10 + 5, none⟩ = some (.int .i64 (F (j + 1))) := hy 5 (by omega)
          have y6 : wr.cell? ⟨g, 10 + j * 10 + 6, none⟩ = some (.int .i64 (nth t 0)) := hy 6 (by omega)
          have y7 : wr.cell? ⟨g, 10 + j * 10 + 7, none⟩ = some (.int .i64 (nth t 1)) := hy 7 (by omega)
          have y8 : wr.cell? ⟨g, 10 + j * 10 + 8, none⟩ = some (.int .i64 (nth t 2)) := hy 8 (by omega)
          have y9 : wr.cell? ⟨g, 10 + j * 10 + 9, none⟩ = some (.int .i64 (nth t 3)) := hy 9 (by omega)
          clear hy e10
          go_wp2
          have HBA : Hid ((wr.alloc (.cells #[.int .i64 (nth l 0), .int .i64 (nth l 1), .int .i64 (nth l 2), .int .i64 (nth l 3), .int .i64 (n : Int), .int .i64 (F (j + 1)), .int .i64 (nth t 0), .int .i64 (nth t 1), .int .i64 (nth t 2), .int .i64 (nth t 3)] 107)).heap[wr.heap.size]? = some (.cells #[.int .i64 (nth l 0), .int .i64 (nth l 1), .int .i64 (nth l 2), .int .i64 (nth l 3), .int .i64 (n : Int), .int .i64 (F (j + 1)), .int .i64 (nth t 0), .int .i64 (nth t 1), .int .i64 (nth t 2), .int .i64 (nth t 3)] 107 (0, 0))) := heap_alloc_new wr _
          have HKA : Hid (Kp0 w (wr.alloc (.cells #[.int .i64 (nth l 0), .int .i64 (nth l 1), .int .i64 (nth l 2), .int .i64 (nth l 3), .int .i64 (n : Int), .int .i64 (F (j + 1)), .int .i64 (nth t 0), .int .i64 (nth t 1), .int .i64 (nth t 2), .int .i64 (nth t 3)] 107))) := HK.out.alloc _
          have HFA : Hid (Fr w.heap.size (wr.alloc (.cells #[.int .i64 (nth l 0), .int .i64 (nth l 1), .int .i64 (nth l 2), .int .i64 (nth l 3), .int .i64 (n : Int), .int .i64 (F (j + 1)), .int .i64 (nth t 0), .int .i64 (nth t 1), .int .i64 (nth t 2), .int .i64 (nth t 3)] 107)) (.slice ao mc c) (FV j)) := HF.out.kp0 ((Kp.refl _ wr).alloc _)
          clear y0 y1 y2 y3 y4 y5 y6 y7 y8 y9
          generalize wr.alloc (.cells #[.int .i64 (nth l 0), .int .i64 (nth l 1), .int .i64 (nth l 2), .int .i64 (nth l 3), .int .i64 (n : Int), .int .i64 (F (j + 1)), .int .i64 (nth t 0), .int .i64 (nth t 1), .int .i64 (nth t 2), .int .i64 (nth t 3)] 107) = W4 at HBA HKA HFA ⊢
          generalize wr.heap.size = b0 at HBA ⊢
          obtain ⟨y0, y1, y2, y3, y4, y5, y6, y7, y8, y9⟩ := cells10 HBA.out
          have HKd : Hid (Kp0 w W4.drew) := hid HKA.out.drew
          have HFd : Hid (Fr w.heap.size W4.drew (.slice ao mc c) (FV j)) := hid (HFA.out.kp0 (Kp0.refl _).drew)
          clear HBA HKA HFA
          go_region_held3 (fun W => W.cell? ⟨b0, 0, none⟩ = some (.int .i64 (nth l 0)) ∧ W.cell? ⟨b0, 1, none⟩ = some (.int .i64 (nth l 1)) ∧ W.cell? ⟨b0, 2, none⟩ = some (.int .i64 (nth l 2)) ∧ W.cell? ⟨b0, 3, none⟩ = some (.int .i64 (nth l 3)) ∧ W.cell? ⟨b0, 4, none⟩ = some (.int .i64 (n : Int)) ∧ W.cell? ⟨b0, 5, none⟩ = some (.int .i64 (F (j + 1))) ∧ W.cell? ⟨b0, 6, none⟩ = some (.int .i64 (nth t 0)) ∧ W.cell? ⟨b0, 7, none⟩ = some (.int .i64 (nth t 1)) ∧ W.cell? ⟨b0, 8, none⟩ = some (.int .i64 (nth t 2)) ∧ W.cell? ⟨b0, 9, none⟩ = some (.int .i64 (nth t 3))) (go_keep)
            ((first
              | (refine step_call1 (by rfl) 60 (.tmp 30) _ (by rfl) _ Tryz.func60 (by kernel_rfl) (by kernel_rfl) _ (by rfl) (HC2.out _ (j + 1) hj1) ?_; intro v7 w7 hR7; obtain ⟨ao7, c7, rfl, hk7, hf7⟩ := hR7; have y0 := hk7.cell y0; have y1 := hk7.cell y1; have y2 := hk7.cell y2; have y3 := hk7.cell y3; have y4 := hk7.cell y4; have y5 := hk7.cell y5; have y6 := hk7.cell y6; have y7 := hk7.cell y7; have y8 := hk7.cell y8; have y9 := hk7.cell y9)
              | (refine step_invoke1 (by rfl) (.tmp 34) "Read" (.tmp 31) _ (by rfl) _ (.slice ao7 mc c7) (by rfl) (by rfl) _ _ (HMR.out _ _) (HR2.out _ (j + 1) _ hj1 (Kp0.trans HKd.out hk7) hf7.1) ?_; intro v8 w8 hR8; obtain ⟨ao8, c8, rfl, hk8, hf8⟩ := hR8; have y0 := hk8.cell y0; have y1 := hk8.cell y1; have y2 := hk8.cell y2; have y3 := hk8.cell y3; have y4 := hk8.cell y4; have y5 := hk8.cell y5; have y6 := hk8.cell y6; have y7 := hk8.cell y7; have y8 := hk8.cell y8; have y9 := hk8.cell y9)
              | (refine step_invoke3 (by rfl) (.tmp 38) "Combine" (.tmp 27) (.tmp 28) (.tmp 35) _ (by rfl) _ (.int .i64 op) (.slice ao mc c) (.slice ao8 mc c8) (by rfl) (by rfl) (by rfl) (by rfl) _ _ (HMC.out _ _ _ _) (HCB2.out _ j _ _ hj1 (Kp0.trans (Kp0.trans HKd.out hk7) hk8) (HFd.out.kp0 (Kp0.trans hk7 hk8)) (hf8.le (Kp0.trans HKd.out hk7).size)) ?_; intro v9 w9 hR9; obtain ⟨ao9, c9, rfl, hk9, hf9⟩ := hR9; have y0 := hk9.cell y0; have y1 := hk9.cell y1; have y2 := hk9.cell y2; have y3 := hk9.cell y3; have y4 := hk9.cell y4; have y5 := hk9.cell y5; have y6 := hk9.cell y6; have y7 := hk9.cell y7; have y8 := hk9.cell y8; have y9 := hk9.cell y9)))
          all_goals
            have HK9 := hid (Kp0.trans (Kp0.trans (Kp0.trans HKd.out hk7) hk8) hk9)
            have HF9 := hid (hf9.le (Kp0.trans (Kp0.trans HKd.out hk7) hk8).size)
            clear hk9 hf9 hk8 hf8 hk7 hf7 y0 y1 y2 y3 y4 y5 y6 y7 y8 y9
            go_wp2
            go_roundw
            case rel => exact ⟨j + 1, by omega, by go_num, ao9, c9, rfl, HK9, HF9⟩
            case measure => simp [intOf]; omega
        · obtain rfl : j = m := by omega
          have j1 : ¬ (j : Int) < (j : Int) := by omega
          go_wp2
          go_ret
          exact ⟨_, _, rfl, HK.out, by rw [HNM.out]; exact HF.out⟩

end Go.Proofs.YticbbncdcannlaaGreat

/- The program's space at int64, walked: Fold, where it makes an array. -/
namespace Go.Proofs.YticbbncdcannlaaGreat
open Go.RowKit Go.Maps Go.ChangeMaps Go.MapKept

set_option maxRecDepth 100000 in
set_option maxHeartbeats 4000000 in
theorem xFoldOkI {T : Tags} {o : Nat} {w : World} {p : Nat} {L : XL} {X : XS} (h : XAt T o w p L X) (op hd : Int) (k N : Nat) (x : XA) (hA : X.A hd = some x) (hk : x.kind = 2) (h1 : 1 ≤ op) (h5 : op ≤ 5) (h2 : op ≠ 2) (hN : 1 ≤ N) (l t : List Int) (F : Nat → Int) (mv : Nat) (V : List Int) {S1 : Nat → Prop} (HS1 : Hid (∀ b, S1 b → b < w.heap.size)) {R : Int → Int → World → Prop}
    (HL : Hid (∀ W, Kp0 w W → Calls Tryz.prog 69 #[.agg (grC x.l x.t x.f).toArray, .int .i64 (k : Int)] W fun e w' => ∃ g, e = .returned (.tuple #[.slice (some ⟨g, 0, none⟩) N N, .bool true]) ∧ Kp0 W w' ∧ W.heap.size ≤ g ∧ ∃ cur, w'.heap[g]? = some (.cells cur 107 (0, 0)) ∧ cur.size = N * 10 ∧ TenRows cur (fun q => grC l t (F q)) N))
    (HF : Hid (∀ W g cur, Kp0 w W → W.heap[g]? = some (.cells cur 107 (0, 0)) → TenRows cur (fun q => grC l t (F q)) N → Calls Tryz.prog 70 #[.int .i64 op, .iface 127 (.pointer (some ⟨L.q2, 0, none⟩)), .slice (some ⟨g, 0, none⟩) N N] W fun e w' => ∃ ao c, e = .returned (.slice ao mv c) ∧ Kp0 W w' ∧ Fr W.heap.size w' (.slice ao mv c) V))
    (HM : Hid (∀ W vv, Kp0 w W → Fr w.heap.size W vv V → Calls Tryz.prog 59 #[.pointer (some ⟨p, 0, none⟩), .int .i64 2, .iface 127 (.pointer (some ⟨L.q2, 0, none⟩)), .agg (shC l).toArray, vv] W fun e w' => ∃ a b, e = .returned (.tuple #[.int .i64 a, .int .i64 b]) ∧ R a b w' ∧ Kp S1 W w')) :
    Calls Tryz.prog 30 #[.pointer (some ⟨p, 0, none⟩), .int .i64 op, .int .i64 hd, .int .i64 (k : Int)] w fun e w' => ∃ a b, e = .returned (.tuple #[.int .i64 a, .int .i64 b]) ∧ R a b w' := by
  have HFD := hid (xfind_some h hd x hA (.inr hk))
  rw [hk, inVI] at HFD
  have HF2 : Hid (∀ W g cur, Kp0 w W → W.heap[g]? = some (.cells cur 107 (0, 0)) → TenRows cur (fun q => grC l t (F q)) N → Calls Tryz.prog 70 #[.int .i64 op, .iface 127 (.pointer (some ⟨L.q2, 0, none⟩)), .slice (some ⟨g, 0, none⟩) N N] W fun e w' => ∃ v, e = .returned v ∧ ∃ ao c, v = .slice ao mv c ∧ Kp0 W w' ∧ Fr W.heap.size w' (.slice ao mv c) V) := hid (fun W g cur kk hg ht => (HF.out W g cur kk hg ht).mono (fun e w' ⟨ao, c, h1, h2, h3⟩ => ⟨_, h1, ao, c, rfl, h2, h3⟩))
  have HM2 : Hid (∀ W vv, Kp0 w W → Fr w.heap.size W vv V → Calls Tryz.prog 59 #[.pointer (some ⟨p, 0, none⟩), .int .i64 2, .iface 127 (.pointer (some ⟨L.q2, 0, none⟩)), .agg (shC l).toArray, vv] W fun e w' => ∃ v, e = .returned v ∧ ∃ a b, v = .tuple #[.int .i64 a, .int .i64 b] ∧ R a b w' ∧ Kp S1 W w') := hid (fun W vv kk hr => (HM.out W vv kk hr).mono (fun e w' ⟨a, b, h1, h2⟩ => ⟨_, h1, a, b, rfl, h2⟩))
  have HO := hid (xIsOp_yes op w h1 h5)
  have b2 : (op == 2) = false := by simp [h2]
  clear HF HM
  generalize L.q2 = q at *
  unfold XA.cs at HFD
  rw [hk] at HFD
  unfold grC at HL
  unfold shC at HM2
  have HTR : Hid (∀ (W : World) g cur, W.heap[g]? = some (.cells cur 107 (0, 0)) → TenRows cur (fun q => grC l t (F q)) N → W.cell? ⟨g, 0, none⟩ = some (.int .i64 (nth l 0)) ∧ W.cell? ⟨g, 1, none⟩ = some (.int .i64 (nth l 1)) ∧ W.cell? ⟨g, 2, none⟩ = some (.int .i64 (nth l 2)) ∧ W.cell? ⟨g, 3, none⟩ = some (.int .i64 (nth l 3)) ∧ W.cell? ⟨g, 4, none⟩ = some (.int .i64 (l.length : Int))) := hid (fun W g cur hg ht => by
    have key := fun c hc => ten_cellsI hg ht 0 hN c hc
    have k0 := key 0 (by omega)
    have k1 := key 1 (by omega)
    have k2 := key 2 (by omega)
    have k3 := key 3 (by omega)
    have k4 := key 4 (by omega)
    simp [grC] at k0 k1 k2 k3 k4
    exact ⟨k0, k1, k2, k3, k4⟩)
  generalize x.l.length = n at *
  obtain ⟨m, hm⟩ : ∃ m, l.length = m := ⟨_, rfl⟩
  rw [hm] at HM2 HTR
  have hN0 : 0 < N := hN
  have n0 : (0 : Int) < (N : Int) := by omega
  clear h hA hk h1 h5 h2 hm
  go_enter Tryz.func30, Tryz.ntmps30
  go_wp2_with fail
  refine HO.out.mono ?_
  rintro e w1 ⟨rfl, hw⟩
  obtain rfl := hw.symm
  clear hw HO
  go_wp2_with fail
  refine HFD.out.mono ?_
  rintro e w2 ⟨rfl, hw⟩
  have HK := hid hw
  have HB2 : Hid ((w2.alloc (.cells #[.int .i64 2, .int .i64 x.buf, .int .i64 (nth x.l 0), .int .i64 (nth x.l 1), .int .i64 (nth x.l 2), .int .i64 (nth x.l 3), .int .i64 (n : Int), .int .i64 x.f, .int .i64 (nth x.t 0), .int .i64 (nth x.t 1), .int .i64 (nth x.t 2), .int .i64 (nth x.t 3), .bool x.ro] 109)).heap[w2.heap.size]? = some (.cells #[.int .i64 2, .int .i64 x.buf, .int .i64 (nth x.l 0), .int .i64 (nth x.l 1), .int .i64 (nth x.l 2), .int .i64 (nth x.l 3), .int .i64 (n : Int), .int .i64 x.f, .int .i64 (nth x.t 0), .int .i64 (nth x.t 1), .int .i64 (nth x.t 2), .int .i64 (nth x.t 3), .bool x.ro] 109 (0, 0))) := heap_alloc_new w2 _
  have HK2 : Hid (Kp0 w (w2.alloc (.cells #[.int .i64 2, .int .i64 x.buf, .int .i64 (nth x.l 0), .int .i64 (nth x.l 1), .int .i64 (nth x.l 2), .int .i64 (nth x.l 3), .int .i64 (n : Int), .int .i64 x.f, .int .i64 (nth x.t 0), .int .i64 (nth x.t 1), .int .i64 (nth x.t 2), .int .i64 (nth x.t 3), .bool x.ro] 109))) := HK.out.alloc _
  clear hw
  go_wp2_with fail
  refine (HL.out _ HK2.out).mono ?_
  rintro e w3 ⟨g, rfl, hk3, hg3, cur, hc3, -, ht3⟩
  have HB3 := hid (hk3.heap HB2.out)
  have HK3 : Hid (Kp0 w w3) := HK2.out.trans hk3
  have HN0 : Hid (¬ S1 w2.heap.size) := hid (fun e => by have := HS1.out _ e; have := HK.out.size; omega)
  have HN1 : Hid (¬ S1 g) := hid (fun e => by have := HS1.out _ e; have := HK2.out.size; omega)
  have HC3 := hid hc3
  have HT3 := hid ht3
  clear hk3 hg3 hc3 ht3 HB2 HK2 HK HL HFD
  generalize w2.heap.size = b0 at *
  obtain ⟨y0, -⟩ := cells13 HB3.out
  obtain ⟨z0, z1, z2, z3, z4⟩ := HTR.out _ _ _ HC3.out HT3.out
  have HKd : Hid (Kp0 w w3.drew) := hid HK3.out.drew
  have HCd : Hid (w3.drew.heap[g]? = some (.cells cur 107 (0, 0))) := hid HC3.out
  clear HTR
  go_wp2
  go_region_held3 (fun W => W.cell? ⟨b0, 0, none⟩ = some (.int .i64 2) ∧ W.cell? ⟨g, 0, none⟩ = some (.int .i64 (nth l 0)) ∧ W.cell? ⟨g, 1, none⟩ = some (.int .i64 (nth l 1)) ∧ W.cell? ⟨g, 2, none⟩ = some (.int .i64 (nth l 2)) ∧ W.cell? ⟨g, 3, none⟩ = some (.int .i64 (nth l 3)) ∧ W.cell? ⟨g, 4, none⟩ = some (.int .i64 (m : Int))) (go_keep)
    ((first
      | (refine step_call3 (by rfl) 70 (.tmp 49) (.tmp 50) (.tmp 51) _ (by rfl) _ Tryz.func70 (by kernel_rfl) (by kernel_rfl) _ _ _ (by rfl) (by rfl) (by rfl) (HF2.out _ _ _ HKd.out HCd.out HT3.out) ?_; intro v7 w7 hR7; obtain ⟨ao7, c7, rfl, hk7, hf7⟩ := hR7; have y0 := hk7.cell y0; have z0 := hk7.cell z0; have z1 := hk7.cell z1; have z2 := hk7.cell z2; have z3 := hk7.cell z3; have z4 := hk7.cell z4)
      | (refine step_call5 (by rfl) 59 (.tmp 41) (.tmp 43) (.tmp 44) (.tmp 48) (.tmp 52) _ (by rfl) _ Tryz.func59 (by kernel_rfl) (by kernel_rfl) _ _ _ _ _ (by rfl) (by rfl) (by rfl) (by rfl) (by rfl) (HM2.out _ _ (Kp0.trans HKd.out hk7) (hf7.le HKd.out.size)) ?_; intro v9 w9 hR9; obtain ⟨a9, b9, rfl, hR9, hk9⟩ := hR9; have y0 := hk9.cell y0 HN0.out; have z0 := hk9.cell z0 HN1.out; have z1 := hk9.cell z1 HN1.out; have z2 := hk9.cell z2 HN1.out; have z3 := hk9.cell z3 HN1.out; have z4 := hk9.cell z4 HN1.out)))
  all_goals
    have HR9 := hid hR9
    clear hR9 hk7 hk9 hf7 y0 z0 z1 z2 z3 z4
    go_wp2
    go_ret2
    exact ⟨_, _, rfl, HR9.out⟩

end Go.Proofs.YticbbncdcannlaaGreat

/- The program's calls in the document's words: Fold. -/
namespace Go.Proofs.YticbbncdcannlaaGreat
open Go.RowKit

theorem puts_congr {σ : Sp} {kind a : Int} {f g : Nat → Int} (k : Nat) (h : ∀ j, j < k → f j = g j) : σ.puts kind a f k = σ.puts kind a g k := by
  induction k with
  | zero => rfl
  | succ k ih => rw [Sp.puts, Sp.puts, ih (fun j hj => h j (by omega)), h k (by omega)]

theorem fresh_congr {σ : Sp} {kind : Int} {s : List Int} {f g : Nat → Int} (h : ∀ j, j < (vol s).toNat → f j = g j) : σ.fresh kind s f = σ.fresh kind s g := by
  unfold Sp.fresh Sp.made
  rw [puts_congr _ h]

/-- A number of a kind. -/
def inK (kind v : Int) : Prop := IntKind.i64.wrap v = v ∧ (kind = 1 → 0 ≤ v ∧ v < 256)

theorem opK_in {op kind a b : Int} (hk : kind = 1 ∨ kind = 2) (ha : inK kind a) (hb : inK kind b) : inK kind (opK op kind a b) := by
  have key : ∀ v, inK kind (wrapK kind v) := fun v => by
    unfold inK wrapK
    rcases hk with rfl | rfl
    · rw [if_pos rfl]
      refine ⟨?_, fun _ => ?_⟩
      · simp [IntKind.wrap, IntKind.signed, IntKind.bits]; omega
      · omega
    · rw [if_neg (by omega)]
      exact ⟨wrapSI_range v, fun e => by omega⟩
  unfold opK
  repeat' split
  all_goals first | exact key _ | exact ha | exact hb

theorem foldV_in {op kind : Int} (hk : kind = 1 ∨ kind = 2) {f : Nat → Int} (h : ∀ j, inK kind (f j)) (n : Nat) : inK kind (foldV op kind f n) := by
  induction n with
  | zero => exact h 0
  | succ n ih => exact opK_in hk ih (h _)

theorem opWB_eq {op a b : Int} (ha : inK 1 a) (hb : inK 1 b) : opWB op (IntKind.wrap .u8 a) (IntKind.wrap .u8 b) = opK op 1 a b := by
  have h1 := ha.2 rfl
  have h2 := hb.2 rfl
  rw [wrap_u8, wrap_u8, show a % 256 = a by omega, show b % 256 = b by omega]
  unfold opWB opK wrapK
  simp only [if_true, wrap_u8]

theorem opWI_eq {op a b : Int} (ha : inK 2 a) (hb : inK 2 b) : opWI op (IntKind.wrap .i64 a) (IntKind.wrap .i64 b) = opK op 2 a b := by
  rw [ha.1, hb.1]
  rfl

/-- What lies along an axis behind an index of the others. -/
def Sp.along (σ : Sp) (a : Arr) (k r : Nat) (x : Nat) : Int := nth (σ.valuesOf a) (rank a.shape (foldL (idx (foldS a.shape k) r) k x)).toNat

theorem picked_layer (σ : Sp) (a : Arr) (k q : Nat) : picked (σ.valuesOf a) (lyRk a.shape k q) = mkL (vol (foldS a.shape k)).toNat fun r => σ.along a k r q := by
  refine ext_nth (by simp [picked, lyRk_length, mkL_length]) (fun j hj => ?_)
  have hj' : j < (vol (foldS a.shape k)).toNat := by simpa [picked, lyRk_length] using hj
  rw [picked_nth _ _ _ (by rw [lyRk_length]; exact hj'), lyRk_nth _ _ _ _ hj', mkL_nth, if_pos hj']
  rfl

theorem lyRk_bd {l : List Int} (hs : okShape l) {k : Nat} (hk : k < l.length) {x : Int} (hx : 0 ≤ x ∧ x < nth l k) (j : Nat) (hj : j < (lyRk l k x).length) : 0 ≤ nth (lyRk l k x) j ∧ nth (lyRk l k x) j < vol l := by
  rw [lyRk_length] at hj
  rw [lyRk_nth _ _ _ _ hj]
  have hin := foldL_in hk hx (idx_in (foldS l k) j (foldS_sized hs.2.1 hk))
  rw [rank_in hin]
  have := rank_bd l _ hs.2.1 (fun q hq => hin.2 q hq) l.length (Nat.le_refl _)
  rw [List.take_length] at this
  exact this

/-- Cells of a layer, read: its values. -/
theorem layer_read {σ : Sp} {a : Arr} {c : List Int} (hs : okShape a.shape) (hl : (a.cells.length : Int) = vol a.shape) (hc : (a.cells.map fun q => nth c q.toNat) = σ.valuesOf a) {k : Nat} (hk : k < a.shape.length) {x : Nat} (hx : (x : Int) < nth a.shape k) :
    ((picked a.cells (lyRk a.shape k x)).map fun p => nth c p.toNat) = mkL (vol (foldS a.shape k)).toNat fun r => σ.along a k r x := by
  rw [← picked_layer]
  refine ext_nth (by simp [picked]) (fun j hj => ?_)
  have hj' : j < (lyRk a.shape k x).length := by simpa [picked] using hj
  have hb := lyRk_bd hs hk (x := (x : Int)) ⟨by omega, hx⟩ j hj'
  rw [map_nth _ _ _ (by simpa [picked] using hj'), picked_nth _ _ _ hj', picked_nth _ _ _ hj', ← hc, map_nth _ _ _ (by omega)]

/-- Fold, in the document's words. -/
theorem xc_fold {T : Tags} {o : Nat} {w : World} {p : Nat} {σ : Sp} (op h axis : Int) (hR : XRep T o w p σ) (hm : σ.arrs.length + 1 ≤ 100000000) (hb : σ.bufs.length + 1 ≤ 100000000) :
    Calls Tryz.prog 30 #[.pointer (some ⟨p, 0, none⟩), .int .i64 op, .int .i64 h, .int .i64 axis] w fun e w' => e = .returned (.tuple #[.int .i64 (σ.fold op h axis).2.1, .int .i64 (σ.fold op h axis).2.2]) ∧ Step XRep T o w p (σ.fold op h axis).1 w' := by
  have hR' := hR
  obtain ⟨hok, L, X, hX, hT⟩ := hR
  by_cases hop : op < 1 ∨ 5 < op ∨ op = 2
  · have hres : σ.fold op h axis = (σ, 0, 1) := by simp [Sp.fold, hop]
    rw [hres]
    refine (xFold_op p op h axis w hop).mono ?_
    rintro e w' ⟨rfl, hk⟩
    exact ⟨rfl, hR'.stay hk⟩
  have h1 : 1 ≤ op := by omega
  have h5 : op ≤ 5 := by omega
  have h2 : op ≠ 2 := by omega
  cases hf : σ.find h with
  | none =>
    have hres : σ.fold op h axis = (σ, 0, 2) := by simp [Sp.fold, hop, hf]
    rw [hres]
    refine (xFold_none hX op h axis h1 h5 h2 (hT.non h hf)).mono ?_
    rintro e w' ⟨rfl, hk⟩
    exact ⟨rfl, hR'.stay hk⟩
  | some a =>
    obtain ⟨x, hA, hx⟩ := hT.som h a hf
    have ha := kind_of hok hf
    have hkd : x.kind = 1 ∨ x.kind = 2 := by rw [hx.kind]; exact ha.kind
    by_cases hax : axis < 0 ∨ (a.shape.length : Int) ≤ axis
    · have hres : σ.fold op h axis = (σ, 0, 5) := by simp [Sp.fold, hop, hf, hax]
      rw [hres]
      refine (xFold_axis hX op h axis h1 h5 h2 x hA hkd hx.g.shape.1 (by rw [hx.l]; exact hax)).mono ?_
      rintro e w' ⟨rfl, hk⟩
      exact ⟨rfl, hR'.stay hk⟩
    · obtain ⟨k, rfl⟩ : ∃ k : Nat, axis = (k : Int) := ⟨axis.toNat, by omega⟩
      have hk : k < a.shape.length := by omega
      have hkx : k < x.l.length := by rw [hx.l]; exact hk
      have hs : okShape a.shape := ha.shape
      have hs' := foldS_ok hs hk
      have hsb : shapeB (foldS a.shape k) = true := (shapeB_iff _).2 hs'
      have h6 := hs.2.1 k hk
      obtain ⟨N, hN⟩ : ∃ N : Nat, nth a.shape k = (N : Int) := ⟨(nth a.shape k).toNat, by omega⟩
      have hNx : nth x.l k = (N : Int) := by rw [hx.l]; exact hN
      have hNb : 1 ≤ N ∧ N ≤ 60 := by omega
      have hbd := hx.g.bds
      obtain ⟨m, hmm⟩ : ∃ m, (vol (foldS a.shape k)).toNat = m := ⟨_, rfl⟩
      have hm1 : 1 ≤ m ∧ m ≤ 3600 := by have := vol_pos_of hs'.2.1; have := hs'.2.2; omega
      obtain ⟨VQ, hVQ⟩ : ∃ VQ : Nat → List Int, VQ = fun q => mkL m fun r => σ.along a k r q := ⟨_, rfl⟩
      obtain ⟨FV, hFV⟩ : ∃ FV : Nat → List Int, FV = fun q => mkL m fun r => foldV op a.kind (σ.along a k r) q := ⟨_, rfl⟩
      obtain ⟨P, hP⟩ : ∃ P : Nat → List Int, P = fun q : Nat => picked a.cells (lyRk a.shape k q) := ⟨_, rfl⟩
      have hVl : ∀ q, (VQ q).length = m := fun q => by rw [hVQ]; exact mkL_length _ _
      have hFl : ∀ q, (FV q).length = m := fun q => by rw [hFV]; exact mkL_length _ _
      have hPl : ∀ q, (P q).length = m := fun q => by rw [hP]; simp [picked, lyRk_length, hmm]
      have hVn : ∀ q j, j < m → nth (VQ q) j = σ.along a k j q := fun q j hj => by rw [hVQ]; simp only; rw [mkL_nth, if_pos hj]
      have hFn : ∀ q j, j < m → nth (FV q) j = foldV op a.kind (σ.along a k j) q := fun q j hj => by rw [hFV]; simp only; rw [mkL_nth, if_pos hj]
      have z0 : inK a.kind 0 := ⟨by simp [IntKind.wrap, IntKind.signed, IntKind.bits], fun _ => by omega⟩
      have hal : ∀ r q, inK a.kind (σ.along a k r q) := fun r q => hT.valuesIn ha _
      have hin : ∀ q j, inK a.kind (nth (VQ q) j) := fun q j => by
        by_cases hj : j < m
        · rw [hVn q j hj]; exact hal j q
        · rw [nth_out (by rw [hVl]; omega)]; exact z0
      have hFin : ∀ q j, inK a.kind (nth (FV q) j) := fun q j => by
        by_cases hj : j < m
        · rw [hFn q j hj]; exact foldV_in ha.kind (fun x => hal j x) q
        · rw [nth_out (by rw [hFl]; omega)]; exact z0
      have hPin : ∀ i, i < N → ∀ j, j < (P i).length → 0 ≤ nth (P i) j ∧ nth (P i) j < σ.cap a.kind := fun i hi j hj => by
        rw [hP] at hj ⊢
        simp only at hj ⊢
        have hj' : j < (lyRk a.shape k i).length := by simpa [picked] using hj
        have hbq := lyRk_bd hs hk (x := (i : Int)) (by rw [hN]; omega) j hj'
        rw [picked_nth _ _ _ hj']
        exact ha.inside _ (by have := ha.length; omega)
      have hCells : ∀ W i, i < N → Calls Tryz.prog 60 #[.agg (grC (foldS x.l k) (foldS x.t k) (x.f + (i : Int) * nth x.t k)).toArray] W fun e w' => ∃ ao c, e = .returned (.slice ao m c) ∧ Kp0 W w' ∧ Fr W.heap.size w' (.slice ao m c) (P i) := fun W i hi => by
        have hq : 0 ≤ (i : Int) ∧ (i : Int) < nth x.l k := by rw [hNx]; omega
        refine (xcells_calls (foldS x.l k) (foldS x.t k) (x.f + (i : Int) * nth x.t k) _ W (layer_ok hx.g hkx hq)).mono ?_
        rintro e w' ⟨v, rfl, hn⟩
        rw [layer_cells hx.g hkx hq, hx.cells, hx.l, show picked a.cells (lyRk a.shape k i) = P i by rw [hP]] at hn
        obtain ⟨ao, c, rfl, k', hfr⟩ := hn.fr
        rw [hPl] at hfr ⊢
        exact ⟨ao, c, rfl, k', hfr⟩
      have hne : FV (N - 1) ≠ [] := fun e => by have := hFl (N - 1); rw [e] at this; simp at this; omega
      have hX1 := hX.tags (retag_to w T (o + 1, 0))
      have hS1 : ∀ b, (retag w T (o + 1, 0) b).1 = o → b < w.heap.size := fun b e => by
        rcases Nat.lt_or_ge b w.heap.size with h1 | h1
        · exact h1
        · rw [retag_new h1] at e; simp at e
      have hres : σ.fold op h k = σ.fresh a.kind (foldS a.shape k) (fun i => asK a.kind (nth (FV (N - 1)) i)) := by
        have e0 : σ.fold op h k = σ.fresh a.kind (foldS a.shape k) (fun r => asK a.kind (σ.folded op a k r)) := by
          unfold Sp.fold
          rw [if_neg hop, hf]
          simp only
          rw [if_neg hax, Int.toNat_natCast]
        rw [e0]
        refine fresh_congr (fun j hj => ?_)
        rw [hmm] at hj
        rw [hFn _ j hj]
        unfold Sp.folded
        rw [hN, Int.toNat_natCast]
        rfl
      have hF0 : FV 0 = VQ 0 := by rw [hFV, hVQ]; rfl
      rcases ha.kind with hk1 | hk2
      · have heq := read_eq hx hf ha (c := X.c1) (bs := X.b1) (by rw [hk1]; exact hT.k1)
        rw [hk1] at hres hin hFin
        rw [hres]
        refine (xFoldOkB hX op h k N x hA (by rw [hx.kind, hk1]) h1 h5 h2 hNb.1 (foldS x.l k) (foldS x.t k) (fun q => x.f + (q : Int) * nth x.t k) m (FV (N - 1)) (hid hS1) (R := fun r b w' => (r = (σ.fresh 1 (foldS a.shape k) fun i => asK 1 (nth (FV (N - 1)) i)).2.1 ∧ b = (σ.fresh 1 (foldS a.shape k) fun i => asK 1 (nth (FV (N - 1)) i)).2.2) ∧ Step XRep T o w p (σ.fresh 1 (foldS a.shape k) fun i => asK 1 (nth (FV (N - 1)) i)).1 w') (hid (fun W _ => xLayers_yes x.l x.t x.f k N W _ hx.g hkx hNx hbd.2 (hbd.1 k hkx))) (hid (fun W g cur kW hg ht => ?_)) (hid (fun W vv kW hfr => ?_))).mono ?_
        · refine xfoldLayersB op L.q1 g N hNb cur (foldS x.l k) (foldS x.t k) (fun q => x.f + (q : Int) * nth x.t k) W P VQ FV m (hid hg) (hid ht) (hid (fun W2 i hi => hCells W2 i hi)) (hid (fun W2 i vp hi k2 hrd => ?_)) (hid (fun W2 i v0 v1 hi k2 hv0 hv1 => ?_)) (hid hF0)
          · refine (xReadB_calls (hX.kp0 (Kp0.trans kW k2)).s1 (P i) vp hrd (fun j hj => ?_) (hT.k1.wrap (.inl rfl)) (by rw [hPl]; omega)).mono ?_
            · have := hPin i hi j hj
              rw [hk1] at this
              rw [hT.k1.len]
              exact this
            · rintro e w' ⟨v, rfl, hn⟩
              rw [show ((P i).map fun p => nth X.c1 p.toNat) = VQ i by rw [hP, hVQ, ← hmm]; exact layer_read hs ha.length heq hk (by rw [hN]; omega)] at hn
              obtain ⟨ao, c, rfl, k', hfr⟩ := hn.fr
              rw [hVl] at hfr ⊢
              exact ⟨ao, c, rfl, k', hfr⟩
          · refine (xCombineB_calls (hX.kp0 (Kp0.trans kW k2)).s1 op h1 h5 (FV i) (VQ (i + 1)) v0 v1 hv0.1 hv1.1 (by rw [hVl, hFl]) (by rw [hFl]; omega) (fun j _ => (hFin i j).1) (fun j _ => (hin (i + 1) j).1)).mono ?_
            rintro e w' ⟨v, rfl, hn⟩
            have e1 : (mkL (FV i).length fun j => opWB op (IntKind.wrap .u8 (nth (FV i) j)) (IntKind.wrap .u8 (nth (VQ (i + 1)) j))) = FV (i + 1) := by
              refine ext_nth (by rw [mkL_length, hFl, hFl]) (fun j hj => ?_)
              rw [mkL_length, hFl] at hj
              rw [mkL_nth, if_pos (by rw [hFl]; exact hj), opWB_eq (hFin i j) (hin (i + 1) j), hFn i j hj, hFn (i + 1) j hj, hVn (i + 1) j hj, hk1]
              rfl
            rw [e1] at hn
            obtain ⟨ao, c, rfl, k', hfr⟩ := hn.fr
            rw [hFl] at hfr ⊢
            exact ⟨ao, c, rfl, k', hfr⟩
        · have hvo : ∀ b, vv.ownBlock = some b → (retag w T (o + 1, 0) b).1 ≠ o ∧ b < W.heap.size := fun b e => ⟨by rw [retag_new (hfr.2 b e)]; simp, hfr.1.lt hne e⟩
          rw [hx.l]
          refine (xc_makeOfB (foldS a.shape k) hok (hX1.kp0 kW) hT hsb hm hb (FV (N - 1)) ((hFl _).trans hmm.symm) (fun j => (hFin _ j).1) vv hfr.1 hvo).mono ?_
          rintro e w' ⟨r, b, rfl, hrb, hst⟩
          exact ⟨r, b, rfl, ⟨hrb, hst.untag kW⟩, hst.choose_spec.2.2⟩
        · rintro e w' ⟨r, b, rfl, ⟨rfl, rfl⟩, hst⟩
          exact ⟨rfl, hst⟩
      · have heq := read_eq hx hf ha (c := X.c2) (bs := X.b2) (by rw [hk2]; exact hT.k2)
        rw [hk2] at hres hin hFin
        rw [hres]
        refine (xFoldOkI hX op h k N x hA (by rw [hx.kind, hk2]) h1 h5 h2 hNb.1 (foldS x.l k) (foldS x.t k) (fun q => x.f + (q : Int) * nth x.t k) m (FV (N - 1)) (hid hS1) (R := fun r b w' => (r = (σ.fresh 2 (foldS a.shape k) fun i => asK 2 (nth (FV (N - 1)) i)).2.1 ∧ b = (σ.fresh 2 (foldS a.shape k) fun i => asK 2 (nth (FV (N - 1)) i)).2.2) ∧ Step XRep T o w p (σ.fresh 2 (foldS a.shape k) fun i => asK 2 (nth (FV (N - 1)) i)).1 w') (hid (fun W _ => xLayers_yes x.l x.t x.f k N W _ hx.g hkx hNx hbd.2 (hbd.1 k hkx))) (hid (fun W g cur kW hg ht => ?_)) (hid (fun W vv kW hfr => ?_))).mono ?_
        · refine xfoldLayersI op L.q2 g N hNb cur (foldS x.l k) (foldS x.t k) (fun q => x.f + (q : Int) * nth x.t k) W P VQ FV m (hid hg) (hid ht) (hid (fun W2 i hi => hCells W2 i hi)) (hid (fun W2 i vp hi k2 hrd => ?_)) (hid (fun W2 i v0 v1 hi k2 hv0 hv1 => ?_)) (hid hF0)
          · refine (xReadI_calls (hX.kp0 (Kp0.trans kW k2)).s2 (P i) vp hrd (fun j hj => ?_) (hT.k2.wrap (.inr rfl)) (by rw [hPl]; omega)).mono ?_
            · have := hPin i hi j hj
              rw [hk2] at this
              rw [hT.k2.len]
              exact this
            · rintro e w' ⟨v, rfl, hn⟩
              rw [show ((P i).map fun p => nth X.c2 p.toNat) = VQ i by rw [hP, hVQ, ← hmm]; exact layer_read hs ha.length heq hk (by rw [hN]; omega)] at hn
              obtain ⟨ao, c, rfl, k', hfr⟩ := hn.fr
              rw [hVl] at hfr ⊢
              exact ⟨ao, c, rfl, k', hfr⟩
          · refine (xCombineI_calls (hX.kp0 (Kp0.trans kW k2)).s2 op h1 h5 (FV i) (VQ (i + 1)) v0 v1 hv0.1 hv1.1 (by rw [hVl, hFl]) (by rw [hFl]; omega) (fun j _ => (hFin i j).1) (fun j _ => (hin (i + 1) j).1)).mono ?_
            rintro e w' ⟨v, rfl, hn⟩
            have e1 : (mkL (FV i).length fun j => opWI op (IntKind.wrap .i64 (nth (FV i) j)) (IntKind.wrap .i64 (nth (VQ (i + 1)) j))) = FV (i + 1) := by
              refine ext_nth (by rw [mkL_length, hFl, hFl]) (fun j hj => ?_)
              rw [mkL_length, hFl] at hj
              rw [mkL_nth, if_pos (by rw [hFl]; exact hj), opWI_eq (hFin i j) (hin (i + 1) j), hFn i j hj, hFn (i + 1) j hj, hVn (i + 1) j hj, hk2]
              rfl
            rw [e1] at hn
            obtain ⟨ao, c, rfl, k', hfr⟩ := hn.fr
            rw [hFl] at hfr ⊢
            exact ⟨ao, c, rfl, k', hfr⟩
        · have hvo : ∀ b, vv.ownBlock = some b → (retag w T (o + 1, 0) b).1 ≠ o ∧ b < W.heap.size := fun b e => ⟨by rw [retag_new (hfr.2 b e)]; simp, hfr.1.lt hne e⟩
          rw [hx.l]
          refine (xc_makeOfI (foldS a.shape k) hok (hX1.kp0 kW) hT hsb hm hb (FV (N - 1)) ((hFl _).trans hmm.symm) (fun j => (hFin _ j).1) vv hfr.1 hvo).mono ?_
          rintro e w' ⟨r, b, rfl, hrb, hst⟩
          exact ⟨r, b, rfl, ⟨hrb, hst.untag kW⟩, hst.choose_spec.2.2⟩
        · rintro e w' ⟨r, b, rfl, ⟨rfl, rfl⟩, hst⟩
          exact ⟨rfl, hst⟩

end Go.Proofs.YticbbncdcannlaaGreat

/- Folds of views of one array: forward and backward. No program. -/
namespace Go.Proofs.YticbbncdcannlaaGreat

/-- Both ways through. -/
theorem wrap_more (v t : Int) : IntKind.i64.wrap (v + 18446744073709551616 * t) = IntKind.i64.wrap v := by
  rw [IntKind.wrap_i64, IntKind.wrap_i64]
  omega
theorem wrap_is (v : Int) : ∃ t, IntKind.i64.wrap v = v + 18446744073709551616 * t := by
  refine ⟨-((v + 9223372036854775808) / 18446744073709551616), ?_⟩
  rw [IntKind.wrap_i64]
  omega
theorem wrap_mul_l (a b : Int) : IntKind.i64.wrap (IntKind.i64.wrap a * b) = IntKind.i64.wrap (a * b) := by
  obtain ⟨t, ht⟩ := wrap_is a
  rw [ht, Int.add_mul, Int.mul_assoc, wrap_more]
theorem wrap_add_l (a b : Int) : IntKind.i64.wrap (IntKind.i64.wrap a + b) = IntKind.i64.wrap (a + b) := by
  obtain ⟨t, ht⟩ := wrap_is a
  rw [ht, show a + 18446744073709551616 * t + b = a + b + 18446744073709551616 * t by omega, wrap_more]

def foldOp (op : Int) : Prop := op = 1 ∨ op = 3 ∨ op = 4 ∨ op = 5

theorem opK_comm {op : Int} (h : foldOp op) (a b : Int) : opK op 2 a b = opK op 2 b a := by
  rcases h with rfl | rfl | rfl | rfl <;> simp [opK, wrapK]
  · rw [Int.add_comm]
  · rw [Int.mul_comm]
  · split <;> split <;> omega
  · split <;> split <;> omega

theorem opK_assoc {op : Int} (h : foldOp op) (a b c : Int) : opK op 2 (opK op 2 a b) c = opK op 2 a (opK op 2 b c) := by
  rcases h with rfl | rfl | rfl | rfl <;> simp [opK, wrapK]
  · rw [wrap_add_l, Int.add_comm a (IntKind.i64.wrap (b + c)), wrap_add_l, Int.add_comm (b + c) a, Int.add_assoc]
  · rw [wrap_mul_l, Int.mul_comm a (IntKind.i64.wrap (b * c)), wrap_mul_l, Int.mul_comm (b * c) a, Int.mul_assoc]
  · (repeat' split) <;> omega
  · (repeat' split) <;> omega

theorem foldV_head {op : Int} (h : foldOp op) (f : Nat → Int) (n : Nat) : foldV op 2 f (n + 1) = opK op 2 (f 0) (foldV op 2 (fun x => f (x + 1)) n) := by
  induction n with
  | zero => rfl
  | succ n ih =>
    rw [foldV, ih, foldV, opK_assoc h]

theorem foldV_congr {op kind : Int} {f g : Nat → Int} (n : Nat) (h : ∀ j, j ≤ n → f j = g j) : foldV op kind f n = foldV op kind g n := by
  induction n with
  | zero => exact h 0 (Nat.le_refl _)
  | succ n ih => rw [foldV, foldV, ih (fun j hj => h j (by omega)), h (n + 1) (Nat.le_refl _)]

theorem foldV_rev {op : Int} (h : foldOp op) (f : Nat → Int) (n : Nat) : foldV op 2 (fun x => f (n - x)) n = foldV op 2 f n := by
  induction n generalizing f with
  | zero => rfl
  | succ n ih =>
    rw [foldV_head h f, foldV, ← ih (fun x => f (x + 1)), opK_comm h, show n + 1 - (n + 1) = 0 by omega]
    congr 1
    exact foldV_congr n (fun j hj => by rw [show n + 1 - j = n - j + 1 by omega])

theorem place_flat (t : Int → Bool) (q m : Nat) (h1 : 1 ≤ m) (ht : ∀ c : Int, 0 ≤ c → (t c = true ↔ c < q)) (hn : q + m ≤ 2000) : placeIn t m 2000 0 = q := by
  refine placeIn_is t m h1 q (fun c c1 c2 => ?_) (fun s hs hf => ?_) 2000 0 (by omega) (by omega)
  · rw [← Bool.not_eq_true, ht c (by omega)]
    omega
  · have := hf s (Int.le_refl _) (by omega)
    rw [← Bool.not_eq_true, ht s (by omega)] at this
    omega

section
variable {σ : Sp}

theorem made_arrs (p : Int) (s : List Int) (m : Nat) (f : Nat → Int) : (σ.made 2 p s m f).arrs = σ.arrs ++ [some ⟨2, s, rng p m, false, σ.bufs.length⟩] := by
  show (Sp.puts _ _ _ _ _).arrs ++ _ = _
  rw [(puts_arrs (σ.more ⟨2, p, m⟩) 2 p f m).1]
  rfl
theorem made_bufs (p : Int) (s : List Int) (m : Nat) (f : Nat → Int) : (σ.made 2 p s m f).bufs = σ.bufs ++ [⟨2, p, m⟩] := by
  show (Sp.puts _ _ _ _ _).bufs = _
  rw [(puts_arrs (σ.more ⟨2, p, m⟩) 2 p f m).2.1]
  rfl
theorem made_n2 (p : Int) (s : List Int) (m : Nat) (f : Nat → Int) : (σ.made 2 p s m f).n2 = σ.n2 := by
  show (Sp.puts _ _ _ _ _).n2 = _
  rw [(puts_arrs (σ.more ⟨2, p, m⟩) 2 p f m).2.2.2.1]
  rfl
theorem made_len (p : Int) (s : List Int) (m : Nat) (f : Nat → Int) : (σ.made 2 p s m f).v2.length = σ.v2.length := by
  show (Sp.puts _ _ _ _ _).v2.length = _
  rw [(puts_arrs (σ.more ⟨2, p, m⟩) 2 p f m).2.2.2.2.2]
  rfl
theorem made_v2 (p : Nat) (s : List Int) (m : Nat) (f : Nat → Int) (hl : p + m ≤ σ.v2.length) (j : Nat) : nth (σ.made 2 p s m f).v2 j = if p ≤ j ∧ j < p + m then f (j - p) else nth σ.v2 j := by
  have := kputs_nth (σ.more ⟨2, p, m⟩) 2 p f m (by omega) (by show (p : Int) + m ≤ (σ.v2.length : Int); omega) j
  have e : nth (σ.made 2 p s m f).v2 j = if (p : Int) ≤ j ∧ (j : Int) < p + m then f (j - (p : Int).toNat) else nth σ.v2 j := this
  rw [e, Int.toNat_natCast]
  by_cases h : p ≤ j ∧ j < p + m
  · rw [if_pos h, if_pos (by omega)]
  · rw [if_neg h, if_neg (by omega)]

theorem find_old {σ' : Sp} {X : List (Option Arr)} (hx : σ'.arrs = σ.arrs ++ X) {h : Int} {a : Arr} (hf : σ.find h = some a) : σ'.find h = some a := by
  obtain ⟨h1, h2⟩ := find_get hf
  unfold Sp.find
  rw [if_pos h1, hx]
  simp [List.getD, List.getElem?_append_left (List.getElem?_eq_some_iff.1 h2).1, h2]
theorem find_new {σ' : Sp} {a : Arr} (hx : σ'.arrs = σ.arrs ++ [some a]) : σ'.find ((σ.arrs.length : Int) + 1) = some a := by
  have hix : ix ((σ.arrs.length : Int) + 1) = σ.arrs.length := by unfold ix; omega
  unfold Sp.find
  rw [if_pos (by omega), hix, hx]
  simp [List.getD]
theorem live_new {σ' : Sp} {a : Arr} (hx : σ'.arrs = σ.arrs ++ [some a]) : σ'.live = σ.live + 1 := by
  unfold Sp.live
  rw [hx]
  simp [List.filter_append]
end

theorem cutB_back {l : List Int} (hs : okShape l) {k N : Nat} (hk : k < l.length) (hN : nth l k = (N : Int)) (h1 : 1 ≤ N) : cutB l k ((N : Int) - 1) N (-1) = true := by
  have h6 := hs.2.1 k hk
  unfold cutB cutA
  rw [(cutR_iff _ _ _ _).2 ⟨.inr (by omega), fun i hi => ?_⟩]
  · simp
    omega
  · simp only [Int.toNat_natCast]
    rw [hN]
    omega

/-- What folds forward and backward tell. -/
structure Folds (σ : Sp) (e : CE) (V : List Int) (B : Nat) (o : Int) (k N m : Nat) (xs : List Int) (h1 h2 h3 : Int) : Prop where
  one : (σ.fold o e.h k).2 = (h1, 0)
  two : ((σ.fold o e.h k).1.cut e.h k ((N : Int) - 1) N (-1)).2 = (h2, 0)
  three : (((σ.fold o e.h k).1.cut e.h k ((N : Int) - 1) N (-1)).1.fold o h2 k).2 = (h3, 0)
  x : (((σ.fold o e.h k).1.cut e.h k ((N : Int) - 1) N (-1)).1.fold o h2 k).1.values h1 = (xs, 0)
  y : (((σ.fold o e.h k).1.cut e.h k ((N : Int) - 1) N (-1)).1.fold o h2 k).1.values h3 = (xs, 0)
  len : xs.length = m
  tells : ∀ r, r < m → nth xs r = foldV o 2 (fun q => nth V (nth e.ranks (rank e.shape (foldL (idx (foldS e.shape k) r) k q)).toNat).toNat) (N - 1)
  room : (σ.fold o e.h k).1.arrs.length ≤ B + 1 ∧ (σ.fold o e.h k).1.bufs.length ≤ B + 1 ∧ ((σ.fold o e.h k).1.cut e.h k ((N : Int) - 1) N (-1)).1.arrs.length ≤ B + 2 ∧ ((σ.fold o e.h k).1.cut e.h k ((N : Int) - 1) N (-1)).1.bufs.length ≤ B + 2

theorem fold_is {σ : Sp} {o h : Int} {a : Arr} {k p m : Nat} (ho : foldOp o) (hf : σ.find h = some a) (h2 : a.kind = 2) (hk : k < a.shape.length) (hl : σ.live < 40) (hm : (vol (foldS a.shape k)).toNat = m) (hp : σ.place 2 m = p) :
    σ.fold o h k = (σ.made 2 p (foldS a.shape k) m (fun r => σ.folded o a k r), (σ.arrs.length : Int) + 1, 0) := by
  have hop : ¬ (o < 1 ∨ 5 < o ∨ o = 2) := by rcases ho with rfl | rfl | rfl | rfl <;> omega
  unfold Sp.fold
  rw [if_neg hop, hf]
  simp only
  rw [if_neg (by omega), Int.toNat_natCast, h2]
  unfold Sp.fresh
  rw [if_neg (by omega), hm, hp, if_neg (by omega)]
  rfl

section
variable {σ : Sp} {E : List CE} {n : Nat} {V : List Int} {B : Nat}

theorem KM.folds (h : KM σ E n V B) {i : Nat} {e : CE} (he : E[i]? = some e) (hlt : E.length + 2 < 40) (o : Int) (ho : foldOp o) (k N m : Nat) (hk : k < e.shape.length) (hN : nth e.shape k = (N : Int)) (hm : (vol (foldS e.shape k)).toNat = m) :
    ∃ xs h1 h2 h3, Folds σ e V B o k N m xs h1 h2 h3 := by
  have hs : okShape e.shape := (h.aok he).shape
  have h6 := hs.2.1 k hk
  have hs' := foldS_ok hs hk
  have hfv := foldS_vol e.shape k hk
  have hp' : 1 ≤ vol (foldS e.shape k) := vol_whole hs'
  have hv4 := (h.ent i e he).2.2.1
  have hm4 : 1 ≤ m ∧ m ≤ 400 := by
    have : vol (foldS e.shape k) * 1 ≤ vol (foldS e.shape k) * nth e.shape k := Int.mul_le_mul_of_nonneg_left h6.1 (by omega)
    omega
  have hn := h.n2
  have hcap : σ.cap 2 = 2000 := h.capI
  have hl2 : σ.v2.length = 2000 := by rw [h.ok.v2, h.cap]
  have hrl := h.rlen he
  have pl1 : σ.place 2 m = n := by
    unfold Sp.place
    rw [hcap]
    exact place_flat _ n m hm4.1 (fun c hc => by rw [h.taken]; simp [hc]) (by omega)
  have e1 := fold_is ho (h.find he) rfl hk (by rw [h.live]; omega) hm pl1
  obtain ⟨f1, hf1⟩ : ∃ f1, f1 = fun r => σ.folded o e.arr k r := ⟨_, rfl⟩
  obtain ⟨σ1, hσ1⟩ : ∃ σ1, σ1 = σ.made 2 n (foldS e.shape k) m f1 := ⟨_, rfl⟩
  have hσ1' : σ.fold o e.h k = (σ1, (σ.arrs.length : Int) + 1, 0) := by rw [e1, hσ1, hf1]; rfl
  have a1 : σ1.arrs = σ.arrs ++ [some ⟨2, foldS e.shape k, rng n m, false, σ.bufs.length⟩] := by rw [hσ1]; exact made_arrs _ _ _ _
  have b1 : σ1.bufs = σ.bufs ++ [⟨2, n, m⟩] := by rw [hσ1]; exact made_bufs _ _ _ _
  have v1 : ∀ j, nth σ1.v2 j = if n ≤ j ∧ j < n + m then f1 (j - n) else nth σ.v2 j := fun j => by rw [hσ1]; exact made_v2 n _ m f1 (by omega) j
  have l1 : σ1.v2.length = 2000 := by rw [hσ1, made_len]; exact hl2
  have c1 : σ1.n2 = 2000 := by rw [hσ1, made_n2]; exact h.cap
  have F1 : σ1.find e.h = some e.arr := find_old a1 (h.find he)
  have F1n := find_new a1
  have L1 : σ1.live = E.length + 1 := by rw [live_new a1, h.live]
  obtain ⟨C, hC⟩ : ∃ C, C = cutRk e.shape k ((N : Int) - 1) N (-1) := ⟨_, rfl⟩
  have hSS : e.shape.set k (N : Int) = e.shape := by rw [← hN]; exact set_self _ _ hk
  obtain ⟨σ2, hσ2⟩ : ∃ σ2, σ2 = σ1.lay ⟨2, e.shape, picked e.ranks C, e.ro, 0⟩ := ⟨_, rfl⟩
  have hσ2' : σ1.cut e.h k ((N : Int) - 1) N (-1) = (σ2, (σ1.arrs.length : Int) + 1, 0) := by
    unfold Sp.cut
    rw [F1]
    show (if cutB e.shape k ((N : Int) - 1) N (-1) = false then _ else σ1.derive e.arr (e.shape.set (k : Int).toNat (N : Int)) (cutRk e.shape (k : Int).toNat ((N : Int) - 1) N (-1)) false) = _
    rw [if_neg (by rw [cutB_back hs hk hN (by omega)]; simp), Int.toNat_natCast, hSS, ← hC]
    unfold Sp.derive
    rw [if_neg (by omega), hσ2]
    simp [CE.arr]
  have a2 : σ2.arrs = σ1.arrs ++ [some ⟨2, e.shape, picked e.ranks C, e.ro, 0⟩] := by rw [hσ2]; rfl
  have b2 : σ2.bufs = σ1.bufs := by rw [hσ2]; rfl
  have v2 : σ2.v2 = σ1.v2 := by rw [hσ2]; rfl
  have c2 : σ2.n2 = 2000 := by rw [hσ2]; exact c1
  have L2 : σ2.live = E.length + 2 := by rw [live_new a2, L1]
  have F2 := find_new a2
  have F2x := find_old a2 F1n
  have pl2 : σ2.place 2 m = (n + m : Nat) := by
    have hc2 : σ2.cap 2 = 2000 := c2
    unfold Sp.place
    rw [hc2]
    refine place_flat _ (n + m) m hm4.1 (fun c hc => ?_) (by omega)
    rw [taken_iff]
    have hb0 : 0 < σ.bufs.length := (List.getElem?_eq_some_iff.1 h.buf).1
    constructor
    · rintro ⟨q, bf, hq, hu, -, x1, x2⟩
      rw [b2, b1] at hq
      rcases snoc_get _ _ _ _ hq with hq' | ⟨rfl, rfl⟩
      · obtain ⟨d, y, hd, hy⟩ := (used_iff σ2 q).1 hu
        have hg := (find_get hd).2
        rw [a2, a1] at hg
        have hql := (List.getElem?_eq_some_iff.1 hq').1
        have : q = 0 := by
          rcases snoc_get _ _ _ _ hg with hg' | ⟨-, hg'⟩
          · rcases snoc_get _ _ _ _ hg' with hg'' | ⟨-, hg''⟩
            · rw [← hy]; exact h.one _ _ hg''
            · simp at hg''
              rw [hg''] at hy
              simp at hy
              omega
          · simp at hg'
            rw [hg'] at hy
            simp at hy
            exact hy.symm
        subst this
        rw [h.buf] at hq'
        simp at hq'
        subst hq'
        simp at x1 x2
        omega
      · simp at x1 x2
        omega
    · intro hc'
      by_cases hcn : c < n
      · refine ⟨0, ⟨2, 0, n⟩, ?_, (used_iff σ2 0).2 ⟨e.h, e.arr, find_old a2 F1, rfl⟩, rfl, by simpa using hc, by simpa using hcn⟩
        rw [b2, b1, List.getElem?_append_left hb0]
        exact h.buf
      · refine ⟨σ.bufs.length, ⟨2, n, m⟩, ?_, (used_iff σ2 _).2 ⟨_, _, F2x, rfl⟩, rfl, by simp; omega, by simp; omega⟩
        rw [b2, b1]
        simp
  have e3 := fold_is (σ := σ2) ho F2 rfl hk (by omega) hm pl2
  obtain ⟨f2, hf2⟩ : ∃ f2, f2 = fun r => σ2.folded o ⟨2, e.shape, picked e.ranks C, e.ro, 0⟩ k r := ⟨_, rfl⟩
  obtain ⟨σ3, hσ3⟩ : ∃ σ3, σ3 = σ2.made 2 (n + m : Nat) (foldS e.shape k) m f2 := ⟨_, rfl⟩
  have hσ3' : σ2.fold o ((σ1.arrs.length : Int) + 1) k = (σ3, (σ2.arrs.length : Int) + 1, 0) := by rw [e3, hσ3, hf2]
  have a3 : σ3.arrs = σ2.arrs ++ [some ⟨2, foldS e.shape k, rng (n + m : Nat) m, false, σ2.bufs.length⟩] := by rw [hσ3]; exact made_arrs _ _ _ _
  have v3 : ∀ j, nth σ3.v2 j = if n + m ≤ j ∧ j < n + m + m then f2 (j - (n + m)) else nth σ1.v2 j := fun j => by
    rw [hσ3, ← v2]
    exact made_v2 (n + m) _ m f2 (by rw [v2, l1]; omega) j
  have tl : ∀ r, σ.along e.arr k r = fun q : Nat => nth (e.told V) (rank e.shape (foldL (idx (foldS e.shape k) r) k q)).toNat := fun r => by
    unfold Sp.along
    rw [h.told he]
    rfl
  have w1 : ∀ r, f1 r = foldV o 2 (σ.along e.arr k r) (N - 1) := fun r => by
    rw [hf1]
    show foldV o 2 _ ((nth e.shape k).toNat - 1) = _
    rw [hN, Int.toNat_natCast]
    rfl
  have hin : ∀ r : Nat, r < m → ∀ q : Nat, q < N → inB e.shape (foldL (idx (foldS e.shape k) r) k q) := fun r _ q hq => foldL_in hk (by rw [hN]; omega) (idx_in _ _ hs'.2.1)
  have hbk : ∀ r : Nat, r < m → ∀ q : Nat, q < N → 0 ≤ rank e.shape (foldL (idx (foldS e.shape k) r) k q) ∧ rank e.shape (foldL (idx (foldS e.shape k) r) k q) < e.ranks.length := fun r hr q hq => by
    have hi := hin r hr q hq
    have := rank_bd e.shape _ hs.2.1 (fun j hj => hi.2 j hj) e.shape.length (Nat.le_refl _)
    rw [List.take_length] at this
    rw [rank_in hi]
    omega
  have hCl : C.length = e.ranks.length := by rw [hC, cutRk_length, hSS]; omega
  have w2 : ∀ r, r < m → f2 r = foldV o 2 (fun q => σ.along e.arr k r (N - 1 - q)) (N - 1) := fun r hr => by
    rw [hf2]
    show foldV o 2 (fun q : Nat => nth (σ2.valuesOf ⟨2, e.shape, picked e.ranks C, e.ro, 0⟩) (rank e.shape (foldL (idx (foldS e.shape k) r) k q)).toNat) ((nth e.shape k).toNat - 1) = _
    rw [hN, Int.toNat_natCast]
    refine foldV_congr _ (fun q hq => ?_)
    rw [tl r]
    have hb := hbk r hr q (by omega)
    have hi := hin r hr q (by omega)
    obtain ⟨j, hj⟩ : ∃ j : Nat, rank e.shape (foldL (idx (foldS e.shape k) r) k q) = (j : Int) := ⟨(rank e.shape (foldL (idx (foldS e.shape k) r) k q)).toNat, by omega⟩
    rw [hj, Int.toNat_natCast]
    have hjl : j < e.ranks.length := by omega
    have hidx : idx e.shape j = foldL (idx (foldS e.shape k) r) k q := by
      rw [← hj, rank_in hi]
      exact idx_rank e.shape _ hs.2.1 hi
    have hil : (idx (foldS e.shape k) r).length = e.shape.length - 1 := by rw [idx_length, foldS_length _ _ hk]
    have hCj : nth C j = rank e.shape (foldL (idx (foldS e.shape k) r) k ((N - 1 - q : Nat) : Int)) := by
      rw [hC, nth_lt (by rw [← hC, hCl]; exact hjl)]
      simp only [cutRk, List.getElem_map, List.getElem_range, hSS, hidx]
      congr 1
      unfold cutL
      refine ext_nth (by rw [List.length_set, foldL_length (by omega), foldL_length (by omega)]) (fun u hu => ?_)
      rw [List.length_set, foldL_length (by omega)] at hu
      rw [nth_setN _ _ _ _ (by rw [foldL_length (by omega)]; omega)]
      by_cases huk : u = k
      · subst huk
        have z1 : ∀ y : Int, nth (foldL (idx (foldS e.shape u) r) u y) u = y := fun y => by rw [foldL_nth (by omega), if_neg (Nat.lt_irrefl _), if_pos rfl]
        rw [if_pos rfl, z1, z1]
        split <;> omega
      · rw [if_neg huk, foldL_nth (by omega), foldL_nth (by omega), if_neg huk, if_neg huk]
    have hbC := hbk r hr (N - 1 - q) (by omega)
    rw [← hCj] at hbC
    unfold Sp.valuesOf
    rw [map_nth _ _ _ (by simp [picked]; omega), picked_nth _ _ _ (by omega)]
    show nth σ2.v2 (nth e.ranks (nth C j).toNat).toNat = nth (e.told V) (rank e.shape (foldL (idx (foldS e.shape k) r) k ((N - 1 - q : Nat) : Int))).toNat
    rw [← hCj]
    have hrk := h.rk he (nth C j).toNat (by omega)
    rw [v2, v1, if_neg (by omega), h.vals _ (by omega)]
    unfold CE.told
    rw [map_nth _ _ _ (by omega)]
  have w12 : ∀ r, r < m → f2 r = f1 r := fun r hr => by rw [w2 r hr, w1 r, foldV_rev ho]
  have hx : ∀ (p : Nat) (bf : Nat), (∀ r, r < m → nth σ3.v2 (p + r) = f1 r) → σ3.valuesOf ⟨2, foldS e.shape k, rng p m, false, bf⟩ = mkL m f1 := fun p bf hh => by
    refine ext_nth (by simp [Sp.valuesOf, rng_length, mkL_length]) (fun j hj => ?_)
    have hj' : j < m := by simpa [Sp.valuesOf, rng_length] using hj
    unfold Sp.valuesOf
    rw [map_nth _ _ _ (by rw [rng_length]; exact hj'), rng_nth _ _ _ hj', mkL_nth, if_pos hj', ← hh j hj']
    rfl
  refine ⟨mkL m f1, (σ.arrs.length : Int) + 1, (σ1.arrs.length : Int) + 1, (σ2.arrs.length : Int) + 1, ?_⟩
  constructor
  · rw [hσ1']
  · rw [hσ1']
    simp only
    rw [hσ2']
  · rw [hσ1']
    simp only
    rw [hσ2']
    simp only
    rw [hσ3']
  · rw [hσ1']
    simp only
    rw [hσ2']
    simp only
    rw [hσ3']
    simp only
    unfold Sp.values
    rw [find_old a3 F2x]
    simp only
    rw [hx n _ (fun r hr => by rw [v3, if_neg (by omega), v1, if_pos (by omega), show n + r - n = r by omega])]
  · rw [hσ1']
    simp only
    rw [hσ2']
    simp only
    rw [hσ3']
    simp only
    unfold Sp.values
    rw [find_new a3]
    simp only
    rw [hx (n + m) _ (fun r hr => by rw [v3, if_pos (by omega), show n + m + r - (n + m) = r by omega, w12 r hr])]
  · exact mkL_length _ _
  · intro r hr
    rw [mkL_nth, if_pos hr, w1 r, tl r]
    refine foldV_congr _ (fun q hq => ?_)
    have hb := hbk r hr q (by omega)
    unfold CE.told
    rw [map_nth _ _ _ (by omega)]
  · rw [hσ1']
    simp only
    rw [hσ2']
    simp only
    have g1 := h.many
    have g2 := h.bufs
    rw [a2, a1, b2, b1]
    simp
    omega
end

end Go.Proofs.YticbbncdcannlaaGreat
