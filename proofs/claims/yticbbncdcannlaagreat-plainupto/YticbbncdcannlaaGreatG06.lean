/- The law's steps, walked: plain: fill. -/
import Derived.Test.YticbbncdcannlaaGreatG05

namespace Go.Proofs.YticbbncdcannlaaGreat
open Go.RowKit

set_option maxRecDepth 100000 in
set_option maxHeartbeats 2000000 in
theorem plain_fill {R : Tags → Nat → World → Nat → Sp → Prop} (X : XC R) {T : Tags} {w : World} {p : Nat} {S : WS} {L : List SD} (hI : Inv R T w p S L) {i : Nat} {d : SD} (hd : L[i]? = some d) (hσ : d.σx = d.σy) (oH oA oB oC oD : Int) (vL : Value) (wh : Bool) (xs : List Int) (a : Option Addr) (n c : Nat) (hL : OpL T w vL a n c xs) (hA : IntKind.i64.wrap oA = oA)
    (hnt : S.turned.length + 1 ≤ 1000000000) (_hm : d.σy.arrs.length + 1 ≤ 100000000) (_hb : d.σy.bufs.length + 1 ≤ 100000000) :
    Calls Tryz.prog 75 #[.pointer (some ⟨p, 0, none⟩), .pointer (some ⟨d.sb, 0, none⟩), .agg #[.int .i64 4, .int .i64 oH, .int .i64 oA, .int .i64 oB, .int .i64 oC, .int .i64 oD, vL, .bool wh]] w fun e w' => e = .returned (.bool true) ∧ Went R T w p S (L.set i { d with σx := (d.σy.fill oH oA).1, σy := (d.σy.fill oH oA).1 }) 0 1 w' := by
  have hsd := hI.side i d hd
  have z0 : w.cell? ⟨d.sb, 0, none⟩ = some (.pointer (some ⟨d.px, 0, none⟩)) := by simp [World.cell?, hsd.blk]
  have z1 : w.cell? ⟨d.sb, 1, none⟩ = some (.pointer (some ⟨d.py, 0, none⟩)) := by simp [World.cell?, hsd.blk]
  have hsb : d.sb < w.heap.size := lt_of_heap hsd.blk
  obtain ⟨rfl, hlen, hrd, htag, hbig⟩ := hL
  have HRD := hid hrd
  have HTAG := hid htag
  have HLEN := hid hlen
  have HI := hid hI
  have HD := hid hd
  have HX := hid X
  have HS := hid hσ
  have HSD := hid hsd
  have HA := hid hA
  clear hI hd hσ hsd X hrd htag hlen hA
  obtain ⟨T1, hT1⟩ : ∃ T1, retag w T (5, 9) = T1 := ⟨_, rfl⟩
  have HT1 : Hid (TagsTo w T T1) := hid (by rw [← hT1]; exact retag_to w T _)
  have HNEW : Hid (∀ b, w.heap.size ≤ b → T1 b = (5, 9)) := hid (fun b hb => by rw [← hT1]; exact retag_new hb)
  clear hT1
  have HLENT : Hid (∀ y, Calls Tryz.prog 104 #[.slice a n c] (w.alloc y) fun e w' => e = .returned (.slice (some ⟨w.heap.size + 1, 0, none⟩) (n + 1) (n + 1)) ∧ w' = (w.alloc y).alloc (.cells (ints (xs ++ [0])).toArray 3)) := hid (fun y =>
    (lent_calls _ xs (w.alloc y) (HRD.out.kp0 (Kp.alloc (Kp.refl _ _) _)) (by have := HLEN.out; omega)).mono (by
      rintro e w' ⟨rfl, rfl⟩
      rw [HLEN.out]
      exact ⟨by simp, rfl⟩))
  go_enter Tryz.func75, Tryz.ntmps75
  go_wp2_with fail
  refine (HLENT.out _).mono ?_
  rintro e w2 ⟨rfl, hw2⟩
  have HK2 : Hid (Kp0 w w2) := hid (by rw [hw2]; exact Kp.alloc (Kp.alloc (Kp.refl _ _) _) _)
  have hg2 : w2.heap[w.heap.size + 1]? = some (.cells (ints (xs ++ [0])).toArray 3 (0, 0)) := by
    rw [hw2]
    have := heap_alloc_new (w.alloc (.cells #[.int .i64 4, .int .i64 oH, .int .i64 oA, .int .i64 oB, .int .i64 oC, .int .i64 oD, .slice a n c, .bool wh] 87)) (.cells (ints (xs ++ [0])).toArray 3)
    simpa using this
  have hbox : w2.heap[w.heap.size]? = some (.cells #[.int .i64 4, .int .i64 oH, .int .i64 oA, .int .i64 oB, .int .i64 oC, .int .i64 oD, .slice a n c, .bool wh] 87 (0, 0)) := by
    rw [hw2, Below.heap_alloc _ _ _ (by simp)]
    exact heap_alloc_new _ _
  have HG2 := hid hg2
  have HBOX := hid hbox
  have hs2 : w.heap.size + 1 < w2.heap.size := lt_of_heap hg2
  have b0 : w2.cell? ⟨w.heap.size, 0, none⟩ = some (.int .i64 4) := by simp [World.cell?, hbox]
  have b1 : w2.cell? ⟨w.heap.size, 1, none⟩ = some (.int .i64 oH) := by simp [World.cell?, hbox]
  have b2 : w2.cell? ⟨w.heap.size, 2, none⟩ = some (.int .i64 oA) := by simp [World.cell?, hbox]
  have b6 : w2.cell? ⟨w.heap.size, 6, none⟩ = some (.slice a n c) := by simp [World.cell?, hbox]
  have y0 := HK2.out.cell z0
  have y1 := HK2.out.cell z1
  have HI2 := hid (HI.out.kp0 HX.out HT1.out HK2.out)
  clear hw2 hg2 hbox z0 z1 HLENT
  go_wp2_with fail
  refine (hand_calls (w.heap.size + 1) n c a xs w2 HLEN.out (HRD.out.kp0 HK2.out) (by omega) HG2.out).mono ?_
  rintro e w2' ⟨⟨ai, ci, rfl, hin, hib⟩, hw⟩
  obtain rfl := hw.symm
  have HIN := hid hin
  have HIB : Hid (∀ b, (Value.slice ai n ci).ownBlock = some b → (T1 b).1 ≠ 10 + 2 * i) := hid (fun b hb => by
    have := hib b hb
    rw [this, HNEW.out _ (by omega)]
    simp; omega)
  clear hin hib
  have nn : Hid (∀ b, w.heap.size ≤ b → ¬ (T1 b).1 = 10 + 2 * i) := hid (fun b hb => by rw [HNEW.out b hb]; simp; omega)
  have ct : Hid (xs ≠ [] → ∀ b, (Value.slice a n c).ownBlock = some b → b < w.heap.size ∧ (T1 b).1 = 0) := hid (fun hx b hb => by
    have := HTAG.out hx b hb
    exact ⟨this.1, by rw [HT1.out b this.1]; exact this.2⟩)
  have HXC : Hid (∀ W, Kp0 w2 W → Calls Tryz.prog 64 #[.pointer (some ⟨d.px, 0, none⟩), .int .i64 oH, .int .i64 oA] W fun e w3 => e = .returned (.int .i64 (d.σx.fill oH oA).2) ∧ ∃ T3, TagsTo w2 T1 T3 ∧ Inv R T3 w3 p S (L.set i { d with σx := (d.σx.fill oH oA).1 }) ∧ Kp (fun b => (T1 b).1 = 10 + 2 * i) w2 w3) := hid (fun W kW => by
    have hIW := HI2.out.kp0 HX.out (fun _ _ => rfl) kW
    refine (HX.out.fill oH oA (hIW.side i d HD.out).x HA.out).mono ?_
    rintro e w3 ⟨rfl, T3, ht3, hr3, hk3⟩
    exact ⟨rfl, T3, fun b hb => ht3 b (Nat.lt_of_lt_of_le hb kW.size), hIW.stepX HX.out HD.out ht3 hr3 hk3, (Kp.of0 kW).trans hk3 (fun _ _ e => e)⟩)
  have HD3 : Hid ((L.set i { d with σx := (d.σx.fill oH oA).1 })[i]? = some { d with σx := (d.σx.fill oH oA).1 }) := hid (by
    rw [List.getElem?_set]
    have : i < L.length := by
      have h := HD.out
      rcases Nat.lt_or_ge i L.length with h' | h'
      · exact h'
      · rw [List.getElem?_eq_none h'] at h; cases h
    simp [this])
  go_wp2
  go_region_held3 (fun w' => w'.cell? ⟨d.sb, 0, none⟩ = some (.pointer (some ⟨d.px, 0, none⟩)) ∧ w'.cell? ⟨w.heap.size, 1, none⟩ = some (.int .i64 oH) ∧ w'.cell? ⟨w.heap.size, 2, none⟩ = some (.int .i64 oA)) (first | go_keep | (go_split_ands; exact ⟨hk3.cell y0 (by rw [HT1.out _ hsb, HSD.out.tag]; simp; omega), hk3.cell b1 (nn.out _ (Nat.le_refl _)), hk3.cell b2 (nn.out _ (Nat.le_refl _))⟩))
    ((go_at_call 64; refine (HXC.out _ ?_).mono ?_; (first | exact Kp0.refl _ | exact Kp0.drew (Kp0.refl _)); rintro e w3 ⟨rfl, T3, ht3, hI3, hk3⟩))
  have d0 := hk3.cell b0 (nn.out _ (Nat.le_refl _))
  have d1 := hk3.cell b1 (nn.out _ (Nat.le_refl _))
  have d2 := hk3.cell b2 (nn.out _ (Nat.le_refl _))
  have d6 := hk3.cell b6 (nn.out _ (Nat.le_refl _))
  have x1 := hk3.cell y1 (by rw [HT1.out _ hsb, HSD.out.tag]; simp; omega)
  have HG3 := hid (hk3.heap HG2.out (nn.out _ (by omega)))
  have hs3 : w2.heap.size ≤ w3.heap.size := hk3.size
  have HRD3 := hid ((HRD.out.kp0 HK2.out).kpne hk3 (fun hx b hb e => by have := (ct.out hx b hb).2; omega))
  have HI3 := hid hI3
  have HT3 := hid ht3
  have HK3 := hid hk3
  clear ht3 hI3 hk3 b0 b1 b2 b6 y0 y1 HXC
  have HYC : Hid (∀ W, Kp0 w3 W → Calls Tryz.prog 109 #[.pointer (some ⟨d.py, 0, none⟩), .int .i64 oH, .int .i64 oA] W fun e w4 => e = .returned (.int .i64 (d.σy.fill oH oA).2) ∧ ∃ T4, TagsTo w3 T3 T4 ∧ Inv R T4 w4 p S ((L.set i { d with σx := (d.σx.fill oH oA).1 }).set i { { d with σx := (d.σx.fill oH oA).1 } with σy := (d.σy.fill oH oA).1 }) ∧ Kp (fun b => (T3 b).1 = 11 + 2 * i) w3 w4) := hid (fun W kW => by
    have hIW := HI3.out.kp0 HX.out (fun _ _ => rfl) kW
    refine (yfill_calls (hIW.side i _ HD3.out).y oH oA).mono ?_
    rintro e w4 ⟨rfl, hst4⟩
    obtain ⟨T4, ht4, hr4, hk4⟩ := hst4.step
    exact ⟨rfl, T4, fun b hb => ht4 b (Nat.lt_of_lt_of_le hb kW.size), hIW.stepY HX.out HD3.out ht4 hr4 hk4, (Kp.of0 kW).trans hk4 (fun _ _ e => e)⟩)
  have nn4 : Hid (∀ b, w.heap.size ≤ b → b < w2.heap.size → ¬ (T3 b).1 = 11 + 2 * i) := hid (fun b hb hb2 => by rw [HT3.out b hb2, HNEW.out b hb]; simp; omega)
  go_wp2
  go_region_held3 (fun w' => w'.cell? ⟨d.sb, 1, none⟩ = some (.pointer (some ⟨d.py, 0, none⟩)) ∧ w'.cell? ⟨w.heap.size, 1, none⟩ = some (.int .i64 oH) ∧ w'.cell? ⟨w.heap.size, 2, none⟩ = some (.int .i64 oA)) (first | go_keep | (go_split_ands; exact ⟨hk4.cell x1 (by rw [HT3.out _ (by simp; omega), HT1.out _ hsb, HSD.out.tag]; simp; omega), hk4.cell d1 (nn4.out _ (Nat.le_refl _) (by simp; omega)), hk4.cell d2 (nn4.out _ (Nat.le_refl _) (by simp; omega))⟩))
    ((go_at_call 109; refine (HYC.out _ ?_).mono ?_; (first | exact Kp0.refl _ | exact Kp0.drew (Kp0.refl _)); rintro e w4 ⟨rfl, T4, ht4, hI4, hk4⟩))
  have d0' := hk4.cell d0 (nn4.out _ (Nat.le_refl _) (by simp; omega))
  have d6' := hk4.cell d6 (nn4.out _ (Nat.le_refl _) (by simp; omega))
  have HG4 := hid (hk4.heap HG3.out (nn4.out _ (by omega) hs2))
  have hs4 : w3.heap.size ≤ w4.heap.size := hk4.size
  have HRD4 := hid (HRD3.out.kpne hk4 (fun hx b hb e => by
    have := ct.out hx b hb
    rw [HT3.out b (by omega)] at e
    omega))
  have HI4 := hid hI4
  have HT4 := hid ht4
  have HK4 := hid hk4
  have HCT := hid ct.out
  clear ht4 hI4 hk4 d0 d1 d2 d6 HYC
  have HT41 : Hid (∀ b, b < w2.heap.size → T4 b = T1 b) := hid (fun b hb => by rw [HT4.out b (by omega), HT3.out b hb])
  go_wp2_with fail
  refine (returned_calls HI4.out.wat (w.heap.size + 1) n _ xs HLEN.out (by omega) HRD4.out HG4.out (by rw [HT41.out _ hs2]; exact HNEW.out _ (by omega)) (fun hx b hb => by
      have := HCT.out hx b hb
      rw [HT41.out b (by omega)]
      omega) hnt (fun j v hv e => by have := HI.out.wat.lt hv e; omega) (fun j v hv e => by have := HI.out.wat.ltt hv e; omega)).mono ?_
  rintro e w5 ⟨rfl, T5, vt, ht5, hw5, hk5⟩
  have HI5 := hid (HI4.out.stepW HX.out ht5 hw5 rfl hk5)
  have HT5 := hid ht5
  have HK5 := hid hk5
  clear ht5 hw5 hk5
  have q2 : ((d.σx.fill oH oA).2 == (d.σy.fill oH oA).2) = true := by rw [HS.out]; simp
  go_wp2
  go_ret
  have hLL : (L.set i { d with σx := (d.σx.fill oH oA).1 }).set i { { d with σx := (d.σx.fill oH oA).1 } with σy := (d.σy.fill oH oA).1 } = L.set i { d with σx := (d.σy.fill oH oA).1, σy := (d.σy.fill oH oA).1 } := by
    first | rw [List.set_set, HS.out] | (rw [List.set_set]; show L.set i ⟨d.sb, d.px, d.py, d.σx, d.σy⟩ = _; rw [HS.out])
  have hI5 := HI5.out
  rw [hLL] at hI5
  have s2 := HK2.out.size
  refine ⟨ret_bool (by simp), T5, _, fun b hb => by rw [HT5.out b (by omega), HT41.out b (by omega), HT1.out b hb], hI5, Nat.le_refl _, by simp [WS.turn], by simp [WS.turn], ?_⟩
  have k3 : Kp (fun b => 5 ≤ (T b).1) w w3 := (Kp.of0 HK2.out).trans HK3.out (fun b hb e => by rw [HT1.out b hb] at e; omega)
  have k4 : Kp (fun b => 5 ≤ (T b).1) w w4 := k3.trans HK4.out (fun b hb e => by rw [HT3.out b (by omega), HT1.out b hb] at e; omega)
  exact k4.trans HK5.out (fun b hb e => by rw [HT41.out b (by omega), HT1.out b hb] at e; omega)

end Go.Proofs.YticbbncdcannlaaGreat

/- The law's steps, walked: plain: free. -/
namespace Go.Proofs.YticbbncdcannlaaGreat
open Go.RowKit

set_option maxRecDepth 100000 in
set_option maxHeartbeats 2000000 in
theorem plain_free {R : Tags → Nat → World → Nat → Sp → Prop} (X : XC R) {T : Tags} {w : World} {p : Nat} {S : WS} {L : List SD} (hI : Inv R T w p S L) {i : Nat} {d : SD} (hd : L[i]? = some d) (hσ : d.σx = d.σy) (oH oA oB oC oD : Int) (vL : Value) (wh : Bool) (xs : List Int) (a : Option Addr) (n c : Nat) (hL : OpL T w vL a n c xs) (hA : IntKind.i64.wrap oA = oA)
    (hnt : S.turned.length + 1 ≤ 1000000000) (_hm : d.σy.arrs.length + 1 ≤ 100000000) (_hb : d.σy.bufs.length + 1 ≤ 100000000) :
    Calls Tryz.prog 75 #[.pointer (some ⟨p, 0, none⟩), .pointer (some ⟨d.sb, 0, none⟩), .agg #[.int .i64 5, .int .i64 oH, .int .i64 oA, .int .i64 oB, .int .i64 oC, .int .i64 oD, vL, .bool wh]] w fun e w' => e = .returned (.bool true) ∧ Went R T w p S (L.set i { d with σx := (d.σy.free oH).1, σy := (d.σy.free oH).1 }) 0 1 w' := by
  have hsd := hI.side i d hd
  have z0 : w.cell? ⟨d.sb, 0, none⟩ = some (.pointer (some ⟨d.px, 0, none⟩)) := by simp [World.cell?, hsd.blk]
  have z1 : w.cell? ⟨d.sb, 1, none⟩ = some (.pointer (some ⟨d.py, 0, none⟩)) := by simp [World.cell?, hsd.blk]
  have hsb : d.sb < w.heap.size := lt_of_heap hsd.blk
  obtain ⟨rfl, hlen, hrd, htag, hbig⟩ := hL
  have HRD := hid hrd
  have HTAG := hid htag
  have HLEN := hid hlen
  have HI := hid hI
  have HD := hid hd
  have HX := hid X
  have HS := hid hσ
  have HSD := hid hsd
  have HA := hid hA
  clear hI hd hσ hsd X hrd htag hlen hA
  obtain ⟨T1, hT1⟩ : ∃ T1, retag w T (5, 9) = T1 := ⟨_, rfl⟩
  have HT1 : Hid (TagsTo w T T1) := hid (by rw [← hT1]; exact retag_to w T _)
  have HNEW : Hid (∀ b, w.heap.size ≤ b → T1 b = (5, 9)) := hid (fun b hb => by rw [← hT1]; exact retag_new hb)
  clear hT1
  have HLENT : Hid (∀ y, Calls Tryz.prog 104 #[.slice a n c] (w.alloc y) fun e w' => e = .returned (.slice (some ⟨w.heap.size + 1, 0, none⟩) (n + 1) (n + 1)) ∧ w' = (w.alloc y).alloc (.cells (ints (xs ++ [0])).toArray 3)) := hid (fun y =>
    (lent_calls _ xs (w.alloc y) (HRD.out.kp0 (Kp.alloc (Kp.refl _ _) _)) (by have := HLEN.out; omega)).mono (by
      rintro e w' ⟨rfl, rfl⟩
      rw [HLEN.out]
      exact ⟨by simp, rfl⟩))
  go_enter Tryz.func75, Tryz.ntmps75
  go_wp2_with fail
  refine (HLENT.out _).mono ?_
  rintro e w2 ⟨rfl, hw2⟩
  have HK2 : Hid (Kp0 w w2) := hid (by rw [hw2]; exact Kp.alloc (Kp.alloc (Kp.refl _ _) _) _)
  have hg2 : w2.heap[w.heap.size + 1]? = some (.cells (ints (xs ++ [0])).toArray 3 (0, 0)) := by
    rw [hw2]
    have := heap_alloc_new (w.alloc (.cells #[.int .i64 5, .int .i64 oH, .int .i64 oA, .int .i64 oB, .int .i64 oC, .int .i64 oD, .slice a n c, .bool wh] 87)) (.cells (ints (xs ++ [0])).toArray 3)
    simpa using this
  have hbox : w2.heap[w.heap.size]? = some (.cells #[.int .i64 5, .int .i64 oH, .int .i64 oA, .int .i64 oB, .int .i64 oC, .int .i64 oD, .slice a n c, .bool wh] 87 (0, 0)) := by
    rw [hw2, Below.heap_alloc _ _ _ (by simp)]
    exact heap_alloc_new _ _
  have HG2 := hid hg2
  have HBOX := hid hbox
  have hs2 : w.heap.size + 1 < w2.heap.size := lt_of_heap hg2
  have b0 : w2.cell? ⟨w.heap.size, 0, none⟩ = some (.int .i64 5) := by simp [World.cell?, hbox]
  have b1 : w2.cell? ⟨w.heap.size, 1, none⟩ = some (.int .i64 oH) := by simp [World.cell?, hbox]
  have b2 : w2.cell? ⟨w.heap.size, 2, none⟩ = some (.int .i64 oA) := by simp [World.cell?, hbox]
  have b6 : w2.cell? ⟨w.heap.size, 6, none⟩ = some (.slice a n c) := by simp [World.cell?, hbox]
  have y0 := HK2.out.cell z0
  have y1 := HK2.out.cell z1
  have HI2 := hid (HI.out.kp0 HX.out HT1.out HK2.out)
  clear hw2 hg2 hbox z0 z1 HLENT
  go_wp2_with fail
  refine (hand_calls (w.heap.size + 1) n c a xs w2 HLEN.out (HRD.out.kp0 HK2.out) (by omega) HG2.out).mono ?_
  rintro e w2' ⟨⟨ai, ci, rfl, hin, hib⟩, hw⟩
  obtain rfl := hw.symm
  have HIN := hid hin
  have HIB : Hid (∀ b, (Value.slice ai n ci).ownBlock = some b → (T1 b).1 ≠ 10 + 2 * i) := hid (fun b hb => by
    have := hib b hb
    rw [this, HNEW.out _ (by omega)]
    simp; omega)
  clear hin hib
  have nn : Hid (∀ b, w.heap.size ≤ b → ¬ (T1 b).1 = 10 + 2 * i) := hid (fun b hb => by rw [HNEW.out b hb]; simp; omega)
  have ct : Hid (xs ≠ [] → ∀ b, (Value.slice a n c).ownBlock = some b → b < w.heap.size ∧ (T1 b).1 = 0) := hid (fun hx b hb => by
    have := HTAG.out hx b hb
    exact ⟨this.1, by rw [HT1.out b this.1]; exact this.2⟩)
  have HXC : Hid (∀ W, Kp0 w2 W → Calls Tryz.prog 25 #[.pointer (some ⟨d.px, 0, none⟩), .int .i64 oH] W fun e w3 => e = .returned (.int .i64 (d.σx.free oH).2) ∧ ∃ T3, TagsTo w2 T1 T3 ∧ Inv R T3 w3 p S (L.set i { d with σx := (d.σx.free oH).1 }) ∧ Kp (fun b => (T1 b).1 = 10 + 2 * i) w2 w3) := hid (fun W kW => by
    have hIW := HI2.out.kp0 HX.out (fun _ _ => rfl) kW
    refine (HX.out.free oH (hIW.side i d HD.out).x).mono ?_
    rintro e w3 ⟨rfl, T3, ht3, hr3, hk3⟩
    exact ⟨rfl, T3, fun b hb => ht3 b (Nat.lt_of_lt_of_le hb kW.size), hIW.stepX HX.out HD.out ht3 hr3 hk3, (Kp.of0 kW).trans hk3 (fun _ _ e => e)⟩)
  have HD3 : Hid ((L.set i { d with σx := (d.σx.free oH).1 })[i]? = some { d with σx := (d.σx.free oH).1 }) := hid (by
    rw [List.getElem?_set]
    have : i < L.length := by
      have h := HD.out
      rcases Nat.lt_or_ge i L.length with h' | h'
      · exact h'
      · rw [List.getElem?_eq_none h'] at h; cases h
    simp [this])
  go_wp2
  go_region_held3 (fun w' => w'.cell? ⟨d.sb, 0, none⟩ = some (.pointer (some ⟨d.px, 0, none⟩)) ∧ w'.cell? ⟨w.heap.size, 1, none⟩ = some (.int .i64 oH)) (first | go_keep | (go_split_ands; exact ⟨hk3.cell y0 (by rw [HT1.out _ hsb, HSD.out.tag]; simp; omega), hk3.cell b1 (nn.out _ (Nat.le_refl _))⟩))
    ((go_at_call 25; refine (HXC.out _ ?_).mono ?_; (first | exact Kp0.refl _ | exact Kp0.drew (Kp0.refl _)); rintro e w3 ⟨rfl, T3, ht3, hI3, hk3⟩))
  have d0 := hk3.cell b0 (nn.out _ (Nat.le_refl _))
  have d1 := hk3.cell b1 (nn.out _ (Nat.le_refl _))
  have d2 := hk3.cell b2 (nn.out _ (Nat.le_refl _))
  have d6 := hk3.cell b6 (nn.out _ (Nat.le_refl _))
  have x1 := hk3.cell y1 (by rw [HT1.out _ hsb, HSD.out.tag]; simp; omega)
  have HG3 := hid (hk3.heap HG2.out (nn.out _ (by omega)))
  have hs3 : w2.heap.size ≤ w3.heap.size := hk3.size
  have HRD3 := hid ((HRD.out.kp0 HK2.out).kpne hk3 (fun hx b hb e => by have := (ct.out hx b hb).2; omega))
  have HI3 := hid hI3
  have HT3 := hid ht3
  have HK3 := hid hk3
  clear ht3 hI3 hk3 b0 b1 b2 b6 y0 y1 HXC
  have HYC : Hid (∀ W, Kp0 w3 W → Calls Tryz.prog 110 #[.pointer (some ⟨d.py, 0, none⟩), .int .i64 oH] W fun e w4 => e = .returned (.int .i64 (d.σy.free oH).2) ∧ ∃ T4, TagsTo w3 T3 T4 ∧ Inv R T4 w4 p S ((L.set i { d with σx := (d.σx.free oH).1 }).set i { { d with σx := (d.σx.free oH).1 } with σy := (d.σy.free oH).1 }) ∧ Kp (fun b => (T3 b).1 = 11 + 2 * i) w3 w4) := hid (fun W kW => by
    have hIW := HI3.out.kp0 HX.out (fun _ _ => rfl) kW
    refine (yfree_calls (hIW.side i _ HD3.out).y oH).mono ?_
    rintro e w4 ⟨rfl, hst4⟩
    obtain ⟨T4, ht4, hr4, hk4⟩ := hst4.step
    exact ⟨rfl, T4, fun b hb => ht4 b (Nat.lt_of_lt_of_le hb kW.size), hIW.stepY HX.out HD3.out ht4 hr4 hk4, (Kp.of0 kW).trans hk4 (fun _ _ e => e)⟩)
  have nn4 : Hid (∀ b, w.heap.size ≤ b → b < w2.heap.size → ¬ (T3 b).1 = 11 + 2 * i) := hid (fun b hb hb2 => by rw [HT3.out b hb2, HNEW.out b hb]; simp; omega)
  go_wp2
  go_region_held3 (fun w' => w'.cell? ⟨d.sb, 1, none⟩ = some (.pointer (some ⟨d.py, 0, none⟩)) ∧ w'.cell? ⟨w.heap.size, 1, none⟩ = some (.int .i64 oH)) (first | go_keep | (go_split_ands; exact ⟨hk4.cell x1 (by rw [HT3.out _ (by simp; omega), HT1.out _ hsb, HSD.out.tag]; simp; omega), hk4.cell d1 (nn4.out _ (Nat.le_refl _) (by simp; omega))⟩))
    ((go_at_call 110; refine (HYC.out _ ?_).mono ?_; (first | exact Kp0.refl _ | exact Kp0.drew (Kp0.refl _)); rintro e w4 ⟨rfl, T4, ht4, hI4, hk4⟩))
  have d0' := hk4.cell d0 (nn4.out _ (Nat.le_refl _) (by simp; omega))
  have d6' := hk4.cell d6 (nn4.out _ (Nat.le_refl _) (by simp; omega))
  have HG4 := hid (hk4.heap HG3.out (nn4.out _ (by omega) hs2))
  have hs4 : w3.heap.size ≤ w4.heap.size := hk4.size
  have HRD4 := hid (HRD3.out.kpne hk4 (fun hx b hb e => by
    have := ct.out hx b hb
    rw [HT3.out b (by omega)] at e
    omega))
  have HI4 := hid hI4
  have HT4 := hid ht4
  have HK4 := hid hk4
  have HCT := hid ct.out
  clear ht4 hI4 hk4 d0 d1 d2 d6 HYC
  have HT41 : Hid (∀ b, b < w2.heap.size → T4 b = T1 b) := hid (fun b hb => by rw [HT4.out b (by omega), HT3.out b hb])
  go_wp2_with fail
  refine (returned_calls HI4.out.wat (w.heap.size + 1) n _ xs HLEN.out (by omega) HRD4.out HG4.out (by rw [HT41.out _ hs2]; exact HNEW.out _ (by omega)) (fun hx b hb => by
      have := HCT.out hx b hb
      rw [HT41.out b (by omega)]
      omega) hnt (fun j v hv e => by have := HI.out.wat.lt hv e; omega) (fun j v hv e => by have := HI.out.wat.ltt hv e; omega)).mono ?_
  rintro e w5 ⟨rfl, T5, vt, ht5, hw5, hk5⟩
  have HI5 := hid (HI4.out.stepW HX.out ht5 hw5 rfl hk5)
  have HT5 := hid ht5
  have HK5 := hid hk5
  clear ht5 hw5 hk5
  have q2 : ((d.σx.free oH).2 == (d.σy.free oH).2) = true := by rw [HS.out]; simp
  go_wp2
  go_ret
  have hLL : (L.set i { d with σx := (d.σx.free oH).1 }).set i { { d with σx := (d.σx.free oH).1 } with σy := (d.σy.free oH).1 } = L.set i { d with σx := (d.σy.free oH).1, σy := (d.σy.free oH).1 } := by
    first | rw [List.set_set, HS.out] | (rw [List.set_set]; show L.set i ⟨d.sb, d.px, d.py, d.σx, d.σy⟩ = _; rw [HS.out])
  have hI5 := HI5.out
  rw [hLL] at hI5
  have s2 := HK2.out.size
  refine ⟨ret_bool (by simp), T5, _, fun b hb => by rw [HT5.out b (by omega), HT41.out b (by omega), HT1.out b hb], hI5, Nat.le_refl _, by simp [WS.turn], by simp [WS.turn], ?_⟩
  have k3 : Kp (fun b => 5 ≤ (T b).1) w w3 := (Kp.of0 HK2.out).trans HK3.out (fun b hb e => by rw [HT1.out b hb] at e; omega)
  have k4 : Kp (fun b => 5 ≤ (T b).1) w w4 := k3.trans HK4.out (fun b hb e => by rw [HT3.out b (by omega), HT1.out b hb] at e; omega)
  exact k4.trans HK5.out (fun b hb e => by rw [HT41.out b (by omega), HT1.out b hb] at e; omega)

end Go.Proofs.YticbbncdcannlaaGreat

/- The law's step, walked. -/
namespace Go.Proofs.YticbbncdcannlaaGreat
open Go.RowKit

/-- An op as the model's value. -/
def opV (k oH oA oB oC oD : Int) (vL : Value) (wh : Bool) : Value := .agg #[.int .i64 k, .int .i64 oH, .int .i64 oA, .int .i64 oB, .int .i64 oC, .int .i64 oD, vL, .bool wh]

set_option maxRecDepth 100000 in
set_option maxHeartbeats 2000000 in
theorem step_plain {w : World} (p sb : Nat) (k oH oA oB oC oD : Int) (a : Option Addr) (n c : Nat) (wh : Bool) (Q : World → Prop) (hk : k = 1 ∨ k = 2 ∨ k = 3 ∨ k = 4 ∨ k = 5)
    (hP : ∀ W, Kp0 w W → Calls Tryz.prog 75 #[.pointer (some ⟨p, 0, none⟩), .pointer (some ⟨sb, 0, none⟩), .agg #[.int .i64 k, .int .i64 oH, .int .i64 oA, .int .i64 oB, .int .i64 oC, .int .i64 oD, .slice a n c, .bool wh]] W fun e w' => e = .returned (.bool true) ∧ Q w') :
    Calls Tryz.prog 40 #[.pointer (some ⟨p, 0, none⟩), .pointer (some ⟨sb, 0, none⟩), .agg #[.int .i64 k, .int .i64 oH, .int .i64 oA, .int .i64 oB, .int .i64 oC, .int .i64 oD, .slice a n c, .bool wh]] w fun e w' => e = .returned (.bool true) ∧ Q w' := by
  have HP := hid hP
  clear hP
  rcases hk with rfl | rfl | rfl | rfl | rfl
  all_goals
    go_enter Tryz.func40, Tryz.ntmps40
    go_wp2_with fail
    refine (HP.out _ (Kp.alloc (Kp.refl _ _) _)).mono ?_
    rintro e w1 ⟨rfl, hq⟩
    have HQ := hid hq
    clear hq
    go_wp2
    go_ret
    exact ⟨rfl, HQ.out⟩

set_option maxRecDepth 100000 in
set_option maxHeartbeats 2000000 in
theorem step_told {w : World} (p sb : Nat) (oH oA oB oC oD : Int) (a : Option Addr) (n c : Nat) (wh : Bool) (Q : World → Prop)
    (hP : ∀ W, Kp0 w W → Calls Tryz.prog 77 #[.pointer (some ⟨p, 0, none⟩), .pointer (some ⟨sb, 0, none⟩), .int .i64 oH] W fun e w' => e = .returned (.bool true) ∧ Q w') :
    Calls Tryz.prog 40 #[.pointer (some ⟨p, 0, none⟩), .pointer (some ⟨sb, 0, none⟩), .agg #[.int .i64 6, .int .i64 oH, .int .i64 oA, .int .i64 oB, .int .i64 oC, .int .i64 oD, .slice a n c, .bool wh]] w fun e w' => e = .returned (.bool true) ∧ Q w' := by
  have HP := hid hP
  clear hP
  go_enter Tryz.func40, Tryz.ntmps40
  go_wp2_with fail
  refine (HP.out _ (Kp.alloc (Kp.refl _ _) _)).mono ?_
  rintro e w1 ⟨rfl, hq⟩
  have HQ := hid hq
  clear hq
  go_wp2
  go_ret
  exact ⟨rfl, HQ.out⟩

set_option maxRecDepth 100000 in
set_option maxHeartbeats 2000000 in
theorem step_looked {w : World} (p sb : Nat) (oH oA oB oC oD : Int) (a : Option Addr) (n c : Nat) (wh : Bool) (Q : World → Prop)
    (hP : ∀ W, Kp0 w W → Calls Tryz.prog 78 #[.pointer (some ⟨p, 0, none⟩), .pointer (some ⟨sb, 0, none⟩), .int .i64 oH] W fun e w' => e = .returned (.bool true) ∧ Q w') :
    Calls Tryz.prog 40 #[.pointer (some ⟨p, 0, none⟩), .pointer (some ⟨sb, 0, none⟩), .agg #[.int .i64 7, .int .i64 oH, .int .i64 oA, .int .i64 oB, .int .i64 oC, .int .i64 oD, .slice a n c, .bool wh]] w fun e w' => e = .returned (.bool true) ∧ Q w' := by
  have HP := hid hP
  clear hP
  go_enter Tryz.func40, Tryz.ntmps40
  go_wp2_with fail
  refine (HP.out _ (Kp.alloc (Kp.refl _ _) _)).mono ?_
  rintro e w1 ⟨rfl, hq⟩
  have HQ := hid hq
  clear hq
  go_wp2
  go_ret
  exact ⟨rfl, HQ.out⟩

set_option maxRecDepth 100000 in
set_option maxHeartbeats 2000000 in
theorem step_low {w : World} (p sb : Nat) (k oH oA oB oC oD : Int) (a : Option Addr) (n c : Nat) (wh : Bool) (hk : k < 1) :
    Calls Tryz.prog 40 #[.pointer (some ⟨p, 0, none⟩), .pointer (some ⟨sb, 0, none⟩), .agg #[.int .i64 k, .int .i64 oH, .int .i64 oA, .int .i64 oB, .int .i64 oC, .int .i64 oD, .slice a n c, .bool wh]] w fun e w' => e = .returned (.bool true) ∧ Kp0 w w' := by
  have e1 : (k == 1) = false := by rw [beq_eq_false_iff_ne]; omega
  have e2 : (k == 2) = false := by rw [beq_eq_false_iff_ne]; omega
  have e3 : (k == 3) = false := by rw [beq_eq_false_iff_ne]; omega
  have e4 : (k == 4) = false := by rw [beq_eq_false_iff_ne]; omega
  have e5 : (k == 5) = false := by rw [beq_eq_false_iff_ne]; omega
  have e6 : (k == 6) = false := by rw [beq_eq_false_iff_ne]; omega
  have e7 : (k == 7) = false := by rw [beq_eq_false_iff_ne]; omega
  have e8 : (k == 8) = false := by rw [beq_eq_false_iff_ne]; omega
  have e9 : (k == 9) = false := by rw [beq_eq_false_iff_ne]; omega
  have e10 : (k == 10) = false := by rw [beq_eq_false_iff_ne]; omega
  have e11 : (k == 11) = false := by rw [beq_eq_false_iff_ne]; omega
  have e12 : (k == 12) = false := by rw [beq_eq_false_iff_ne]; omega
  have e13 : (k == 13) = false := by rw [beq_eq_false_iff_ne]; omega
  have e14 : (k == 14) = false := by rw [beq_eq_false_iff_ne]; omega
  have e15 : (k == 15) = false := by rw [beq_eq_false_iff_ne]; omega
  have e16 : (k == 16) = false := by rw [beq_eq_false_iff_ne]; omega
  go_enter Tryz.func40, Tryz.ntmps40
  go_wp2
  go_ret
  exact ⟨rfl, Kp.alloc (Kp.refl _ _) _⟩

end Go.Proofs.YticbbncdcannlaaGreat
