/- The law's play, walked, for steps up to a kind. -/
import Derived.Test.YticbbncdcannlaaGreatG39
import Derived.Test.YticbbncdcannlaaGreatG07

namespace Go.Proofs.YticbbncdcannlaaGreat
open Go.RowKit

set_option maxRecDepth 100000 in
set_option maxHeartbeats 4000000 in
theorem play_any {R : Tags → Nat → World → Nat → Sp → Prop} (X : XC R) (most : Int) (hC : StepC R most) {T : Tags} {w : World} {p : Nat} {S : WS} {L : List SD} (hI : Inv R T w p S L) (n : Nat) (hn : L.length = n) (hpos : 0 < n) (hn2 : n ≤ 2) (hσ : ∀ (i : Nat) (d : SD), L[i]? = some d → d.σx = d.σy ∧ d.σy.arrs.length ≤ 0 ∧ d.σy.bufs.length ≤ 0)
    (aS : Option Addr) (N cS : Nat) (ops : List OpD) (hN : ops.length = N) (hNb : N ≤ 2000000) (hS : 0 < N → ∃ g off, aS = some ⟨g, off, none⟩ ∧ Script T w g off ops) (hsl : S.lists.length ≤ 1000) (hst : S.turned.length ≤ 1000) (hsa : -1000 ≤ S.last) :
    Calls Tryz.prog 13 #[.pointer (some ⟨p, 0, none⟩), .slice aS N cS, .int .i64 most] w fun e w' => e = .returned (.bool true) ∧ Kp (fun b => 5 ≤ (T b).1) w w' := by
  have hn1 : ((n : Int) == 0) = false := by rw [beq_eq_false_iff_ne]; omega
  have HX := hid X
  have HC := hid hC
  have HI := hid hI
  have HN := hid hn
  have HS := hid hS
  have HOPS := hid hN
  have HSG := hid hσ
  obtain ⟨g0, cap0, q0, -⟩ := hI.sdCells (by omega)
  rw [hn] at q0
  clear X hI hn hS hN hσ hC
  go_enter Tryz.func13, Tryz.ntmps13
  go_wp2
  go_loopw [8] (fun t w' => ∃ k : Nat, k ≤ N ∧ t = .int .i64 k ∧ Good R T w p S L (4 * k) k k w') (fun t _ => N - (intOf t).toNat)
  case atStart => exact ⟨0, Nat.zero_le _, rfl, T, S, L, fun _ _ => rfl, HI.out, rfl, HSG.out, by omega, by omega, by omega, Kp.refl _ _⟩
  case round =>
    obtain ⟨k, hk, rfl, hG⟩ := hrel
    have HG := hid hG
    obtain ⟨T1, S1, L1, g1, g2, g3, g4, g5, g6, g7, g8⟩ := hG
    by_cases hlt : k < N
    · obtain ⟨g, off, rfl, hsc⟩ := HS.out (by omega)
      have hsc1 := hsc.went g1 g8
      have hko : k < ops.length := by have := HOPS.out; omega
      obtain ⟨o, ho⟩ : ∃ o, ops[k]? = some o := ⟨_, List.getElem?_eq_getElem hko⟩
      have c0 := hsc1.cell k o ho 0 _ rfl
      have c1 := hsc1.cell k o ho 1 _ rfl
      have c2 := hsc1.cell k o ho 2 _ rfl
      have c3 := hsc1.cell k o ho 3 _ rfl
      have c4 := hsc1.cell k o ho 4 _ rfl
      have c5 := hsc1.cell k o ho 5 _ rfl
      have c6 := hsc1.cell k o ho 6 _ rfl
      have c7 := hsc1.cell k o ho 7 _ rfl
      simp only [Nat.add_zero] at c0
      obtain ⟨hol, hoa⟩ := hsc1.list k o ho
      have hL1 : L1.length = n := by rw [g3, HN.out]
      obtain ⟨gs, caps, p0, hcs⟩ := g2.sdCells (by omega)
      rw [hL1] at p0
      have hpl : p < wr.heap.size := lt_of_heap g2.wat.blk
      have hgl : g < wr.heap.size := block_lt_of_cell c0
      obtain ⟨d0, hd0⟩ : ∃ d, L1[0]? = some d := ⟨_, List.getElem?_eq_getElem (by omega)⟩
      obtain ⟨dn, hdn⟩ : ∃ d, L1[n - 1]? = some d := ⟨_, List.getElem?_eq_getElem (by omega)⟩
      have s0 := hcs 0 d0 hd0
      have sn := hcs (n - 1) dn hdn
      have hgs : gs < wr.heap.size := block_lt_of_cell s0
      have e1 : (0 : Int) ≤ (k : Int) := by omega
      obtain ⟨ok, oH, oA, oB, oC, oD, oa, on, oc, oxs, owh⟩ := o
      simp only at c0 c1 c2 c3 c4 c5 c6 c7
      have HSTEP : Hid (∀ (i : Nat) (d : SD), L1[i]? = some d → ok ≤ most → ∀ W, Kp0 wr W → Calls Tryz.prog 40 #[.pointer (some ⟨p, 0, none⟩), .pointer (some ⟨d.sb, 0, none⟩), .agg #[.int .i64 ok, .int .i64 oH, .int .i64 oA, .int .i64 oB, .int .i64 oC, .int .i64 oD, .slice oa on oc, .bool owh]] W fun e w' => e = .returned (.bool true) ∧ Good R T w p S L (4 * (k + 1)) (k + 1) (k + 1) w' ∧ ∃ T2 S2, WAt T2 5 w' p S2) := hid (fun i d hd hok W kW => by
        obtain ⟨e1, e2, e3⟩ := g4 i d hd
        refine (HC.out _ _ _ _ _ (g2.kp0 HX.out (fun _ _ => rfl) kW) _ _ hd e1 ⟨ok, oH, oA, oB, oC, oD, oa, on, oc, oxs, owh⟩ (hol.kp0 kW) hoa hok (by omega) (by omega) (by omega) (by omega) (by omega)).mono ?_
        rintro e w' ⟨rfl, hW⟩
        have hlen := stepAll_len d.σy ⟨ok, oH, oA, oB, oC, oD, oa, on, oc, oxs, owh⟩
        have hgd := good_step g1 g3 g4 g5 g6 g7 g8 (by omega) (hW.kp0 kW)
        refine ⟨rfl, good_more hgd (by omega) (by omega) (by omega), ?_⟩
        obtain ⟨T2, S2, _, hI2, _⟩ := hW
        exact ⟨T2, S2, hI2.wat⟩)
      have HD0 := hid hd0
      have HDN := hid hdn
      clear g1 g2 g4 g8 hsc hsc1 hol hoa hcs hd0 hdn ho hko HI HSG HS
      by_cases hbig : most < ok
      · have dm : decide (most < ok) = true := by simp [hbig]
        go_wp2
        go_roundw
        case rel => exact ⟨k + 1, by omega, by go_num, good_more (good_kp0 HX.out HG.out (Kp.alloc (Kp.refl _ _) _)) (by omega) (by omega) (by omega)⟩
        case measure => simp [intOf]; omega
      · have dm : decide (most < ok) = false := by simp; omega
        cases owh
        · go_wp2_with fail
          refine (HSTEP.out 0 d0 HD0.out (by omega) _ (Kp.alloc (Kp.refl _ _) _)).mono ?_
          rintro e w2 ⟨rfl, hG2, T2, S2, hW2⟩
          have HG2 := hid hG2
          have HW2 := hid hW2
          clear hG2 hW2
          go_wp2_with fail
          refine (kept_calls HW2.out).mono ?_
          rintro e w3 ⟨rfl, hk3⟩
          have HK3 := hid hk3
          clear hk3
          go_wp2
          go_roundw
          case rel => exact ⟨k + 1, by omega, by go_num, good_kp0 HX.out HG2.out HK3.out⟩
          case measure => simp [intOf]; omega
        · go_wp2_with fail
          refine (HSTEP.out (n - 1) dn HDN.out (by omega) _ (Kp.alloc (Kp.refl _ _) _)).mono ?_
          rintro e w2 ⟨rfl, hG2, T2, S2, hW2⟩
          have HG2 := hid hG2
          have HW2 := hid hW2
          clear hG2 hW2
          go_wp2_with fail
          refine (kept_calls HW2.out).mono ?_
          rintro e w3 ⟨rfl, hk3⟩
          have HK3 := hid hk3
          clear hk3
          go_wp2
          go_roundw
          case rel => exact ⟨k + 1, by omega, by go_num, good_kp0 HX.out HG2.out HK3.out⟩
          case measure => simp [intOf]; omega
    · have HKN : Hid (k = N) := hid (by omega)
      have HGN : Hid (Good R T w p S L (4 * N) N N wr) := hid (good_more HG.out (by omega) (by omega) (by omega))
      clear g1 g2 g3 g4 g5 g6 g7 g8 HG
      go_wp2
      go_loopw [13] (fun t w' => ∃ j : Nat, j ≤ n ∧ t = .int .i64 j ∧ Good R T w p S L (4 * N + j * (8 * (N + 2))) N N w') (fun t _ => n - (intOf t).toNat)
      case atStart => exact ⟨0, Nat.zero_le _, rfl, good_more HGN.out (by omega) (by omega) (by omega)⟩
      case round =>
        obtain ⟨j, hj, rfl, hG⟩ := hrel
        have HG := hid hG
        obtain ⟨T1, S1, L1, g1, g2, g3, g4, g5, g6, g7, g8⟩ := hG
        have hL1 : L1.length = n := by rw [g3, HN.out]
        by_cases hlt' : j < n
        · obtain ⟨gs, caps, p0, hcs⟩ := g2.sdCells (by omega)
          rw [hL1] at p0
          obtain ⟨d, hd⟩ : ∃ d, L1[j]? = some d := ⟨_, List.getElem?_eq_getElem (by omega)⟩
          have s0 := hcs j d hd
          obtain ⟨e1, e2, e3⟩ := g4 j d hd
          have hj1 : j ≤ 1 := by omega
          have hjb : j * (8 * (N + 2)) ≤ 8 * (N + 2) := by
            rcases Nat.le_one_iff_eq_zero_or_eq_one.1 hj1 with e | e <;> rw [e] <;> omega
          have HEND : Hid (Calls Tryz.prog 41 #[.pointer (some ⟨p, 0, none⟩), .pointer (some ⟨d.sb, 0, none⟩)] wr fun e w' => e = .returned (.bool true) ∧ Good R T w p S L (4 * N + (j + 1) * (8 * (N + 2))) N N w') := hid (by
            refine (ended_calls HX.out g2 hd e1 (by omega) (by omega)).mono ?_
            rintro e w' ⟨rfl, hW⟩
            obtain ⟨T2, S2, u1, u2, u3, u4, u5, u6⟩ := hW
            have hsz := g8.size
            have hmul : (j + 1) * (8 * (N + 2)) = j * (8 * (N + 2)) + 8 * (N + 2) := by rw [Nat.add_mul, Nat.one_mul]
            exact ⟨rfl, T2, S2, L1, fun b hb => by rw [u1 b (by omega), g1 b hb], u2, g3, g4, by omega, by omega, by omega, g8.trans u6 (fun b hb e => by rw [g1 b hb] at e; exact e)⟩)
          have e4 : (0 : Int) ≤ (j : Int) := by omega
          clear g1 g2 g4 g8 hcs hd hjb
          go_wp2_with fail
          refine HEND.out.mono ?_
          rintro e w2 ⟨rfl, hG2⟩
          have HG2 := hid hG2
          clear hG2
          go_wp2
          go_roundw
          case rel => exact ⟨j + 1, by omega, by go_num, HG2.out⟩
          case measure => simp [intOf]; omega
        · have HW := hid g2.wat
          have HK := hid g8
          clear g1 g2 g3 g4 g5 g6 g7 g8 HG
          go_wp2_with fail
          refine (kept_calls HW.out).mono ?_
          rintro e w3 ⟨rfl, hk3⟩
          have HK3 := hid hk3
          clear hk3
          go_wp2
          go_ret
          exact ⟨rfl, HK.out.trans0 HK3.out⟩

end Go.Proofs.YticbbncdcannlaaGreat
