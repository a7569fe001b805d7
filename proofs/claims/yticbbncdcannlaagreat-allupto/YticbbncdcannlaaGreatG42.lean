/- The document's answer, walked: Assign. -/
import Derived.Test.YticbbncdcannlaaGreatG17

namespace Go.Proofs.YticbbncdcannlaaGreat
open Go.RowKit

theorem YStep.of {T : Tags} {o : Nat} {w w1 w' : World} {p : Nat} {L : YL} {σ' : Sp} (hok : σ'.ok) (k1 : Kp0 w w1) (hy : YAt (retag w T (o, 6)) o w' p L σ') (k : Kp (fun b => retag w T (o, 6) b = (o, 2) ∨ retag w T (o, 6) b = (o, 3)) w1 w') : YStep T o w p σ' w' :=
  ⟨retag w T (o, 6), retag_to w T _, ⟨hok, L, hy⟩, Kp.trans (Kp.of0 k1) k (fun i hi e => by
    rw [retag_to w T _ i hi] at e
    rcases e with e | e <;> rw [e] <;> simp [Mut])⟩

set_option maxRecDepth 100000 in
set_option maxHeartbeats 2000000 in
theorem yassign_calls {T : Tags} {o : Nat} {w : World} {p : Nat} {σ : Sp} (hy : YRep T o w p σ) (to fr : Int) :
    Calls Tryz.prog 81 #[.pointer (some ⟨p, 0, none⟩), .int .i64 to, .int .i64 fr] w fun e w' => e = .returned (.int .i64 (σ.assign to fr).2) ∧ YStep T o w p (σ.assign to fr).1 w' := by
  have HYR := hid hy
  obtain ⟨hok, L, hy⟩ := hy
  have HO := hid hok
  have HY := hid hy
  rcases hy.find to with ⟨hf, hl⟩ | ⟨a, q, vs, vc, hf, hl, hya, hat, -⟩
  · have HF : Hid (σ.assign to fr = (σ, 2)) := hid (by unfold Sp.assign; rw [hf])
    have HL := hid hl
    rcases hy.find fr with ⟨-, hl2⟩ | ⟨b, r, us, uc, -, hl2, -, -, -⟩
    · have HL2 := hid hl2
      clear hy hok hf hl hl2
      go_enter Tryz.func81, Tryz.ntmps81
      go_wp2_with fail
      refine (yfind_calls HY.out HO.out to).mono ?_
      rintro e w' ⟨rfl, hw⟩
      obtain rfl := hw.symm
      rw [HL.out]
      simp only [ptr]
      go_wp2_with fail
      refine (yfind_calls HY.out HO.out fr).mono ?_
      rintro e w' ⟨rfl, hw⟩
      obtain rfl := hw.symm
      rw [HL2.out]
      simp only [ptr]
      go_wp2
      go_ret
      rw [HF.out]
      exact ⟨rfl, YStep.same HYR.out (Kp0.refl _)⟩
    · have HL2 := hid hl2
      clear hy hok hf hl hl2
      go_enter Tryz.func81, Tryz.ntmps81
      go_wp2_with fail
      refine (yfind_calls HY.out HO.out to).mono ?_
      rintro e w' ⟨rfl, hw⟩
      obtain rfl := hw.symm
      rw [HL.out]
      simp only [ptr]
      go_wp2_with fail
      refine (yfind_calls HY.out HO.out fr).mono ?_
      rintro e w' ⟨rfl, hw⟩
      obtain rfl := hw.symm
      rw [HL2.out]
      simp only [ptr]
      go_wp2
      go_ret
      rw [HF.out]
      exact ⟨rfl, YStep.same HYR.out (Kp0.refl _)⟩
  · have HL := hid hl
    rcases hy.find fr with ⟨hf2, hl2⟩ | ⟨b, r, us, uc, hf2, hl2, hyb, hat2, -⟩
    · have HF : Hid (σ.assign to fr = (σ, 2)) := hid (by unfold Sp.assign; rw [hf, hf2])
      have HL2 := hid hl2
      clear hy hok hf hl hl2 hf2 hya hat
      go_enter Tryz.func81, Tryz.ntmps81
      go_wp2_with fail
      refine (yfind_calls HY.out HO.out to).mono ?_
      rintro e w' ⟨rfl, hw⟩
      obtain rfl := hw.symm
      rw [HL.out]
      simp only [ptr]
      go_wp2_with fail
      refine (yfind_calls HY.out HO.out fr).mono ?_
      rintro e w' ⟨rfl, hw⟩
      obtain rfl := hw.symm
      rw [HL2.out]
      simp only [ptr]
      go_wp2
      go_ret
      rw [HF.out]
      exact ⟨rfl, YStep.same HYR.out (Kp0.refl _)⟩
    · have HL2 := hid hl2
      have hao := find_ok hok hat
      have hbo := find_ok hok hat2
      obtain ⟨-, z1, -, z3, -⟩ := hya.parts
      have HYA := hid hya
      have HYB := hid hyb
      have HAO := hid hao
      have HBO := hid hbo
      cases hro : a.ro with
      | true =>
        have HF : Hid (σ.assign to fr = (σ, 6)) := hid (by unfold Sp.assign; rw [hf, hf2]; simp [hro])
        rw [hro] at z3
        clear hy hok hf hl hl2 hf2 hya hyb hat hat2 hao hbo hro z1
        go_enter Tryz.func81, Tryz.ntmps81
        go_wp2_with fail
        refine (yfind_calls HY.out HO.out to).mono ?_
        rintro e w' ⟨rfl, hw⟩
        obtain rfl := hw.symm
        rw [HL.out]
        simp only [ptr]
        go_wp2_with fail
        refine (yfind_calls HY.out HO.out fr).mono ?_
        rintro e w' ⟨rfl, hw⟩
        obtain rfl := hw.symm
        rw [HL2.out]
        simp only [ptr]
        go_wp2
        go_ret
        rw [HF.out]
        exact ⟨rfl, YStep.same HYR.out (Kp0.refl _)⟩
      | false =>
        rw [hro] at z3
        have HS := hid (yseen_calls HY.out HO.out r us uc b HYB.out HBO.out vs a.shape hao.shape hya.shape.rd)
        have HFN : Hid (stretchB b.shape a.shape = false → σ.assign to fr = (σ, 4)) := hid (fun h => by unfold Sp.assign; rw [hf, hf2]; simp [hro, h])
        have HFY : Hid (stretchB b.shape a.shape = true → σ.assign to fr = (σ.writes a.kind a.cells (fun i => asK a.kind (nth (σ.seen b a.shape) i)) a.cells.length, 0)) := hid (fun h => by unfold Sp.assign; rw [hf, hf2]; simp [hro, h])
        have HVN : Hid ((vol a.shape).toNat = a.cells.length ∧ 1 ≤ a.cells.length) := hid (by
          have h1 := hao.length
          have h2 := vol_bd a.shape hao.shape.2.1 hao.shape.1 a.shape.length (Nat.le_refl _)
          rw [List.take_length] at h2
          omega)
        rw [HVN.out.1] at HS
        clear hy hok hf hl hl2 hf2 hya hyb hat hat2 hao hbo hro
        go_enter Tryz.func81, Tryz.ntmps81
        go_wp2_with fail
        refine (yfind_calls HY.out HO.out to).mono ?_
        rintro e w' ⟨rfl, hw⟩
        obtain rfl := hw.symm
        rw [HL.out]
        simp only [ptr]
        go_wp2_with fail
        refine (yfind_calls HY.out HO.out fr).mono ?_
        rintro e w' ⟨rfl, hw⟩
        obtain rfl := hw.symm
        rw [HL2.out]
        simp only [ptr]
        go_wp2_with fail
        refine HS.out.mono ?_
        rintro e w1 ⟨hk1, h1⟩
        rcases h1 with ⟨h1, rfl⟩ | ⟨h1, ao, c, rfl, ho1, hb1⟩
        · have HK1 := hid hk1
          have HF := hid (HFN.out h1)
          clear hk1 h1
          go_wp2
          go_ret
          rw [HF.out]
          exact ⟨rfl, YStep.same HYR.out HK1.out⟩
        · have HK1 := hid hk1
          have HF := hid (HFY.out h1)
          obtain ⟨gl, cap, hv, _, _, hc⟩ := ho1.slice (by rw [seenY_length, HVN.out.1]; exact HVN.out.2)
          simp at hv
          obtain ⟨rfl, -, -⟩ := hv
          have hgl := hb1 gl rfl
          rw [seenY_length, HVN.out.1] at hc
          have HP := hid (yput_calls (T := retag w T (o, 6)) ((HY.out.tags (retag_to w T _)).kp0 hk1) HO.out q vs vc a ((HYA.out.tags' (retag_to w T _)).kp hk1 (fun _ _ e => e)) HAO.out gl c (σ.seen b a.shape) a.cells.length rfl hc (by rw [retag_new hgl]; simp))
          clear hk1 h1 ho1 hb1 hc hgl
          go_wp2_with fail
          refine HP.out.mono ?_
          rintro e w2 ⟨rfl, hy2, hk2⟩
          have HY2 := hid hy2
          have HK2 := hid hk2
          clear hy2 hk2
          go_wp2
          go_ret
          rw [HF.out]
          exact ⟨rfl, YStep.of (writes_ok HO.out _ _ _ _) HK1.out HY2.out HK2.out⟩

end Go.Proofs.YticbbncdcannlaaGreat
