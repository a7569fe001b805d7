/- The document's answer, walked: Turn, in one word. -/
import Derived.Test.YticbbncdcannlaaGreatG11

namespace Go.Proofs.YticbbncdcannlaaGreat
open Go.RowKit

theorem yturn_calls {T : Tags} {o : Nat} {w : World} {p : Nat} {σ : Sp} (hy : YRep T o w p σ) (h : Int) (va : Value) (ax : List Int) (hr : RdI w va ax) (hm : σ.arrs.length + 1 ≤ 100000000) :
    Calls Tryz.prog 113 #[.pointer (some ⟨p, 0, none⟩), .int .i64 h, va] w fun e w' => e = .returned (.tuple #[.int .i64 (σ.turn h ax).2.1, .int .i64 (σ.turn h ax).2.2]) ∧ YStep T o w p (σ.turn h ax).1 w' := by
  have hyr := hy
  obtain ⟨hok, L, hy⟩ := hy
  obtain ⟨b, d, rfl, hb⟩ := rd_parts hr
  rcases hy.find h with ⟨hf, hl⟩ | ⟨a, q, v1, v2, hf, hl, hya, hat, -⟩
  · have hF : σ.turn h ax = (σ, 0, 2) := by unfold Sp.turn; rw [hf]
    rw [hF]
    refine (yturn_none hy hok h hl).mono ?_
    rintro e w' ⟨rfl, hk⟩
    exact ⟨rfl, YStep.same hyr hk⟩
  · have hao := find_ok hok hat
    obtain ⟨sa, cs, rfl, hcs⟩ := rd_parts hya.shape.rd
    obtain ⟨-, c1, -, -, -⟩ := hya.parts
    have hn4 := hao.shape.1
    by_cases hlen : ax.length = a.shape.length
    · rw [hlen] at hb ⊢
      cases hB : turnB a.shape.length ax with
      | false =>
        have hF : σ.turn h ax = (σ, 0, 4) := by unfold Sp.turn; rw [hf]; simp [hB]
        rw [hF]
        refine (yturn_bad hy hok h hl c1 hn4 hlen hcs hb (fun e => by rw [(turnB_iff _ _).2 ⟨hlen, e⟩] at hB; cases hB)).mono ?_
        rintro e w' ⟨rfl, hk⟩
        exact ⟨rfl, YStep.same hyr hk⟩
      | true =>
        have hgood := ((turnB_iff _ _).1 hB).2
        have hF : σ.turn h ax = σ.derive a (turnS a.shape ax) (turnRk a.shape ax) false := by unfold Sp.turn; rw [hf]; simp [hB]
        rw [hF]
        have hshp := turn_shape hao.shape hlen hgood
        refine (yturn_ok hy hok h hl hya hao rfl rfl hlen hcs hb hgood).mono ?_
        rintro e w' ⟨rfl, T', L', ht, hy2, hk2⟩
        have hvb := vol_bd (turnS a.shape ax) hshp.2.1 hshp.1 _ (Nat.le_refl _)
        rw [List.take_length] at hvb
        refine ⟨rfl, T', ht, ⟨derive_ok hok hao _ _ hshp (by rw [turnRk_length]; omega) (fun j hj => ?_) false hm, L', hy2⟩, ?_⟩
        · rw [turnRk_length] at hj
          rw [hao.length]
          exact turnRk_bd hao.shape hlen hgood j hj
        · exact hk2.mono (fun i _ h => by
            rcases h with h | h <;> rw [h] <;> simp [Mut])
    · have hB : turnB a.shape.length ax = false := by
        rw [← Bool.not_eq_true, turnB_iff]
        exact fun e => hlen e.1
      have hF : σ.turn h ax = (σ, 0, 4) := by unfold Sp.turn; rw [hf]; simp [hB]
      rw [hF]
      refine (yturn_len hy hok h hl sa c1 hlen).mono ?_
      rintro e w' ⟨rfl, hk⟩
      exact ⟨rfl, YStep.same hyr hk⟩

end Go.Proofs.YticbbncdcannlaaGreat
