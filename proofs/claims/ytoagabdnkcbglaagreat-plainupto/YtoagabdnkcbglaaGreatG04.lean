/- The document's answer, walked: Set. -/
import Derived.Test.YtoagabdnkcbglaaGreatG03
import Derived.Deep.RegionHeld3

namespace Go.Proofs.YtoagabdnkcbglaaGreat
open Go.RowKit

/-- Set: the state behind it, the error. -/
def Sp.set (σ : Sp) (h v : Int) (i : List Int) : Sp × Int := match σ.find h with
  | none => (σ, 2)
  | some a => if a.ro = true then (σ, 6) else if rank a.shape i < 0 then (σ, 5) else (σ.put a.kind (nth a.cells (rank a.shape i).toNat).toNat (asK a.kind v), 0)

theorem put_ok {σ : Sp} (h : σ.ok) (kind : Int) (c : Nat) (v : Int) : (σ.put kind c v).ok := by
  have := puts_ok h kind (c : Int) (fun _ => v) 1
  simpa [Sp.puts] using this

set_option maxRecDepth 100000 in
set_option maxHeartbeats 2000000 in
theorem yset_calls {T : Tags} {o : Nat} {w : World} {p : Nat} {σ : Sp} (hy : YRep T o w p σ) (h v : Int) (vi : Value) (i : List Int) (hr : RdI w vi i) :
    Calls Tryz.prog 46 #[.pointer (some ⟨p, 0, none⟩), .int .i64 h, .int .i64 v, vi] w fun e w' => e = .returned (.int .i64 (σ.set h v i).2) ∧ YStep T o w p (σ.set h v i).1 w' := by
  have HYR := hid hy
  obtain ⟨hok, L, hy⟩ := hy
  have HO := hid hok
  have HR := hid hr
  rcases hy.find h with ⟨hf, hl⟩ | ⟨a, q, vs, vc, hf, hl, hya, hat, h1⟩
  · have HF : Hid (σ.set h v i = (σ, 2)) := hid (by unfold Sp.set; rw [hf])
    have HY := hid hy
    have HL := hid hl
    clear hy hok hf hl hr
    go_enter Tryz.func46, Tryz.ntmps46
    go_wp2_with fail
    refine (yfind_calls HY.out HO.out h).mono ?_
    rintro e w' ⟨rfl, hw⟩
    obtain rfl := hw.symm
    rw [HL.out]
    simp only [ptr]
    go_wp2
    go_ret
    rw [HF.out]
    exact ⟨rfl, YStep.same HYR.out (Kp0.refl _)⟩
  · have hao := find_ok hok hat
    obtain ⟨z0, z1, z2, z3, -⟩ := hya.parts
    have hsh := hao.shape
    have HRK := hid (fun (W : World) (k : Kp0 w W) => rank_calls vs vi a.shape i W (hya.shape.rd.kp0 k) (hr.kp0 k) hsh.2.1 hsh.1)
    have hlen := hao.length
    have hv := vol_bd a.shape hsh.2.1 hsh.1 a.shape.length (Nat.le_refl _)
    rw [List.take_length] at hv
    obtain ⟨gc, cap, rfl, hcap, hgc, hcc⟩ := hya.cells.slice (by omega)
    have HY := hid hy
    have HL := hid hl
    by_cases hro : a.ro = true
    · have HF : Hid (σ.set h v i = (σ, 6)) := hid (by unfold Sp.set; rw [hf]; simp [hro])
      rw [hro] at z3
      clear hy hok hf hl hr hao hsh hlen hv hcc hya hat hro
      go_enter Tryz.func46, Tryz.ntmps46
      go_wp2_with fail
      refine (yfind_calls HY.out HO.out h).mono ?_
      rintro e w' ⟨rfl, hw⟩
      obtain rfl := hw.symm
      rw [HL.out]
      simp only [ptr]
      go_wp2_with fail
      refine (HRK.out _ (Kp0.refl _)).mono ?_
      rintro e w1 ⟨rfl, hk⟩
      have y3 := hk.cell z3
      have HK := hid hk
      clear hk
      go_wp2
      go_ret
      rw [HF.out]
      exact ⟨rfl, YStep.same HYR.out HK.out⟩
    · have hro' : a.ro = false := by simpa using hro
      rw [hro'] at z3
      rcases rank_cases a.shape i hsh.2.1 with hneg | ⟨hr0, hr1⟩
      · have HF : Hid (σ.set h v i = (σ, 5)) := hid (by unfold Sp.set; rw [hf]; simp [hneg, hro'])
        have HN := hid hneg
        clear hy hok hf hl hr hao hsh hlen hv hcc hya hat hneg hro hro'
        go_enter Tryz.func46, Tryz.ntmps46
        go_wp2_with fail
        refine (yfind_calls HY.out HO.out h).mono ?_
        rintro e w' ⟨rfl, hw⟩
        obtain rfl := hw.symm
        rw [HL.out]
        simp only [ptr]
        go_wp2_with fail
        refine (HRK.out _ (Kp0.refl _)).mono ?_
        rintro e w1 ⟨rfl, hk⟩
        have y3 := hk.cell z3
        have HK := hid hk
        clear hk
        rw [HN.out]
        go_wp2
        go_ret
        rw [HF.out]
        exact ⟨rfl, YStep.same HYR.out HK.out⟩
      · have hc := hcc (rank a.shape i).toNat (by omega)
        have hin := hao.inside (rank a.shape i).toNat (by omega)
        have hkd := hao.kind
        have hvc := hy.vcell a.kind hkd
        have hvt := hy.vat hok a.kind hkd (nth a.cells (rank a.shape i).toNat).toNat (by omega)
        have HF : Hid (σ.set h v i = (σ.put a.kind (nth a.cells (rank a.shape i).toNat).toNat (asK a.kind v), 0)) := hid (by unfold Sp.set; rw [hf]; simp only [hro']; rw [if_neg (by simp), if_neg (by omega)])
        have hkb : 1 ≤ a.kind ∧ a.kind ≤ 2 := by omega
        have hcpm := hok.cap a.kind
        have hrl : rank a.shape i < (a.cells.length : Int) := by omega
        have hrn : rank a.shape i < 3601 := by have := hsh.2.2; omega
        have HPO := hid (put_ok hok a.kind (nth a.cells (rank a.shape i).toNat).toNat (asK a.kind v))
        have HKD := hid hkd
        have hfz : w.frozen? ⟨L.gk a.kind, (nth a.cells (rank a.shape i).toNat).toNat, none⟩ = false := frozen_blk (hy.vblk a.kind hkd)
        have htg : T (L.gk a.kind) = (o, 2) ∨ T (L.gk a.kind) = (o, 3) := by
          rcases hkd with e | e <;> rw [e]
          · exact .inl hy.t1
          · exact .inr hy.t2
        have n1 : ¬ L.gk a.kind = q := fun e => by rw [e, hya.tag] at htg; simp at htg
        have n2 : ¬ L.gk a.kind = p := fun e => by rw [e, hy.tp] at htg; simp at htg
        have n3 : ¬ L.gk a.kind = gc := fun e => by rw [e, hya.tagc gc rfl] at htg; simp at htg
        have k0 : 0 ≤ a.kind := by omega
        have k3 : a.kind < 3 := by omega
        obtain ⟨c0, c1⟩ := hin
        have HKB := hid hkb
        clear hkb htg
        have hgl : L.gk a.kind < w.heap.size := lt_of_heap (hy.vblk a.kind hkd)
        clear hy hok hf hl hr hao hsh hlen hv hcc hya hat hkd hro hro'
        generalize a.cells.length = n at *
        generalize hrr : rank a.shape i = r at *
        generalize nth a.cells r.toNat = c at *
        generalize nth (σ.vals a.kind) c.toNat = x at *
        generalize a.kind = kd at *
        generalize σ.cap kd = cp at *
        clear hrr
        go_enter Tryz.func46, Tryz.ntmps46
        go_wp2_with fail
        refine (yfind_calls HY.out HO.out h).mono ?_
        rintro e w' ⟨rfl, hw⟩
        obtain rfl := hw.symm
        rw [HL.out]
        simp only [ptr]
        go_wp2_with fail
        refine (HRK.out _ (Kp0.refl _)).mono ?_
        rintro e w1 ⟨rfl, hk⟩
        have y0 := hk.cell z0
        have y2 := hk.cell z2
        have y3 := hk.cell z3
        have yc := hk.cell hc
        have yv := hk.cell hvc
        have yt := hk.cell hvt
        have yf : w1.frozen? ⟨L.gk kd, c.toNat, none⟩ = false := (World.frozen?_of_block (hk.block _ hgl (fun e => e))).trans hfz
        have HK := hid hk
        clear hk z0 z1 z2 z3 hc hvc hvt hfz
        go_wp2
        go_region_held3 (fun w' => w'.cell? ⟨q, 0, none⟩ = some (.int .i64 kd) ∧ w'.cell? ⟨p, 3 + kd.toNat, none⟩ = some (.slice (some ⟨L.gk kd, 0, none⟩) cp cp) ∧ w'.cell? ⟨q, 2, none⟩ = some (.slice (some ⟨gc, 0, none⟩) n cap) ∧ w'.cell? ⟨gc, r.toNat, none⟩ = some (.int .i64 c)) (go_keep)
          (first | (go_at_call 75; refine (as_calls _ _ _).mono ?_; rintro e w' ⟨rfl, rfl⟩))
        go_wp2
        go_ret
        have hpo := HPO.out
        rw [HF.out]
        have hp := (HY.out.kp0 HK.out).put kd HKD.out c.toNat (asK kd v)
        exact ⟨rfl, T, fun _ _ => rfl, ⟨hpo, L, hp.1.kp0 (Kp.drew (Kp.refl _ _))⟩, (Kp.of0 HK.out).trans hp.2.drew (fun i _ e => by rcases e with e | e <;> rw [e] <;> simp [Mut])⟩

end Go.Proofs.YtoagabdnkcbglaaGreat

/- The document's answer, walked: Fill. -/
namespace Go.Proofs.YtoagabdnkcbglaaGreat
open Go.RowKit

/-- The first k cells of a list written. -/
def Sp.writes (σ : Sp) (kind : Int) (cs : List Int) (f : Nat → Int) : Nat → Sp
  | 0 => σ
  | k + 1 => (σ.writes kind cs f k).put kind (nth cs k).toNat (f k)

theorem put_same (σ : Sp) (kind : Int) (c : Nat) (v : Int) : (σ.put kind c v).arrs = σ.arrs ∧ (σ.put kind c v).bufs = σ.bufs ∧ (σ.put kind c v).n1 = σ.n1 ∧ (σ.put kind c v).n2 = σ.n2 ∧ (∀ j, (σ.put kind c v).cap j = σ.cap j) := by
  unfold Sp.put
  split <;> exact ⟨rfl, rfl, rfl, rfl, fun _ => rfl⟩

theorem writes_ok {σ : Sp} (h : σ.ok) (kind : Int) (cs : List Int) (f : Nat → Int) (k : Nat) : (σ.writes kind cs f k).ok := by
  induction k with
  | zero => exact h
  | succ k ih => exact put_ok ih _ _ _

theorem writes_same (σ : Sp) (kind : Int) (cs : List Int) (f : Nat → Int) (k : Nat) : (σ.writes kind cs f k).arrs = σ.arrs ∧ (σ.writes kind cs f k).bufs = σ.bufs ∧ (∀ j, (σ.writes kind cs f k).cap j = σ.cap j) := by
  induction k with
  | zero => exact ⟨rfl, rfl, fun _ => rfl⟩
  | succ k ih =>
    obtain ⟨h1, h2, h3⟩ := ih
    obtain ⟨e1, e2, -, -, e5⟩ := put_same (σ.writes kind cs f k) kind (nth cs k).toNat (f k)
    exact ⟨e1.trans h1, e2.trans h2, fun j => (e5 j).trans (h3 j)⟩

/-- Fill: the state behind it, the error. -/
def Sp.fill (σ : Sp) (h v : Int) : Sp × Int := match σ.find h with
  | none => (σ, 2)
  | some a => if a.ro = true then (σ, 6) else (σ.writes a.kind a.cells (fun _ => asK a.kind v) a.cells.length, 0)

theorem fill_ok {σ : Sp} (h : σ.ok) (d v : Int) : (σ.fill d v).1.ok := by
  unfold Sp.fill
  split
  · exact h
  · split
    · exact h
    · exact writes_ok h _ _ _ _

set_option maxRecDepth 100000 in
set_option maxHeartbeats 2000000 in
theorem yfill_calls {T : Tags} {o : Nat} {w : World} {p : Nat} {σ : Sp} (hy : YRep T o w p σ) (h v : Int) :
    Calls Tryz.prog 49 #[.pointer (some ⟨p, 0, none⟩), .int .i64 h, .int .i64 v] w fun e w' => e = .returned (.int .i64 (σ.fill h v).2) ∧ YStep T o w p (σ.fill h v).1 w' := by
  have HYR := hid hy
  obtain ⟨hok, L, hy⟩ := hy
  have HO := hid hok
  rcases hy.find h with ⟨hf, hl⟩ | ⟨a, q, vs, vc, hf, hl, hya, hat, h1⟩
  · have HF : Hid (σ.fill h v = (σ, 2)) := hid (by unfold Sp.fill; rw [hf])
    have HY := hid hy
    have HL := hid hl
    clear hy hok hf hl
    go_enter Tryz.func49, Tryz.ntmps49
    go_wp2_with fail
    refine (yfind_calls HY.out HO.out h).mono ?_
    rintro e w' ⟨rfl, hw⟩
    obtain rfl := hw.symm
    rw [HL.out]
    simp only [ptr]
    go_wp2
    go_ret
    rw [HF.out]
    exact ⟨rfl, YStep.same HYR.out (Kp0.refl _)⟩
  · have hao := find_ok hok hat
    obtain ⟨z0, z1, z2, z3, -⟩ := hya.parts
    have hsh := hao.shape
    have hlen := hao.length
    have hv := vol_bd a.shape hsh.2.1 hsh.1 a.shape.length (Nat.le_refl _)
    rw [List.take_length] at hv
    obtain ⟨gc, cap, rfl, hcap, hgc, hcc⟩ := hya.cells.slice (by omega)
    have HY := hid hy
    have HL := hid hl
    by_cases hro : a.ro = true
    · have HF : Hid (σ.fill h v = (σ, 6)) := hid (by unfold Sp.fill; rw [hf]; simp [hro])
      rw [hro] at z3
      clear hy hok hf hl hao hsh hlen hv hcc hya hat hro
      go_enter Tryz.func49, Tryz.ntmps49
      go_wp2_with fail
      refine (yfind_calls HY.out HO.out h).mono ?_
      rintro e w' ⟨rfl, hw⟩
      obtain rfl := hw.symm
      rw [HL.out]
      simp only [ptr]
      go_wp2
      go_ret
      rw [HF.out]
      exact ⟨rfl, YStep.same HYR.out (Kp0.refl _)⟩
    · have hro' : a.ro = false := by simpa using hro
      rw [hro'] at z3
      have hkd := hao.kind
      have HF : Hid (σ.fill h v = (σ.writes a.kind a.cells (fun _ => asK a.kind v) a.cells.length, 0)) := hid (by unfold Sp.fill; rw [hf]; simp [hro'])
      have hcpm := hok.cap a.kind
      have hnl : a.cells.length ≤ 3600 := by have := hsh.2.2; omega
      have HAO := hid hao
      have HYA := hid hya
      have HKD := hid hkd
      have HCC := hid hcc
      have htg : T (L.gk a.kind) = (o, 2) ∨ T (L.gk a.kind) = (o, 3) := by
        rcases hkd with e | e <;> rw [e]
        · exact .inl hy.t1
        · exact .inr hy.t2
      have n1 : ¬ L.gk a.kind = q := fun e => by rw [e, hya.tag] at htg; simp at htg
      have n2 : ¬ L.gk a.kind = p := fun e => by rw [e, hy.tp] at htg; simp at htg
      have n3 : ¬ L.gk a.kind = gc := fun e => by rw [e, hya.tagc gc rfl] at htg; simp at htg
      have k0 : 0 ≤ a.kind := by omega
      have k3 : a.kind < 3 := by omega
      have htq := hya.tag
      have htc := hya.tagc gc rfl
      have HTQ := hid htq
      have HTC := hid htc
      clear hy hok hf hl hao hsh hlen hv hcc hya hat hkd hro hro' htg htq htc
      generalize hnn : a.cells.length = n at *
      have HNN := hid hnn
      clear hnn
      go_enter Tryz.func49, Tryz.ntmps49
      go_wp2_with fail
      refine (yfind_calls HY.out HO.out h).mono ?_
      rintro e w' ⟨rfl, hw⟩
      obtain rfl := hw.symm
      rw [HL.out]
      simp only [ptr]
      go_wp2
      go_loopw [8] (fun t w' => ∃ k : Nat, k ≤ n ∧ t = .int .i64 k ∧ YAt T o w' p L (σ.writes a.kind a.cells (fun _ => asK a.kind v) k) ∧ Kp (fun b => T b = (o, 2) ∨ T b = (o, 3)) w w') (fun t _ => n - (intOf t).toNat)
      case atStart => exact ⟨0, Nat.zero_le _, rfl, HY.out, Kp.refl _ _⟩
      case round =>
        obtain ⟨k, hk, rfl, hyk, hkk⟩ := hrel
        have t2 : ∀ (b t : Nat), t ≠ 2 → t ≠ 3 → T b = (o, t) → ¬ (T b = (o, 2) ∨ T b = (o, 3)) := by
          intro b t h1 h4 ht h
          rw [ht] at h
          simp at h
          omega
        have y2 := hkk.cell z2 (t2 q 6 (by omega) (by omega) HTQ.out)
        have HYK := hid hyk
        have HKK := hid hkk
        by_cases hlt : k < n
        · have y0 := hkk.cell z0 (t2 q 6 (by omega) (by omega) HTQ.out)
          have yc := hkk.cell (HCC.out k hlt) (t2 gc 6 (by omega) (by omega) HTC.out)
          have hvc := hyk.vcell a.kind HKD.out
          rw [(writes_same σ a.kind a.cells _ k).2.2] at hvc
          obtain ⟨c0, c1⟩ := HAO.out.inside k (by rw [HNN.out]; exact hlt)
          have hvt := hyk.vat (writes_ok HO.out _ _ _ _) a.kind HKD.out (nth a.cells k).toNat (by rw [(writes_same σ a.kind a.cells _ k).2.2]; omega)
          have hfz : wr.frozen? ⟨L.gk a.kind, (nth a.cells k).toNat, none⟩ = false := frozen_blk (hyk.vblk a.kind HKD.out)
          have e1 : (0 : Int) ≤ (k : Int) := by omega
          generalize nth (Sp.vals _ a.kind) (nth a.cells k).toNat = x at hvt
          have HP := hid (hyk.put a.kind HKD.out (nth a.cells k).toNat (asK a.kind v))
          generalize hcc : nth a.cells k = c at *
          have HCE := hid hcc
          clear t2 hyk hkk hcc
          go_wp2
          go_region_held3 (fun w' => w'.cell? ⟨q, 0, none⟩ = some (.int .i64 a.kind) ∧ w'.cell? ⟨p, 3 + a.kind.toNat, none⟩ = some (.slice (some ⟨L.gk a.kind, 0, none⟩) (σ.cap a.kind) (σ.cap a.kind)) ∧ w'.cell? ⟨q, 2, none⟩ = some (.slice (some ⟨gc, 0, none⟩) n cap) ∧ w'.cell? ⟨gc, k, none⟩ = some (.int .i64 c)) (go_keep)
            (first | (go_at_call 75; refine (as_calls _ _ _).mono ?_; rintro e w' ⟨rfl, rfl⟩))
          go_wp2
          go_roundw
          case rel =>
            refine ⟨k + 1, by omega, by go_num, ?_, HKK.out.trans HP.out.2.drew (fun _ _ e => e)⟩
            have := HP.out.1.kp0 (Kp.drew (Kp.refl _ _))
            show YAt T o _ p L ((σ.writes a.kind a.cells (fun _ => asK a.kind v) k).put a.kind (nth a.cells k).toNat (asK a.kind v))
            rw [HCE.out]
            exact this
          case measure => simp [intOf]; omega
        · have HKN : Hid (k = n) := hid (by omega)
          clear t2 hyk hkk
          go_wp2
          go_ret
          have hfo := fill_ok HO.out h v
          rw [HF.out] at hfo ⊢
          rw [← HKN.out] at hfo ⊢
          exact ⟨rfl, T, fun _ _ => rfl, ⟨hfo, L, HYK.out⟩, HKK.out.mono (fun i _ e => by rcases e with e | e <;> rw [e] <;> simp [Mut])⟩

end Go.Proofs.YtoagabdnkcbglaaGreat

/- The document's answer, walked: values, Values. -/
namespace Go.Proofs.YtoagabdnkcbglaaGreat
open Go.RowKit

/-- The values of an array. -/
def Sp.valuesOf (σ : Sp) (a : Arr) : List Int := a.cells.map fun c => nth (σ.vals a.kind) c.toNat

theorem valuesOf_take (σ : Sp) (a : Arr) (k : Nat) (h : k < a.cells.length) : (σ.valuesOf a).take (k + 1) = (σ.valuesOf a).take k ++ [nth (σ.vals a.kind) (nth a.cells k).toNat] := by
  rw [List.take_succ_eq_append_getElem (by simpa [Sp.valuesOf] using h)]
  congr 1
  simp [Sp.valuesOf, nth_lt h]

set_option maxRecDepth 100000 in
set_option maxHeartbeats 2000000 in
theorem yvalues_calls {T : Tags} {o : Nat} {w : World} {p : Nat} {L : YL} {σ : Sp} (hy : YAt T o w p L σ) (hok : σ.ok) (q : Nat) (vs vc : Value) (a : Arr) (hya : YArr T o w q vs vc a) (hao : a.ok σ) :
    Calls Tryz.prog 94 #[.pointer (some ⟨p, 0, none⟩), .pointer (some ⟨q, 0, none⟩)] w fun e w' => ∃ ao c, e = .returned (.slice ao (σ.valuesOf a).length c) ∧ OwI w' (.slice ao (σ.valuesOf a).length c) (σ.valuesOf a) ∧ Kp0 w w' ∧ (∀ b, (Value.slice ao (σ.valuesOf a).length c).ownBlock = some b → w.heap.size ≤ b) := by
  obtain ⟨z0, z1, z2, z3, -⟩ := hya.parts
  have hsh := hao.shape
  have hlen := hao.length
  have hv := vol_bd a.shape hsh.2.1 hsh.1 a.shape.length (Nat.le_refl _)
  rw [List.take_length] at hv
  obtain ⟨gc, cap, rfl, hcap, hgc, hcc⟩ := hya.cells.slice (by omega)
  have hkd := hao.kind
  have hnl : a.cells.length ≤ 3600 := by have := hsh.2.2; omega
  have hvc := hy.vcell a.kind hkd
  have hcp := hok.cap a.kind
  have HVL : Hid ((σ.valuesOf a).length = a.cells.length) := hid (by simp [Sp.valuesOf])
  have HVT := hid (fun j (hj : j < a.cells.length) => hy.vat hok a.kind hkd (nth a.cells j).toNat (by have := hao.inside j hj; omega))
  have HTK := hid (valuesOf_take σ a)
  have HCC := hid hcc
  have HIN := hid hao.inside
  have k0 : 0 ≤ a.kind := by omega
  have k3 : a.kind < 3 := by omega
  have bq : q < w.heap.size := lt_of_heap hya.blk
  have bp : p < w.heap.size := lt_of_heap hy.blk
  have bk : L.gk a.kind < w.heap.size := lt_of_heap (hy.vblk a.kind hkd)
  clear hy hok hya hao hsh hlen hv hcc hkd z1 z3
  generalize hvv : σ.valuesOf a = vals at *
  clear hvv
  generalize hnn : a.cells.length = n at *
  go_enter Tryz.func94, Tryz.ntmps94
  go_wp2
  go_loopw [5, 6] (fun l t w' => ∃ k : Nat, k ≤ n ∧ t = .int .i64 k ∧ ∃ ao c, l = .slice ao k c ∧ OwI w' (.slice ao k c) (vals.take k) ∧ Kp0 w w' ∧ (∀ b, (Value.slice ao k c).ownBlock = some b → w.heap.size ≤ b)) (fun _ t _ => n - (intOf t).toNat)
  case atStart => exact ⟨0, Nat.zero_le _, rfl, none, 0, rfl, OwI.nil _, Kp0.refl _, fun b hb => by simp [Value.ownBlock] at hb⟩
  case round =>
    obtain ⟨k, hk, rfl, ao, c, rfl, hO, hK, hB⟩ := hrel
    have y2 := hK.cell z2
    have HOw := hid hO
    have HK := hid hK
    have HB := hid hB
    by_cases hlt : k < n
    · have y0 := hK.cell z0
      have yv := hK.cell hvc
      have yc := hK.cell (HCC.out k hlt)
      have yt := hK.cell (HVT.out k hlt)
      obtain ⟨c0, c1⟩ := HIN.out k hlt
      have HTE := hid (HTK.out k hlt)
      have e1 : (0 : Int) ≤ (k : Int) := by omega
      generalize nth a.cells k = cc at *
      generalize nth (σ.vals a.kind) cc.toNat = x at *
      have HBN : Hid (k + [x].length ≤ 1000000000000) := hid (by simp; omega)
      generalize L.gk a.kind = gk at *
      generalize σ.cap a.kind = cp at *
      generalize a.kind = kd at *
      clear hO hK hB
      go_wp2
      go_region_held3 (fun w' => w'.cell? ⟨q, 0, none⟩ = some (.int .i64 kd) ∧ w'.cell? ⟨p, 3 + kd.toNat, none⟩ = some (.slice (some ⟨gk, 0, none⟩) cp cp) ∧ w'.cell? ⟨q, 2, none⟩ = some (.slice (some ⟨gc, 0, none⟩) n cap) ∧ w'.cell? ⟨gc, k, none⟩ = some (.int .i64 cc) ∧ w'.cell? ⟨gk, cc.toNat, none⟩ = some (.int .i64 x)) (first | go_keep | (go_split_ands; refine ⟨?_, ?_, ?_, ?_, ?_⟩ <;> (refine World.grownBy.cell hG7 ?_ (fun e => by have := HB.out _ e.symm; simp at this; omega); go_keep)))
        ((refine step_app (by rfl) _ _ (by rfl) ao k c (vals.take k) [x] _ (by rfl) (by rfl) (by exact OwI.drew (HOw.out.alloc _)) (by exact RdI.drew (RdI.one _ _)) HBN.out (wr.heap.size + 1) (by simp) ?_; intro ao' c' w7 hC7 hG7 hB7))
      have hC7' := hC7
      have hK7 : Kp0 w w7 := Kp.grown (Kp.drew (Kp.alloc HK.out _)) hG7 (fun b hb h => by have := HB.out b hb; omega)
      have hB7' : ∀ b, (Value.slice ao' (k + 1) c').ownBlock = some b → w.heap.size ≤ b := by
        intro b hb
        rcases hB7 b hb with h | h
        · exact HB.out b h
        · have := HK.out.size; omega
      have HC7 := hid hC7
      have HK7 := hid hK7
      have HB7 := hid hB7'
      clear hC7 hC7' hK7 hB7 hB7' hG7
      go_wp2
      go_roundw
      case rel => exact ⟨k + 1, by omega, by go_num, ao', c', rfl, by rw [HTE.out]; exact HC7.out, HK7.out, HB7.out⟩
      case measure => simp [intOf]; omega
    · have HKN : Hid (k = vals.length) := hid (by rw [HVL.out]; omega)
      clear hO hK hB
      go_wp2
      go_ret
      have hO := HOw.out
      rw [HKN.out, List.take_length] at hO
      refine ⟨ao, c, ?_, hO, HK.out, ?_⟩
      · rw [← HKN.out]; rfl
      · rw [← HKN.out]; exact HB.out

end Go.Proofs.YtoagabdnkcbglaaGreat

/- The document's answer, walked: Values, Look. -/
namespace Go.Proofs.YtoagabdnkcbglaaGreat
open Go.RowKit

/-- Values: the list, the error. -/
def Sp.values (σ : Sp) (h : Int) : List Int × Int := match σ.find h with
  | none => ([], 2)
  | some a => (σ.valuesOf a, 0)

/-- A list that comes out: in a block that is new. -/
def NewI (w w' : World) (v : Value) (xs : List Int) : Prop := ∃ ao c, v = .slice ao xs.length c ∧ OwI w' (.slice ao xs.length c) xs ∧ Kp0 w w' ∧ ∀ b, (Value.slice ao xs.length c).ownBlock = some b → w.heap.size ≤ b

theorem NewI.nil {w w' : World} (k : Kp0 w w') : NewI w w' (.slice none 0 0) [] := ⟨none, 0, rfl, OwI.nil _, k, fun b hb => by simp [Value.ownBlock] at hb⟩

set_option maxRecDepth 100000 in
set_option maxHeartbeats 1000000 in
theorem yValues_calls {T : Tags} {o : Nat} {w : World} {p : Nat} {σ : Sp} (hy : YRep T o w p σ) (h : Int) :
    Calls Tryz.prog 64 #[.pointer (some ⟨p, 0, none⟩), .int .i64 h] w fun e w' => ∃ v, e = .returned (.tuple #[v, .int .i64 (σ.values h).2]) ∧ NewI w w' v (σ.values h).1 := by
  obtain ⟨hok, L, hy⟩ := hy
  have HO := hid hok
  rcases hy.find h with ⟨hf, hl⟩ | ⟨a, q, vs, vc, hf, hl, hya, hat, h1⟩
  · have HF : Hid (σ.values h = ([], 2)) := hid (by unfold Sp.values; rw [hf])
    have HY := hid hy
    have HL := hid hl
    clear hy hok hf hl
    go_enter Tryz.func64, Tryz.ntmps64
    go_wp2_with fail
    refine (yfind_calls HY.out HO.out h).mono ?_
    rintro e w' ⟨rfl, hw⟩
    obtain rfl := hw.symm
    rw [HL.out]
    simp only [ptr]
    go_wp2
    go_ret2
    rw [HF.out]
    exact ⟨_, rfl, NewI.nil (Kp0.refl _)⟩
  · have hao := find_ok hok hat
    have HF : Hid (σ.values h = (σ.valuesOf a, 0)) := hid (by unfold Sp.values; rw [hf])
    have HY := hid hy
    have HL := hid hl
    have HYA := hid hya
    have HAO := hid hao
    clear hy hok hf hl hya hat hao
    go_enter Tryz.func64, Tryz.ntmps64
    go_wp2_with fail
    refine (yfind_calls HY.out HO.out h).mono ?_
    rintro e w' ⟨rfl, hw⟩
    obtain rfl := hw.symm
    rw [HL.out]
    simp only [ptr]
    go_wp2_with fail
    refine (yvalues_calls HY.out HO.out q vs vc a HYA.out HAO.out).mono ?_
    rintro e w1 ⟨ao, c, rfl, hO, hK, hB⟩
    have HOw := hid hO
    have HK := hid hK
    have HB := hid hB
    clear hO hK hB
    go_wp2
    go_ret2
    rw [HF.out]
    exact ⟨_, rfl, ao, c, rfl, HOw.out, HK.out, HB.out⟩

/-- Look: kind, shape, read-only, the error. -/
def Sp.look (σ : Sp) (h : Int) : Int × List Int × Bool × Int := match σ.find h with
  | none => (0, [], false, 2)
  | some a => (a.kind, a.shape, a.ro, 0)

set_option maxRecDepth 100000 in
set_option maxHeartbeats 1000000 in
theorem yLook_calls {T : Tags} {o : Nat} {w : World} {p : Nat} {σ : Sp} (hy : YRep T o w p σ) (h : Int) :
    Calls Tryz.prog 68 #[.pointer (some ⟨p, 0, none⟩), .int .i64 h] w fun e w' => ∃ v, e = .returned (.tuple #[.agg #[.int .i64 (σ.look h).1, v, .bool (σ.look h).2.2.1], .int .i64 (σ.look h).2.2.2]) ∧ NewI w w' v (σ.look h).2.1 := by
  obtain ⟨hok, L, hy⟩ := hy
  have HO := hid hok
  rcases hy.find h with ⟨hf, hl⟩ | ⟨a, q, vs, vc, hf, hl, hya, hat, h1⟩
  · have HF : Hid (σ.look h = (0, [], false, 2)) := hid (by unfold Sp.look; rw [hf])
    have HY := hid hy
    have HL := hid hl
    clear hy hok hf hl
    go_enter Tryz.func68, Tryz.ntmps68
    go_wp2_with fail
    refine (yfind_calls (HY.out.kp0 (Kp.alloc (Kp.refl _ _) _)) HO.out h).mono ?_
    rintro e w' ⟨rfl, hw⟩
    obtain rfl := hw.symm
    rw [HL.out]
    simp only [ptr]
    go_wp2
    refine bodyPost_ret (v := .tuple #[.agg #[.int .i64 0, .slice none 0 0, .bool false], .int .i64 2]) (by simp [results, Tryz.results68, go_sem]) rfl ?_
    rw [HF.out]
    exact ⟨_, rfl, NewI.nil (Kp.alloc (Kp.refl _ _) _)⟩
  · have hao := find_ok hok hat
    obtain ⟨z0, z1, -, z3, -⟩ := hya.parts
    have HF : Hid (σ.look h = (a.kind, a.shape, a.ro, 0)) := hid (by unfold Sp.look; rw [hf])
    have hql : q < w.heap.size := lt_of_heap hya.blk
    have HR := hid hya.shape.rd
    have HSL : Hid (0 + a.shape.length ≤ 1000000000000) := hid (by have := hao.shape.1; omega)
    have HY := hid hy
    have HL := hid hl
    clear hy hok hf hl hya hat hao
    generalize a.kind = kd at *
    generalize a.shape = sh at *
    generalize a.ro = ro at *
    go_enter Tryz.func68, Tryz.ntmps68
    go_wp2_with fail
    refine (yfind_calls (HY.out.kp0 (Kp.alloc (Kp.refl _ _) _)) HO.out h).mono ?_
    rintro e w' ⟨rfl, hw⟩
    obtain rfl := hw.symm
    rw [HL.out]
    simp only [ptr]
    go_wp2_with (at_builtin; refine wpList_app rfl _ _ rfl none 0 0 [] sh vs rfl rfl (OwI.nil _) (HR.out.kp0 (Kp.alloc (Kp.refl _ _) _)) HSL.out (w.heap.size + 1) (by simp) ?_)
    intro ao c w4 hownS hgrowS hatS
    have hK4 : Kp0 w w4 := Kp.grown (Kp.alloc (Kp.refl _ _) _) hgrowS (by simp [Value.ownBlock])
    have hG4 : w4.heap[w.heap.size]? = some (.cells #[.int .i64 0, .slice none 0 0, .bool false] 116 (0, 0)) := by
      rw [hgrowS.block _ (by simp) (by simp [Value.ownBlock])]
      exact heap_alloc_new _ _
    have hB4 : ∀ b, (Value.slice ao sh.length c).ownBlock = some b → w.heap.size + 1 ≤ b := fun b hb => by
      rcases hatS b hb with h | h
      · simp [Value.ownBlock] at h
      · omega
    have y0 := hK4.cell z0
    have y3 := hK4.cell z3
    have g0 : w4.cell? ⟨w.heap.size, 0, none⟩ = some (.int .i64 0) := by simp [World.cell?, hG4]
    have g1 : w4.cell? ⟨w.heap.size, 1, none⟩ = some (.slice none 0 0) := by simp [World.cell?, hG4]
    have g2 : w4.cell? ⟨w.heap.size, 2, none⟩ = some (.bool false) := by simp [World.cell?, hG4]
    have f0 : w4.frozen? ⟨w.heap.size, 0, none⟩ = false := frozen_blk hG4
    have f1 : w4.frozen? ⟨w.heap.size, 1, none⟩ = false := frozen_blk hG4
    have f2 : w4.frozen? ⟨w.heap.size, 2, none⟩ = false := frozen_blk hG4
    have nq : ¬ w.heap.size = q := by omega
    have HK4 := hid hK4
    have HG4 := hid hG4
    have HB4 := hid hB4
    have HO4 := hid hownS
    clear hK4 hG4 hB4 hownS hgrowS hatS z0 z1 z3
    go_wp2
    go_region_held3 (fun w' => w'.cell? ⟨q, 0, none⟩ = some (.int .i64 kd) ∧ w'.cell? ⟨q, 3, none⟩ = some (.bool ro)) (go_keep) (fail)
    go_wp2
    refine bodyPost_ret (v := .tuple #[.agg #[.int .i64 kd, .slice ao sh.length c, .bool ro], .int .i64 0]) (by simp [results, Tryz.results68, go_sem, *]) rfl ?_
    rw [HF.out]
    refine ⟨_, rfl, ao, c, rfl, ?_, ?_, fun b hb => by have := HB4.out b hb; omega⟩
    · repeat' (first | exact HO4.out | refine OwI.drew ?_ | refine OwI.setCell ?_ _ (fun e => Nat.not_succ_le_self _ (HB4.out _ e)))
    · repeat' (first | exact HK4.out | refine Kp.drew ?_ | refine Kp.setCell ?_ _ _ (fun h => absurd h (Nat.lt_irrefl _)))

end Go.Proofs.YtoagabdnkcbglaaGreat

/- A list of ints that is made whole and filled place by place. No program but its types. -/
namespace Go.Proofs.YtoagabdnkcbglaaGreat
open Go.RowKit

/-- The list as it is behind k of its n places. -/
def fillI (xs : List Int) (k n : Nat) : List Int := xs.take k ++ List.replicate (n - k) 0

theorem fillI_length (xs : List Int) (k n : Nat) (h : xs.length = n) (hk : k ≤ n) : (fillI xs k n).length = n := by
  simp [fillI]; omega
theorem fillI_zero (xs : List Int) (n : Nat) : fillI xs 0 n = List.replicate n 0 := by simp [fillI]
theorem fillI_end (xs : List Int) (n : Nat) (h : xs.length = n) : fillI xs n n = xs := by simp [fillI, ← h]

theorem rep_ints (n : Nat) : rep n (.int .i64 0) = (ints (List.replicate n 0)).toArray := by simp [rep, ints]

theorem fillI_set (xs : List Int) (k n : Nat) (h : xs.length = n) (hk : k < n) : (ints (fillI xs k n)).set k (.int .i64 (nth xs k)) = ints (fillI xs (k + 1) n) := by
  have e : n - k = (n - (k + 1)) + 1 := by omega
  have hl : (xs.take k).length = k := by simp; omega
  unfold fillI
  rw [take_snoc xs k (by omega), e, List.replicate_succ]
  simp only [ints, List.map_append, List.map_cons, List.map_nil]
  rw [List.set_append_right _ _ (by simp; omega)]
  simp [show min k xs.length = k by omega]

theorem fillI_step (w : World) (b : Nat) (xs : List Int) (k n : Nat) (h : xs.length = n) (hk : k < n) (hb : w.heap[b]? = some (.cells (ints (fillI xs k n)).toArray 3 (0, 0))) :
    (w.setCell ⟨b, k, none⟩ (.int .i64 (nth xs k))).heap[b]? = some (.cells (ints (fillI xs (k + 1) n)).toArray 3 (0, 0)) := by
  rw [heap_setCell_same w b k _ _ _ hb, ← fillI_set xs k n h hk]
  simp

theorem fillI_cell (w : World) (b : Nat) (xs : List Int) (k n : Nat) (h : xs.length = n) (hk : k < n) (hb : w.heap[b]? = some (.cells (ints (fillI xs k n)).toArray 3 (0, 0))) :
    ∃ v, w.cell? ⟨b, k, none⟩ = some v := by
  rw [cell_of_row w b k _ _ _ hb]
  have : k < (ints (fillI xs k n)).length := by rw [ints_length, fillI_length xs k n h (by omega)]; exact hk
  exact ⟨_, by rw [List.getElem?_toArray, List.getElem?_eq_getElem this]⟩

theorem OwI.made {w : World} {b : Nat} {xs : List Int} {n : Nat} (h : xs.length = n) (hn : n ≤ 1000000000000) (hb : w.heap[b]? = some (.cells (ints xs).toArray 3 (0, 0))) : OwI w (.slice (some ⟨b, 0, none⟩) n n) xs := by
  refine ⟨by rw [ints_length, Nat.mul_one], .inr ⟨b, n, _, by rw [h], Nat.zero_le _, hb, Nat.le_of_eq h, by unfold maxLen; omega, by simp [ints_length, h], ?_⟩⟩
  rw [Nat.mul_one, ← ints_length]
  simp

/-- A list in a block that has come since. -/
theorem NewI.made {w w' : World} {b : Nat} {xs : List Int} {n : Nat} (h : xs.length = n) (hn : n ≤ 1000000000000) (hb : w'.heap[b]? = some (.cells (ints xs).toArray 3 (0, 0))) (hk : Kp0 w w') (hnew : w.heap.size ≤ b) : NewI w w' (.slice (some ⟨b, 0, none⟩) n n) xs := by
  refine ⟨some ⟨b, 0, none⟩, n, by rw [h], ?_, hk, fun b' e => ?_⟩
  · have := OwI.made h hn hb
    rw [← h] at this ⊢
    exact this
  · simp [Value.ownBlock] at e
    omega

end Go.Proofs.YtoagabdnkcbglaaGreat

/- The document's answer, walked: Store. -/
namespace Go.Proofs.YtoagabdnkcbglaaGreat
open Go.RowKit

def cntTo (t : Int → Bool) : Nat → Nat
  | 0 => 0
  | k + 1 => cntTo t k + if t k then 1 else 0
def topTo (t : Int → Bool) : Nat → Nat
  | 0 => 0
  | k + 1 => if t k then k + 1 else topTo t k
theorem cntTo_le (t : Int → Bool) (k : Nat) : cntTo t k ≤ k := by
  induction k with
  | zero => exact Nat.le_refl _
  | succ k ih => simp only [cntTo]; split <;> omega
theorem topTo_le (t : Int → Bool) (k : Nat) : topTo t k ≤ k := by
  induction k with
  | zero => exact Nat.le_refl _
  | succ k ih => simp only [topTo]; split <;> omega

/-- Store: cells, used, top, the error. -/
def Sp.store (σ : Sp) (kind : Int) : Int × Int × Int × Int :=
  if kind ≠ 1 ∧ kind ≠ 2 then (0, 0, 0, 3)
  else ((σ.cap kind : Int), (cntTo (σ.taken kind) (σ.cap kind) : Int), (topTo (σ.taken kind) (σ.cap kind) : Int), 0)

set_option maxRecDepth 100000 in
set_option maxHeartbeats 2000000 in
theorem yStore_calls {T : Tags} {o : Nat} {w : World} {p : Nat} {σ : Sp} (hy : YRep T o w p σ) (kind : Int) :
    Calls Tryz.prog 29 #[.pointer (some ⟨p, 0, none⟩), .int .i64 kind] w fun e w' => e = .returned (.tuple #[.agg #[.int .i64 (σ.store kind).1, .int .i64 (σ.store kind).2.1, .int .i64 (σ.store kind).2.2.1], .int .i64 (σ.store kind).2.2.2]) ∧ Kp0 w w' := by
  obtain ⟨hok, L, hy⟩ := hy
  have HO := hid hok
  have HY := hid hy
  by_cases hk : kind = 1 ∨ kind = 2
  · have HK := hid hk
    have HF : Hid (σ.store kind = ((σ.cap kind : Int), (cntTo (σ.taken kind) (σ.cap kind) : Int), (topTo (σ.taken kind) (σ.cap kind) : Int), 0)) := hid (by
      unfold Sp.store
      rw [if_neg (by omega)])
    have HT : Hid (∀ w, YAt T o w p L σ → Calls Tryz.prog 69 #[.pointer (some ⟨p, 0, none⟩), .int .i64 kind] w fun e w' => e = .returned (.slice (some ⟨w.heap.size, 0, none⟩) (σ.cap kind) (σ.cap kind)) ∧ Kp0 w w' ∧ w'.heap[w.heap.size]? = some (.cells (bls (σ.taken kind) (σ.cap kind)) 4 (0, 0))) :=
      fun w hy => ytaken_calls hy hok kind hk
    have hcap := hok.cap kind
    clear hy hok
    generalize σ.cap kind = n at *
    generalize σ.taken kind = t at *
    generalize hsk : σ.store kind = R at *
    clear hsk
    rcases hk with rfl | rfl
    all_goals
      go_enter Tryz.func29, Tryz.ntmps29
      go_wp2_with fail
      refine (HT.out _ (HY.out.kp0 (Kp.alloc (Kp.refl _ _) _))).mono ?_
      rintro e w1 ⟨rfl, hK1, hG⟩
      have HK1 := hid hK1
      have HG := hid hG
      have hr1 : w1.heap[w.heap.size]? = some (.cells #[.int .i64 0, .int .i64 0, .int .i64 0] 81 (0, 0)) := hK1.heap (heap_alloc_new _ _)
      have hs1 : w.heap.size + 1 < w1.heap.size := by have := lt_of_heap hG; simpa using this
      have HR1 := hid hr1
      clear hK1 hG hr1 HT
      go_wp2
      go_loopw [8] (fun i w' => ∃ k : Nat, k ≤ n ∧ i = .int .i64 k ∧ Kp0 w1 w' ∧ w'.heap[w1.heap.size]? = some (.cells #[.int .i64 (n : Int), .int .i64 (cntTo t k : Int), .int .i64 (topTo t k : Int)] 81 (0, 0))) (fun i _ => n - (intOf i).toNat)
      case atStart => exact ⟨0, Nat.zero_le _, rfl, Kp.alloc (Kp.refl _ _) _, heap_alloc_new _ _⟩
      case round =>
        obtain ⟨k, hk, rfl, hKk, hGk⟩ := hrel
        have HKk := hid hKk
        have HGk := hid hGk
        have bc := cntTo_le t k
        have hx1 : wr.cell? ⟨w1.heap.size, 1, none⟩ = some (.int .i64 (cntTo t k : Int)) := by simp [World.cell?, hGk]
        have hx2 : wr.cell? ⟨w1.heap.size, 2, none⟩ = some (.int .i64 (topTo t k : Int)) := by simp [World.cell?, hGk]
        have hf1 : wr.frozen? ⟨w1.heap.size, 1, none⟩ = false := frozen_blk hGk
        have hf2 : wr.frozen? ⟨w1.heap.size, 2, none⟩ = false := frozen_blk hGk
        by_cases hlt : k < n
        · have q : wr.cell? ⟨w.heap.size + 1, k, none⟩ = some (.bool (t k)) := by
            refine hKk.cell ?_
            have := cell_of_row w1 (w.heap.size + 1) k _ _ _ (by simpa using HG.out)
            rw [this, bls_get _ _ _ hlt]
          have HC : Hid (cntTo t (k + 1) = cntTo t k + if t k then 1 else 0) := rfl
          have HTP : Hid (topTo t (k + 1) = if t k then k + 1 else topTo t k) := rfl
          clear hKk hGk
          cases ht : t k
          · rw [ht] at q
            go_wp2
            go_roundw
            case rel => exact ⟨k + 1, by omega, by go_num, HKk.out, by rw [HC.out, HTP.out, ht]; exact HGk.out⟩
            case measure => simp [intOf]; omega
          · rw [ht] at q
            go_wp2
            go_roundw
            case rel =>
              refine ⟨k + 1, by omega, by go_num, Kp.setCell (Kp.setCell HKk.out _ _ (fun h => absurd h (Nat.lt_irrefl _))) _ _ (fun h => absurd h (Nat.lt_irrefl _)), ?_⟩
              rw [heap_setCell_same _ _ _ _ _ _ (heap_setCell_same _ _ _ _ _ _ HGk.out), HC.out, HTP.out, ht]
              simp
            case measure => simp [intOf]; omega
        · have hke : k = n := by omega
          have HKE := hid hke
          have hx0 : wr.cell? ⟨w1.heap.size, 0, none⟩ = some (.int .i64 (n : Int)) := by simp [World.cell?, hGk]
          have hr := hKk.heap HR1.out
          have r0 : wr.cell? ⟨w.heap.size, 0, none⟩ = some (.int .i64 0) := by simp [World.cell?, hr]
          have r1 : wr.cell? ⟨w.heap.size, 1, none⟩ = some (.int .i64 0) := by simp [World.cell?, hr]
          have r2 : wr.cell? ⟨w.heap.size, 2, none⟩ = some (.int .i64 0) := by simp [World.cell?, hr]
          have g0 : wr.frozen? ⟨w.heap.size, 0, none⟩ = false := frozen_blk hr
          have g1 : wr.frozen? ⟨w.heap.size, 1, none⟩ = false := frozen_blk hr
          have g2 : wr.frozen? ⟨w.heap.size, 2, none⟩ = false := frozen_blk hr
          have nq : ¬ w.heap.size = w1.heap.size := by omega
          clear hke hKk hGk hr
          go_wp2
          refine bodyPost_ret (v := .tuple #[.agg #[.int .i64 (n : Int), .int .i64 (cntTo t k : Int), .int .i64 (topTo t k : Int)], .int .i64 0]) (by simp [results, Tryz.results29, go_sem, *]) rfl ?_
          rw [HF.out, ← HKE.out]
          refine ⟨rfl, ?_⟩
          have hk1 : Kp0 w wr := Kp0.trans (Kp.alloc (Kp.refl _ _) _) (HK1.out.trans HKk.out)
          repeat' (first | exact hk1 | refine Kp.drew ?_ | refine Kp.setCell ?_ _ _ (fun h => absurd h (Nat.lt_irrefl _)))
  · have d1 : (kind != 1) = true := by rw [bne_iff_ne]; omega
    have d2 : (kind != 2) = true := by rw [bne_iff_ne]; omega
    have HF : Hid (σ.store kind = (0, 0, 0, 3)) := hid <| by
      unfold Sp.store
      rw [if_pos (by omega)]
    clear hk hy hok
    go_enter Tryz.func29, Tryz.ntmps29
    go_wp2
    refine bodyPost_ret (v := .tuple #[.agg #[.int .i64 0, .int .i64 0, .int .i64 0], .int .i64 3]) (by simp [results, Tryz.results29, go_sem]) rfl ?_
    rw [HF.out]
    exact ⟨rfl, Kp.alloc (Kp.refl _ _) _⟩

end Go.Proofs.YtoagabdnkcbglaaGreat
