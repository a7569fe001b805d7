/- The program's package grid, walked: put. -/
import Derived.Deep.RegionLaw
import Derived.BigRegion
import Derived.Test.YticbbncdcannlaaGreatG08
import Derived.Test.YticbbncdcannlaaGreatG02

namespace Go.Proofs.YticbbncdcannlaaGreat
open Go.RowKit

/-- A grid in a block, by its sizes and steps as functions of the axis. -/
abbrev grG (S T : Nat → Int) (f : Int) (n : Nat) : Obj := .cells #[.int .i64 (S 0), .int .i64 (S 1), .int .i64 (S 2), .int .i64 (S 3), .int .i64 (n : Int), .int .i64 f, .int .i64 (T 0), .int .i64 (T 1), .int .i64 (T 2), .int .i64 (T 3)] 107

def upd (S : Nat → Int) (k : Nat) (v : Int) : Nat → Int := fun j => if j = k then v else S j

theorem grG_cell {w : World} {b : Nat} {S T : Nat → Int} {f : Int} {n : Nat} (h : w.heap[b]? = some (grG S T f n)) (k : Nat) (hk : k < 4) : w.cell? ⟨b, k, none⟩ = some (.int .i64 (S k)) := by
  rw [cell_of_row _ _ _ _ _ _ h]
  match k, hk with
  | 0, _ => rfl
  | 1, _ => rfl
  | 2, _ => rfl
  | 3, _ => rfl

theorem grG_step {w : World} {b : Nat} {S T : Nat → Int} {f : Int} {n : Nat} (h : w.heap[b]? = some (grG S T f n)) (k : Nat) (hk : k < 4) : w.cell? ⟨b, 6 + k, none⟩ = some (.int .i64 (T k)) := by
  rw [cell_of_row _ _ _ _ _ _ h]
  match k, hk with
  | 0, _ => rfl
  | 1, _ => rfl
  | 2, _ => rfl
  | 3, _ => rfl

theorem grG_put {w : World} {b : Nat} {S T : Nat → Int} {f : Int} {n : Nat} (h : w.heap[b]? = some (grG S T f n)) (k : Nat) (hk : k < 4) (u v : Int) :
    ((w.setCell ⟨b, k, none⟩ (.int .i64 u)).setCell ⟨b, 6 + k, none⟩ (.int .i64 v)).heap[b]? = some (grG (upd S k u) (upd T k v) f n) := by
  have h1 := heap_setCell_same w b k _ _ (.int .i64 u) h
  have h2 := heap_setCell_same _ b (6 + k) _ _ (.int .i64 v) h1
  rw [h2]
  match k, hk with
  | 0, _ => rfl
  | 1, _ => rfl
  | 2, _ => rfl
  | 3, _ => rfl

theorem kput (w : World) (b i j : Nat) (u v : Value) : Kp (fun x => x = b) w ((w.setCell ⟨b, i, none⟩ u).setCell ⟨b, j, none⟩ v).drew := by
  have h1 : Kp (fun x => x = b) w (w.setCell ⟨b, i, none⟩ u) := (Kp.refl _ w).setCell ⟨b, i, none⟩ u (fun _ => rfl)
  exact (h1.setCell ⟨b, j, none⟩ v (fun _ => rfl)).drew

/-- What put makes of a step. -/
def stepOf (size step : Int) : Int := if size = 1 then 0 else step

set_option maxRecDepth 100000 in
set_option maxHeartbeats 2000000 in
theorem xput_calls (b k : Nat) (size step : Int) (S T : Nat → Int) (f : Int) (n : Nat) (w : World) (hk : k < 4) (hb : w.heap[b]? = some (grG S T f n)) :
    Calls Tryz.prog 90 #[.pointer (some ⟨b, 0, none⟩), .int .i64 (k : Int), .int .i64 size, .int .i64 step] w fun e w' => e = .returned (.tuple #[]) ∧ Kp (fun x => x = b) w w' ∧ w'.heap[b]? = some (grG (upd S k size) (upd T k (stepOf size step)) f n) := by
  have q1 := grG_cell hb k hk
  have q2 := grG_step hb k hk
  have f1 := frozen_of_row w b k _ _ hb
  have f2 := frozen_of_row w b (6 + k) _ _ hb
  have k1 : (k : Int) < 4 := by omega
  have HB := hid hb
  clear hb
  by_cases h1 : size = 1
  · have d1 : (size == 1) = true := by simp [h1]
    have HS : Hid (stepOf size step = 0) := hid (by simp [stepOf, h1])
    clear h1
    go_enter Tryz.func90, Tryz.ntmps90
    go_wp2
    go_region
    go_end0
    rw [HS.out]
    exact ⟨rfl, kput _ _ _ _ _ _, grG_put HB.out k hk _ _⟩
  · have d1 : (size == 1) = false := by simp [h1]
    have HS : Hid (stepOf size step = step) := hid (by simp [stepOf, h1])
    clear h1
    go_enter Tryz.func90, Tryz.ntmps90
    go_wp2
    go_region
    go_end0
    rw [HS.out]
    exact ⟨rfl, kput _ _ _ _ _ _, grG_put HB.out k hk _ _⟩

/-- The steps of an array whose cells lie one behind the other. -/
def wst (l : List Int) (k : Nat) : Int := stepOf (nth l k) (vol (l.drop (k + 1)))

theorem vol_cons (x : Int) (l : List Int) : vol (x :: l) = x * vol l := by
  unfold vol
  have key : ∀ (l : List Int) (a : Int), l.foldl (fun a b => a * b) a = a * l.foldl (fun a b => a * b) 1 := by
    intro l
    induction l with
    | nil => intro a; simp
    | cons y l ih => intro a; rw [List.foldl_cons, List.foldl_cons, ih, ih (1 * y), Int.one_mul, Int.mul_assoc]
  rw [List.foldl_cons, key, Int.one_mul]

theorem vol_drop (l : List Int) (k : Nat) (h : k < l.length) : vol (l.drop k) = nth l k * vol (l.drop (k + 1)) := by
  rw [List.drop_eq_getElem_cons h, vol_cons, nth_lt h]

theorem vol_drop_bd (l : List Int) (hs : sized l) (hl : l.length ≤ 4) (k : Nat) (hk : k ≤ l.length) : 1 ≤ vol (l.drop k) ∧ vol (l.drop k) ≤ 12960000 := by
  have hs' : sized (l.drop k) := fun j hj => by
    have := hs (k + j) (by simp at hj; omega)
    have e : nth (l.drop k) j = nth l (k + j) := by simp [nth, List.getD]
    rw [e]; exact this
  have := vol_bd (l.drop k) hs' (by simp; omega) (l.drop k).length (Nat.le_refl _)
  rwa [List.take_length] at this

/-- The steps that are laid when axes from k on are done. -/
def wstFrom (l : List Int) (k j : Nat) : Int := if k ≤ j ∧ j < l.length then wst l j else 0

theorem wst_step (l : List Int) (k : Nat) (hk : k < l.length) : upd (wstFrom l (k + 1)) k (wst l k) = wstFrom l k := by
  funext j
  unfold upd wstFrom
  by_cases h : j = k
  · subst h; simp [hk]
  · rw [if_neg h]
    by_cases h2 : k + 1 ≤ j ∧ j < l.length
    · rw [if_pos h2, if_pos (by omega)]
    · rw [if_neg h2, if_neg (by omega)]

theorem upd_same (S : Nat → Int) (k : Nat) : upd S k (S k) = S := by
  funext j
  unfold upd
  split
  · rename_i h; rw [h]
  · rfl

theorem Tryz.szGrid : (Tryz.prog.info? 107).map (·.size) = some 10 := by kernel_rfl

theorem sh_cell {w : World} {b : Nat} {l : List Int} {n : Nat} (h : w.heap[b]? = some (shB l n)) (k : Nat) (hk : k < 4) : w.cell? ⟨b, k, none⟩ = some (.int .i64 (nth l k)) := by
  rw [cell_of_row _ _ _ _ _ _ h]
  match k, hk with
  | 0, _ => rfl
  | 1, _ => rfl
  | 2, _ => rfl
  | 3, _ => rfl

set_option maxRecDepth 100000 in
set_option maxHeartbeats 2000000 in
theorem xwhole_calls (l : List Int) (f : Int) (w : World) (hs : okShape l) :
    Calls Tryz.prog 98 #[.agg (shC l).toArray, .int .i64 f] w fun e w' => ∃ t : List Int, t.length = l.length ∧ (∀ k, k < l.length → nth t k = wst l k) ∧ e = .returned (.agg (grC l t f).toArray) ∧ Kp0 w w' := by
  obtain ⟨n, hn⟩ : ∃ n, n = l.length := ⟨_, rfl⟩
  have hn4 : n ≤ 4 := by have := hs.1; omega
  have HS := hid hs
  unfold shC
  rw [← hn]
  have HN := hid hn.symm
  clear hn hs
  go_enter Tryz.func98, Tryz.ntmps98
  go_wp2
  have HB0 : Hid ((((w.alloc (shB l n)).alloc (grG (fun _ => 0) (fun _ => 0) 0 0)).alloc (grG (nth l) (wstFrom l n) f n)).heap[w.heap.size]? = some (shB l n)) := hid (by
    exact (Below.heap_alloc _ _ _ (by simp; omega)).trans (heap_alloc2_old w _ _))
  have HB1 : Hid ((((w.alloc (shB l n)).alloc (grG (fun _ => 0) (fun _ => 0) 0 0)).alloc (grG (nth l) (wstFrom l n) f n)).heap[w.heap.size + 1]? = some (grG (fun _ => 0) (fun _ => 0) 0 0)) := hid (by
    exact (Below.heap_alloc _ _ _ (by simp)).trans (heap_alloc2_new w _ _))
  have HB2 : Hid ((((w.alloc (shB l n)).alloc (grG (fun _ => 0) (fun _ => 0) 0 0)).alloc (grG (nth l) (wstFrom l n) f n)).heap[w.heap.size + 1 + 1]? = some (grG (nth l) (wstFrom l n) f n)) := hid (by
    have := heap_alloc_new ((w.alloc (shB l n)).alloc (grG (fun _ => 0) (fun _ => 0) 0 0)) (grG (nth l) (wstFrom l n) f n)
    simpa using this)
  have HK : Hid (Kp0 w (((w.alloc (shB l n)).alloc (grG (fun _ => 0) (fun _ => 0) 0 0)).alloc (grG (nth l) (wstFrom l n) f n))) := (((Kp.refl _ w).alloc _).alloc _).alloc _
  have z : ∀ j, wstFrom l n j = 0 := fun j => by unfold wstFrom; rw [if_neg (by have := HN.out; omega)]
  have e0 : (((w.alloc (.cells #[.int .i64 (nth l 0), .int .i64 (nth l 1), .int .i64 (nth l 2), .int .i64 (nth l 3), .int .i64 (n : Int)] 104)).alloc (.cells #[.int .i64 0, .int .i64 0, .int .i64 0, .int .i64 0, .int .i64 0, .int .i64 0, .int .i64 0, .int .i64 0, .int .i64 0, .int .i64 0] 107)).alloc
      (.cells #[.int .i64 (nth l 0), .int .i64 (nth l 1), .int .i64 (nth l 2), .int .i64 (nth l 3), .int .i64 (n : Int), .int .i64 f, .int .i64 0, .int .i64 0, .int .i64 0, .int .i64 0] 107)) = ((w.alloc (shB l n)).alloc (grG (fun _ => 0) (fun _ => 0) 0 0)).alloc (grG (nth l) (wstFrom l n) f n) := by
    simp [grG, z]
  rw [e0]
  clear e0 z
  obtain ⟨b0, hb0⟩ : ∃ b0, b0 = w.heap.size := ⟨_, rfl⟩
  rw [← hb0] at HB0 HB1 HB2 ⊢
  have HBB := hid hb0
  clear hb0
  generalize ((w.alloc (shB l n)).alloc (grG (fun _ => 0) (fun _ => 0) 0 0)).alloc (grG (nth l) (wstFrom l n) f n) = W at HB0 HB1 HB2 HK ⊢
  go_loopw [6, 7] (fun s a w' => ∃ k : Nat, k ≤ n ∧ a = .int .i64 ((k : Int) - 1) ∧ s = .int .i64 (vol (l.drop k)) ∧ Hid (Kp0 w w') ∧ Hid (w'.heap[b0]? = some (shB l n)) ∧ Hid (w'.heap[b0 + 1]? = some (grG (fun _ => 0) (fun _ => 0) 0 0)) ∧ Hid (w'.heap[b0 + 1 + 1]? = some (grG (nth l) (wstFrom l k) f n))) (fun _ a _ => (intOf a + 1).toNat)
  case atStart => exact ⟨n, Nat.le_refl _, rfl, by rw [List.drop_of_length_le (by have := HN.out; omega)]; rfl, HK, HB0, HB1, HB2⟩
  case round =>
    clear HB0 HB1 HB2 HK
    obtain ⟨k, hk, rfl, rfl, HK, HB0, HB1, HB2⟩ := hrel
    cases k with
    | zero =>
      obtain ⟨c0, c1, c2, c3, c4, c5, c6, c7, c8, c9⟩ := cells10 HB2.out
      obtain ⟨z0, z1, z2, z3, z4, z5, z6, z7, z8, z9⟩ := cells10 HB1.out
      obtain ⟨f0, f1, f2, f3, f4, f5, f6, f7, f8, f9⟩ := frozen10 HB1.out
      go_wp2
      (try simp only [Exit.inBlock, Exit.then])
      refine bodyPost_ret (res_cell rfl _ _ (b0 + 1) _ _ _ _ rfl (chain10 _ (b0 + 1) _ _ _ _ _ _ _ _ _ _ _ _ _ _ _ _ _ _ _ _ _ HB1.out) Tryz.underlying107 rfl Tryz.szGrid) rfl ?_
      refine ⟨(List.range n).map (wst l), by simp, fun k hk => ?_, ?_, kchain10 HK.out (b0 + 1) _ _ _ _ _ _ _ _ _ _ (fun h => by have := HBB.out; omega)⟩
      · rw [nth_lt (by simpa using hk)]; simp
      · have e : ∀ j, nth ((List.range n).map (wst l)) j = wstFrom l 0 j := fun j => by
          unfold wstFrom
          by_cases hj : j < n
          · rw [nth_lt (by simpa using hj), if_pos (by have := HN.out; omega)]; simp
          · rw [nth_out (by simp; omega), if_neg (by have := HN.out; omega)]
        simp [grC, e, HN.out]
    | succ k =>
      have q1 := sh_cell HB0.out k (by omega)
      have b1 := vol_drop_bd l HS.out.2.1 HS.out.1 k (by have := HN.out; omega)
      have HV : Hid (vol (l.drop k) = vol (l.drop (k + 1)) * nth l k) := hid (by rw [vol_drop l k (by have := HN.out; omega), Int.mul_comm])
      rw [HV.out] at b1
      have k1 : (k : Int) < 4 := by omega
      have HP := hid (xput_calls (b0 + 1 + 1) k (nth l k) (vol (l.drop (k + 1))) (nth l) (wstFrom l (k + 1)) f n _ (by omega) HB2.out)
      rw [upd_same, show stepOf (nth l k) (vol (l.drop (k + 1))) = wst l k from rfl, wst_step l k (by have := HN.out; omega)] at HP
      have ek : (((k + 1 : Nat) : Int) - 1) = (k : Int) := by omega
      rw [ek]
      clear ek
      go_wp2_with fail
      refine HP.out.mono ?_
      rintro e w2 ⟨rfl, hw, hb⟩
      have HB2' : Hid (w2.heap[b0 + 1 + 1]? = some (grG (nth l) (wstFrom l k) f n)) := hb
      have HB1' : Hid (w2.heap[b0 + 1]? = some (grG (fun _ => 0) (fun _ => 0) 0 0)) := hw.heap HB1.out (by omega)
      have HB0' : Hid (w2.heap[b0]? = some (shB l n)) := hw.heap HB0.out (by omega)
      have HK' : Hid (Kp0 w w2) := Kp.trans HK.out hw (fun i hi e => by have := HBB.out; omega)
      clear hw hb
      have q2 := sh_cell HB0'.out k (by omega)
      go_wp2
      go_roundw
      case rel => exact ⟨k, by omega, by go_num, by rw [HV.out], HK', HB0', HB1', HB2'⟩
      case measure => simp [intOf]

end Go.Proofs.YticbbncdcannlaaGreat

/- The program's package grid, walked: repeat. -/
namespace Go.Proofs.YticbbncdcannlaaGreat
open Go.RowKit

theorem run_mk0 {P : Program} (t e : TypeId) (z : Value) (bytes : Nat) (ht : P.underlying t = some (.slice e)) (hi : (P.info? e).map (fun i => (i.zero, i.size, i.bytes)) = some (some z, 1, bytes)) (hz : z.cells = #[z]) (hby : bytes ≤ 100) (n : Nat) (hn : n ≤ 1000000000000) (W : World) :
    (Instr.makeSlice t (.int .i64 0) (.int .i64 (n : Int))).run P W = .ok (.slice (some ⟨W.heap.size, 0, none⟩) 0 n) (W.alloc (.cells (rep n z) e)) := by
  obtain ⟨i, hi, hz0, hz1, hz2⟩ := info_parts hi
  have hb : (i.bytes : Int) * (n : Int) ≤ 281474976710656 := by
    have h1 : i.bytes * n ≤ 100 * 1000000000000 := Nat.mul_le_mul (by omega) hn
    have h2 : ((i.bytes * n : Nat) : Int) ≤ 281474976710656 := by omega
    rwa [Int.natCast_mul] at h2
  have := run_make (P := P) W t e i z ht hi hz0 .i64 .i64 0 n (by omega) (by omega) hb (by omega)
  rw [this, hz1, hz]
  simp only [Int.toNat_natCast, Nat.mul_one]
  congr 4
  unfold rep
  rw [← toList_madeCells_one]

theorem OwI.empty {w : World} {b n : Nat} {cs : Array Value} (hn : n ≤ 1000000000000) (hs : cs.size = n) (hb : w.heap[b]? = some (.cells cs 3 (0, 0))) : OwI w (.slice (some ⟨b, 0, none⟩) 0 n) [] :=
  ⟨rfl, .inr ⟨b, n, cs, rfl, Nat.zero_le _, hb, Nat.zero_le _, by unfold maxLen; omega, by omega, by simp [ints]⟩⟩

/-- The cells of one more axis at one cell, up to the i-th. -/
def runOf (c s : Int) (i : Nat) : List Int := (List.range i).map fun i => c + ((i : Nat) : Int) * s

theorem runOf_succ (c s : Int) (i : Nat) : runOf c s (i + 1) = runOf c s i ++ [c + (i : Int) * s] := by simp [runOf, List.range_succ]
theorem spread_snoc (xs : List Int) (k n : Nat) (s : Int) (h : k < xs.length) : spread (xs.take (k + 1)) n s = spread (xs.take k) n s ++ runOf (nth xs k) s n := by
  rw [take_snoc xs k h, spread_append, spread_one]
  rfl

/-- A list of n ints of the call's own. -/
def OwN (w0 w : World) (v : Value) (n : Nat) (xs : List Int) : Prop := ∃ ao c, v = .slice ao n c ∧ OwI w (.slice ao n c) xs ∧ Kp0 w0 w ∧ ∀ b, (Value.slice ao n c).ownBlock = some b → w0.heap.size ≤ b

set_option maxRecDepth 100000 in
set_option maxHeartbeats 2000000 in
theorem xrepeat_calls (vx : Value) (xs : List Int) (n : Nat) (s M : Int) (w : World) (hr : RdI w vx xs) (hsz : xs.length * n ≤ 1000000) (hn1 : 1 ≤ n) (hn : n ≤ 1000) (hM : M ≤ 1000000)
    (hb : ∀ j i : Nat, j < xs.length → i < n → 0 ≤ nth xs j + (i : Int) * s ∧ nth xs j + (i : Int) * s < M) (h0 : ∀ j : Nat, j < xs.length → 0 ≤ nth xs j ∧ nth xs j < M) :
    Calls Tryz.prog 97 #[vx, .int .i64 (n : Int), .int .i64 s] w fun e w' => ∃ v, e = .returned v ∧ NewI w w' v (spread xs n s) := by
  obtain ⟨m, hm⟩ : ∃ m, m = xs.length * n := ⟨_, rfl⟩
  have hmm : m ≤ 1000000 := by omega
  obtain ⟨a, c, rfl, hra⟩ := hr
  obtain ⟨L, hL⟩ : ∃ L, L = xs.length := ⟨_, rfl⟩
  have hml : IntKind.i64.wrap ((L : Int) * (n : Int)) = (m : Int) := by
    have : (L : Int) * (n : Int) = (m : Int) := by rw [hm, hL, Int.natCast_mul]
    rw [this]; simp [IntKind.wrap, IntKind.signed, IntKind.bits]; omega
  have HL := hid hL.symm
  have HM : Hid (m = L * n) := hid (by rw [hL]; exact hm)
  rw [← hL]
  have HB := hid hb
  have H0 := hid h0
  have HRA := hid hra
  have hL1 : L ≤ 1000000 := by
    have := Nat.le_mul_of_pos_right xs.length (show 0 < n by omega)
    omega
  have hmk := fun W => run_mk0 (P := Tryz.prog) 26 3 (.int .i64 0) 8 Tryz.underlying26 Tryz.infoInt rfl (by omega) m (by omega) W
  clear hm hL hb h0 hra hsz
  go_enter Tryz.func97, Tryz.ntmps97
  go_wp2
  have HO : Hid (OwN w (w.alloc (.cells (rep m (.int .i64 0)) 3)) (.slice (some ⟨w.heap.size, 0, none⟩) 0 m) 0 []) :=
    ⟨some ⟨w.heap.size, 0, none⟩, m, rfl, OwI.empty (by omega) (by simp [rep]) (heap_alloc_new w _), (Kp.refl _ w).alloc _, fun b hb => by simp [Value.ownBlock] at hb; omega⟩
  generalize w.alloc (.cells (rep m (.int .i64 0)) 3) = W at HO ⊢
  generalize (Value.slice (some ⟨w.heap.size, 0, none⟩) 0 m) = V0 at HO ⊢
  clear hmk hml
  go_loopw [7, 18] (fun l t w' => ∃ j : Nat, j ≤ L ∧ t = .int .i64 j ∧ Hid (OwN w w' l (j * n) (spread (xs.take j) n s))) (fun _ t _ => L - (intOf t).toNat)
  case atStart => exact ⟨0, Nat.zero_le _, rfl, hid (by simpa [spread] using HO.out)⟩
  case round =>
    clear HO
    obtain ⟨j, hj, rfl, HO⟩ := hrel
    by_cases hlt : j < L
    · obtain ⟨g, o, rfl, hc⟩ := HRA.out (fun e => by have := HL.out; rw [e] at this; simp at this; omega)
      have HK0 : Hid (Kp0 w wr) := by obtain ⟨_, _, _, _, h, _⟩ := HO.out; exact h
      have q1 := HK0.out.cell (hc j (by have := HL.out; omega))
      clear hc
      go_wp2
      go_loopw [7, 23] (fun l t w' => ∃ i : Nat, i ≤ n ∧ t = .int .i64 i ∧ Hid (OwN w w' l (j * n + i) (spread (xs.take j) n s ++ runOf (nth xs j) s i))) (fun _ t _ => n - (intOf t).toNat)
      case atStart => exact ⟨0, Nat.zero_le _, rfl, hid (by simpa [runOf] using HO.out)⟩
      case round =>
        clear HO HK0
        obtain ⟨i, hi, rfl, HO⟩ := hrel
        by_cases hlt2 : i < n
        · obtain ⟨ao, c2, rfl, hO, hK, hB⟩ := HO.out
          have HOw := hid hO
          have HK := hid hK
          have HBo := hid hB
          clear hO hK hB HO
          have b1 := HB.out j i (by have := HL.out; omega) hlt2
          have b0 := H0.out j (by have := HL.out; omega)
          have HR : Hid (runOf (nth xs j) s (i + 1) = runOf (nth xs j) s i ++ [nth xs j + (i : Int) * s]) := runOf_succ _ _ _
          generalize hmi : (i : Int) * s = d at b1 HR
          have w1 : IntKind.i64.wrap ((i : Int) * s) = d := by rw [hmi]; simp [IntKind.wrap, IntKind.signed, IntKind.bits]; omega
          have w2 : IntKind.i64.wrap (nth xs j + d) = nth xs j + d := by simp [IntKind.wrap, IntKind.signed, IntKind.bits]; omega
          have HBN : Hid (j * n + i + [nth xs j + d].length ≤ 1000000000000) := hid (by
            have := HM.out
            have : (j + 1) * n ≤ L * n := Nat.mul_le_mul_right _ hlt
            rw [Nat.succ_mul] at this
            simp; omega)
          clear hmi
          go_wp2_with (at_builtin; refine wpList_app rfl _ _ rfl ao (j * n + i) c2 (spread (xs.take j) n s ++ runOf (nth xs j) s i) [nth xs j + d] _ rfl rfl (HOw.out.alloc _) (RdI.one _ _) HBN.out _ rfl ?_; intro ao' c' w7 hC7 hG7 hB7)
          go_roundw
          case rel =>
            refine ⟨i + 1, by omega, by go_num, ao', c', rfl, ?_, Kp.grown (Kp.alloc HK.out _) hG7 (fun b hb h => by have := HBo.out b hb; omega), fun b hb => ?_⟩
            · rw [HR.out, ← List.append_assoc]; exact hC7
            · rcases hB7 b hb with h | h
              · exact HBo.out b h
              · have := HK.out.size; simp at h; omega
          case measure => simp [intOf]; omega
        · obtain rfl : i = n := by omega
          have HO2 : Hid (OwN w wr u7 ((j + 1) * i) (spread (xs.take (j + 1)) i s)) := hid (by
            rw [spread_snoc xs j i s (by have := HL.out; omega), Nat.succ_mul]; exact HO.out)
          clear HO
          go_wp2
          go_roundw
          case rel => exact ⟨j + 1, by omega, by go_num, HO2⟩
          case measure => simp [intOf]; omega
    · obtain rfl : j = L := by omega
      go_wp2
      go_ret
      obtain ⟨ao, c2, rfl, hO, hK, hB⟩ := HO.out
      have hx : xs.take j = xs := List.take_of_length_le (by have := HL.out; omega)
      rw [hx] at hO
      have hl : j * n = (spread xs n s).length := by rw [spread_length, HL.out]
      refine ⟨.slice ao (j * n) c2, rfl, ao, c2, by rw [hl], ?_, hK, ?_⟩
      · rw [← hl]; exact hO
      · rw [← hl]; exact hB

end Go.Proofs.YticbbncdcannlaaGreat

/- The program's package grid, walked: Cells; the cells of an array that lie one behind the other. -/
namespace Go.Proofs.YticbbncdcannlaaGreat
open Go.RowKit

theorem gc_bounds {l t : List Int} {f M : Int} (hg : GOk l t f M) (k : Nat) (hk : k < l.length) :
    (∀ j i : Nat, j < (gc l t f k).length → i < (nth l k).toNat → 0 ≤ nth (gc l t f k) j + (i : Int) * nth t k ∧ nth (gc l t f k) j + (i : Int) * nth t k < M) ∧ (∀ j : Nat, j < (gc l t f k).length → 0 ≤ nth (gc l t f k) j ∧ nth (gc l t f k) j < M) ∧ (gc l t f k).length * (nth l k).toNat ≤ 1000000 := by
  have hs := hg.shape.2.1
  refine ⟨fun j i hj hi => step_in hs hg.inside k hk j i hj (by have := hs k hk; omega), fun j hj => within_to hs hg.inside k (by omega) j hj, ?_⟩
  have h1 := gc_length l t f hs (k + 1) (by omega)
  rw [gc, spread_length] at h1
  have h2 : vol (l.take (k + 1)) ≤ vol l := by
    have key : ∀ d, k + 1 + d ≤ l.length → vol (l.take (k + 1)) ≤ vol (l.take (k + 1 + d)) := by
      intro d
      induction d with
      | zero => intro _; exact Int.le_refl _
      | succ d ih =>
        intro hd
        have h3 := ih (by omega)
        have h4 := hs (k + 1 + d) (by omega)
        have h5 := vol_bd l hs hg.shape.1 (k + 1 + d) (by omega)
        rw [show k + 1 + (d + 1) = (k + 1 + d) + 1 by omega, vol_take l (k + 1 + d) (by omega)]
        have := Int.mul_le_mul_of_nonneg_left h4.1 (show 0 ≤ vol (l.take (k + 1 + d)) by omega)
        rw [Int.mul_one] at this
        omega
    have := key (l.length - (k + 1)) (by omega)
    rwa [show k + 1 + (l.length - (k + 1)) = l.length by omega, List.take_length] at this
  have := hg.shape.2.2
  omega

set_option maxRecDepth 100000 in
set_option maxHeartbeats 2000000 in
theorem xcells_calls (l t : List Int) (f M : Int) (w : World) (hg : GOk l t f M) :
    Calls Tryz.prog 60 #[.agg (grC l t f).toArray] w fun e w' => ∃ v, e = .returned v ∧ NewI w w' v (gc l t f l.length) := by
  obtain ⟨n, hn⟩ : ∃ n, n = l.length := ⟨_, rfl⟩
  have hn4 : n ≤ 4 := by have := hg.shape.1; omega
  have HG := hid hg
  unfold grC
  rw [← hn]
  have HN := hid hn.symm
  clear hn hg
  go_enter Tryz.func60, Tryz.ntmps60
  go_wp2
  have HB0 : Hid (((w.alloc (grB l t f n)).alloc (.cells #[.int .i64 f] 3)).heap[w.heap.size]? = some (grB l t f n)) := heap_alloc2_old w _ _
  have HO : Hid (NewI w ((w.alloc (grB l t f n)).alloc (.cells #[.int .i64 f] 3)) (.slice (some ⟨w.heap.size + 1, 0, none⟩) 1 1) (gc l t f 0)) :=
    NewI.made (xs := [f]) rfl (by omega) (heap_alloc2_new w _ _) (((Kp.refl _ w).alloc _).alloc _) (by omega)
  obtain ⟨b0, hb0⟩ : ∃ b0, b0 = w.heap.size := ⟨_, rfl⟩
  rw [← hb0] at HB0 HO ⊢
  have HBB := hid hb0
  clear hb0
  generalize (w.alloc (grB l t f n)).alloc (.cells #[.int .i64 f] 3) = W at HB0 HO ⊢
  generalize (Value.slice (some ⟨b0 + 1, 0, none⟩) 1 1) = V0 at HO ⊢
  go_loopw [3, 11] (fun v a w' => ∃ k : Nat, k ≤ n ∧ a = .int .i64 k ∧ Hid (w'.heap[b0]? = some (grB l t f n)) ∧ Hid (NewI w w' v (gc l t f k))) (fun _ a _ => n - (intOf a).toNat)
  case atStart => exact ⟨0, Nat.zero_le _, rfl, HB0, HO⟩
  case round =>
    clear HB0 HO
    obtain ⟨k, hk, rfl, HB0, HO⟩ := hrel
    by_cases hlt : k < n
    · have q1 := gr_sizes HB0.out k (by omega)
      have q2 := gr_steps HB0.out k (by omega)
      have k1 : (k : Int) < 4 := by omega
      have k0 : (0 : Int) ≤ (k : Int) := by omega
      obtain ⟨g1, g2, g3⟩ := gc_bounds HG.out k (by have := HN.out; omega)
      have hs := HG.out.shape.2.1 k (by have := HN.out; omega)
      have hrd : RdI wr u3 (gc l t f k) := by obtain ⟨ao, c, rfl, h, _⟩ := HO.out; exact h.rd
      have HR := hid hrd
      have HC := hid (fun w0 hr => xrepeat_calls u3 (gc l t f k) (nth l k).toNat (nth t k) M w0 hr g3 (by omega) (by omega) HG.out.small g1 g2)
      rw [show (((nth l k).toNat : Nat) : Int) = nth l k by omega] at HC
      clear g1 g2 g3 hrd hs
      go_wp2
      go_region_with (go_at_call 97; refine (HC.out wr.drew HR.out).mono ?_; rintro e w7 ⟨v7, rfl, hN7⟩)
      all_goals
        have HB0' : Hid (w7.heap[b0]? = some (grB l t f n)) := by obtain ⟨_, _, _, _, h, _⟩ := hN7; exact h.heap HB0.out
        have HO' : Hid (NewI w w7 v7 (gc l t f (k + 1))) := by
          obtain ⟨_, _, _, _, h0, _⟩ := HO.out
          obtain ⟨ao, c, rfl, h1, h2, h3⟩ := hN7
          exact ⟨ao, c, rfl, h1, Kp0.trans h0.drew h2, fun b hb => Nat.le_trans h0.size (h3 b hb)⟩
        clear hN7
        (try simp only [Act.put, List.setIfInBounds_toArray])
        go_wp2
        go_roundw
        case rel => exact ⟨k + 1, by omega, by go_num, HB0', HO'⟩
        case measure => simp [intOf]; omega
    · obtain rfl : k = n := by omega
      go_wp2
      go_ret
      exact ⟨u3, rfl, HO.out⟩

theorem gc_whole (l t : List Int) (f : Int) (hs : sized l) (ht : ∀ k, k < l.length → nth t k = wst l k) (k : Nat) (hk : k ≤ l.length) :
    gc l t f k = (List.range (vol (l.take k)).toNat).map fun r => f + ((r : Nat) : Int) * vol (l.drop k) := by
  induction k with
  | zero => simp [gc, vol]
  | succ k ih =>
    have hlt : k < l.length := by omega
    have h1 := hs k hlt
    have hp : 1 ≤ vol (l.take k) := by have := gc_pos l t f hs k (by omega); have := gc_length l t f hs k (by omega); omega
    have e1 : (vol (l.take (k + 1))).toNat = (vol (l.take k)).toNat * (nth l k).toNat := by
      rw [vol_take l k hlt]
      apply Int.ofNat.inj
      show (((vol (l.take k) * nth l k).toNat : Nat) : Int) = (((vol (l.take k)).toNat * (nth l k).toNat : Nat) : Int)
      rw [Int.natCast_mul, Int.toNat_of_nonneg (Int.mul_nonneg (by omega) (by omega)), Int.toNat_of_nonneg (by omega), Int.toNat_of_nonneg (by omega)]
    have el : (gc l t f k).length = (vol (l.take k)).toNat := by have := gc_length l t f hs k (by omega); omega
    rw [gc]
    refine ext_nth (by rw [spread_length, el]; simp [e1]) (fun j hj => ?_)
    rw [spread_length] at hj
    have hn0 : 0 < (nth l k).toNat := by omega
    have hq : j / (nth l k).toNat < (gc l t f k).length := Nat.div_lt_of_lt_mul (by rw [Nat.mul_comm]; exact hj)
    have hr : j % (nth l k).toNat < (nth l k).toNat := Nat.mod_lt _ hn0
    have ej : j = j / (nth l k).toNat * (nth l k).toNat + j % (nth l k).toNat := by rw [Nat.mul_comm]; exact (Nat.div_add_mod j _).symm
    have hj2 : j < (vol (l.take (k + 1))).toNat := by rw [e1, ← el]; exact hj
    rw [nth_lt (xs := (List.range (vol (l.take (k + 1))).toNat).map _) (by simpa using hj2)]
    simp only [List.getElem_map, List.getElem_range]
    generalize hqv : j / (nth l k).toNat = q at *
    generalize hrv : j % (nth l k).toNat = r at *
    rw [ej, nth_spread _ _ _ _ _ hq hr, ih (by omega), nth_lt (xs := (List.range (vol (l.take k)).toNat).map _) (by simp; omega)]
    simp only [List.getElem_map, List.getElem_range]
    rw [vol_drop l k hlt, ht k hlt]
    have n1 : (((nth l k).toNat : Nat) : Int) = nth l k := by omega
    have e3 : ((r : Nat) : Int) * wst l k = (r : Int) * vol (l.drop (k + 1)) := by
      unfold wst stepOf
      split
      · have : r = 0 := by omega
        subst this; simp
      · rfl
    rw [e3, Int.natCast_add, Int.natCast_mul, n1, Int.add_mul, Int.mul_assoc]
    omega

theorem gc_whole_all (l t : List Int) (f : Int) (hs : sized l) (ht : ∀ k, k < l.length → nth t k = wst l k) : gc l t f l.length = rng f (vol l).toNat := by
  rw [gc_whole l t f hs ht l.length (Nat.le_refl _), List.take_length, List.drop_length]
  simp [rng, vol]

theorem whole_ok (l t : List Int) (f M : Int) (hs : okShape l) (hl : t.length = l.length) (ht : ∀ k, k < l.length → nth t k = wst l k) (h0 : 0 ≤ f) (hM : f + vol l ≤ M) (hb : M ≤ 1000000) : GOk l t f M := by
  refine ⟨hs, Nat.le_of_eq hl, fun k hk h1 => ?_, ?_, hb⟩
  · rw [ht k hk, wst, stepOf, if_pos h1]
  · rw [gc_whole_all l t f hs.2.1 ht]
    intro j hj
    rw [rng_length] at hj
    rw [nth_rng _ _ _ hj]
    have := vol_bd l hs.2.1 hs.1 l.length (Nat.le_refl _)
    rw [List.take_length] at this
    omega

end Go.Proofs.YticbbncdcannlaaGreat
