import Derived.ChangeKeysEq
import Derived.Deep.RegionLaw
import Derived.BigRegion
import Derived.Deep.Cut
import Derived.Deep.RegionHeld3
import Derived.Test.YticbbncdcannlaaGreatG25
set_option maxRecDepth 100000
set_option maxHeartbeats 8000000
namespace Go.Proofs.YticbbncdcannlaaGreat
open Go.RowKit
theorem Tryz.cellsI:Tryz.prog.cellsOf 3=1:=by kernel_rfl
theorem Tryz.plainI:Tryz.prog.plainKey 3=true:=by kernel_rfl
theorem eqI_cons(d:Nat)(xs ys:Array Value)(j:Nat)(x y:Int)(hx:xs[j]? =some (.int .i64 x))(hy:ys[j]? =some (.int .i64 y))(is:List Nat)(W:World):(Op.eqItems (d+1) 3 1 xs ys (j::is)).run Tryz.prog W=if x=y then(Op.eqItems (d+1) 3 1 xs ys is).run Tryz.prog W else .ok false W:=by
 have p1:(part 3 xs (j*1)).run Tryz.prog W=.ok (.int .i64 x) W:=run_part_plain W Tryz.plainI (by rw[Nat.mul_one];exact hx);have p2:(part 3 ys (j*1)).run Tryz.prog W=.ok (.int .i64 y) W:=run_part_plain W Tryz.plainI (by rw[Nat.mul_one];exact hy);simp only[Op.eqItems,Sem.run_bind,p1,p2,Result.andThen_ok,run_equalIn_int W d 3 .i64 .i64 x y Tryz.underlying3];by_cases h:x=y
 ·simp[h]
 ·simp[h]
theorem eq4_run(d:Nat)(t:TypeId)(hu:Tryz.prog.underlying t=some (.array 4 3))(x0 x1 x2 x3 y0 y1 y2 y3:Int)(W:World):(Op.equalIn (d+2) t (.agg #[.int .i64 x0,.int .i64 x1,.int .i64 x2,.int .i64 x3]) (.agg #[.int .i64 y0,.int .i64 y1,.int .i64 y2,.int .i64 y3])).run Tryz.prog W=.ok (decide (x0=y0∧x1=y1∧x2=y2∧x3=y3)) W:=by
 obtain⟨i,hi⟩:=info_of_underlying Tryz.underlying3;rw[run_equalIn_array W (d+1) _ _ hu hi,Tryz.cellsI,show List.range 4=[0,1,2,3]from rfl];rw[eqI_cons d _ _ 0 x0 y0 rfl rfl,eqI_cons d _ _ 1 x1 y1 rfl rfl,eqI_cons d _ _ 2 x2 y2 rfl rfl,eqI_cons d _ _ 3 x3 y3 rfl rfl];by_cases h0:x0=y0<;>by_cases h1:x1=y1<;>by_cases h2:x2=y2<;>by_cases h3:x3=y3<;>simp[h0,h1,h2,h3,Op.eqItems]
theorem roff_bd(l t:List Int)(hs:sized l)(ht:∀k,k<l.length→ -1000000≤nth t k∧nth t k≤1000000)(k:Nat)(hk:k≤l.length)(r:Int): -(60000000*(k:Int))≤roff (stk l t k) r∧roff (stk l t k) r≤60000000*(k:Int):=by
 induction k generalizing r with
 |zero=>simp[stk,roff]
 |succ k ih=>
  have h1:=hs k (by omega);have h2:=ht k (by omega);have h3:=ih (by omega) (r / nth l k);have r0:0≤r%nth l k:=Int.emod_nonneg _ (by omega);have r1:r%nth l k<nth l k:=Int.emod_lt_of_pos _ (by omega);have m1:r%nth l k*nth t k≤r%nth l k*1000000:=Int.mul_le_mul_of_nonneg_left h2.2 r0;have m2:r%nth l k*(-1000000)≤r%nth l k*nth t k:=Int.mul_le_mul_of_nonneg_left h2.1 r0;simp only[stk,roff];omega
def rshF(l t s:List Int)(k:Nat):Int:=stepOf (nth s k) (roff (stk l t l.length) (vol (s.drop (k+1))))
def rshT(l t s:List Int):List Int:=mkL s.length (rshF l t s)
def fromF(F:Nat→Int)(n k j:Nat):Int:=if k≤j∧j<n then F j else 0
theorem fromF_step(F:Nat→Int)(n k:Nat)(hk:k<n):upd (fromF F n (k+1)) k (F k)=fromF F n k:=by
 funext j
 unfold upd fromF;by_cases h:j=k
 ·rw[if_pos h,if_pos (by omega),h]
 ·rw[if_neg h]
  by_cases h2:k+1≤j∧j<n
  ·rw[if_pos h2,if_pos (by omega)]
  ·rw[if_neg h2,if_neg (by omega)]
theorem fromF_end(F:Nat→Int)(n j:Nat):fromF F n 0 j=nth (mkL n F) j:=by
 rw[mkL_nth];unfold fromF;by_cases h:j<n
 ·rw[if_pos h,if_pos (by omega)]
 ·rw[if_neg h,if_neg (by omega)]
theorem fromF_start(F:Nat→Int)(n j:Nat):fromF F n n j=0:=by unfold fromF;rw[if_neg (by omega)]
theorem GOk.bds{l t:List Int}{f M:Int}(hg:GOk l t f M):(∀k,k<l.length→ -1000000≤nth t k∧nth t k≤1000000)∧0≤f∧f≤1000000:=by
 have hf:=first_in hg.shape.2.1 hg.inside;have:=hg.small;refine⟨fun k hk=>?_,hf.1,by omega⟩;have:=step_bd hg.shape.2.1 hg.inside k hk (hg.unit k hk);omega
theorem drop_lt{s:List Int}(hs:sized s)(k:Nat)(hk:k<s.length)(h1:nth s k≠1):vol (s.drop (k+1))<vol s:=by
 have key:∀j,j≤s.length→∀i,i≤j→vol (s.drop j)≤vol (s.drop i)∧1≤vol (s.drop j):=by
  intro j hj;have pos:∀i,i≤s.length→1≤vol (s.drop i):=fun i hi=>by
   refine vol_pos_of (fun q hq=>?_);have e:nth (s.drop i) q=nth s (i+q):=by unfold nth List.getD;rw[List.getElem?_drop]
   rw[e];exact hs _ (by simp at hq;omega)
  intro i hi;refine⟨?_,pos j hj⟩
  induction j with
  |zero=>have:i=0:=by omega
         subst this;exact Int.le_refl _
  |succ j ih=>
   rcases Nat.lt_or_ge i (j+1)with h|h
   ·have h2:=ih (by omega) (by omega)
    have h3:=vol_drop s j (by omega);have h4:=hs j (by omega);have h5:=pos (j+1) hj;have:=Int.mul_le_mul h4.1 (Int.le_refl (vol (s.drop (j+1)))) (by omega) (by omega);omega
   ·have:i=j+1:=by omega
    subst this;exact Int.le_refl _
 have h2:=key k (by omega) 0 (by omega);have h3:=vol_drop s k hk;have h4:=hs k hk;have h5:=(key (k+1) (by omega) (k+1) (Nat.le_refl _)).2;have:=Int.mul_le_mul (show(2:Int)≤nth s k by omega) (Int.le_refl (vol (s.drop (k+1)))) (by omega) (by omega);simp only[List.drop_zero]at h2;omega
theorem rsh_bd{l t s:List Int}{f M:Int}(hg:GOk l t f M)(hs:okShape s)(hv:vol s=vol l)(k:Nat)(hk:k<s.length): -1000000≤rshF l t s k∧rshF l t s k≤1000000:=by
 unfold rshF stepOf;split
 ·omega
 ·rename_i h1
  have hd:=drop_lt hs.2.1 k hk h1;have h0:=(vol_drop_bd s hs.2.1 hs.1 (k+1) (by omega)).1;have hr:=gc_roff l t f hg.shape.2.1 l.length (Nat.le_refl _) (vol (s.drop (k+1))).toNat (by rw[List.take_length];omega);rw[show(((vol (s.drop (k+1))).toNat:Nat):Int)=vol (s.drop (k+1)) by omega]at hr;have hlen:=gc_length l t f hg.shape.2.1 l.length (Nat.le_refl _);rw[List.take_length]at hlen;have hin:=hg.inside (vol (s.drop (k+1))).toNat (by omega);have hf:=first_in hg.shape.2.1 hg.inside;have:=hg.small;omega
theorem xgresh_any(l t s:List Int)(f M:Int)(w:World)(hg:GOk l t f M)(hs:okShape s)(hv:vol s=vol l):Calls Tryz.prog 58 #[.agg (grC l t f).toArray,.agg (shC s).toArray] w fun e w'=>((mstk s (rshT l t s) s.length=mstk l t l.length∧e=.returned (.tuple #[.agg (grC s (rshT l t s) f).toArray,.bool true]))∨(mstk s (rshT l t s) s.length≠mstk l t l.length∧e=.returned (.tuple #[.agg zG,.bool false])))∧Kp0 w w':=by
 have hbd:=hg.bds;have HRB:=hid (fun k hk=>rsh_bd hg hs hv k hk);have HOB:=hid (roff_bd l t hg.shape.2.1 hbd.1 l.length (Nat.le_refl _));have HL4:=hid hg.shape.1;have HNT:Hid (∀r W,0≤r→r≤100000000→Calls Tryz.prog 95 #[.agg (grC l t f).toArray,.int .i64 r] W fun e w'=>∃v,e=.returned v∧(v=.int .i64 (f+roff (stk l t l.length) r)∧Kp0 W w')):=hid (fun r W h0 h1=>(xnth_calls l t f r W hg.shape.2.1 hg.shape.1 hbd.1 hbd.2 ⟨h0,h1⟩).mono (fun e w' ⟨h,k⟩=>⟨_,h,rfl,k⟩));have HM1:Hid (∀W,Calls Tryz.prog 96 #[.agg (grC l t f).toArray] W fun e w'=>∃v,e=.returned v∧(v=.agg (stC (mstk l t l.length) f)∧Kp0 W w')):=hid (fun W=>(xmerged_calls l t f W hg.shape.2.1 hg.shape.1 hbd.1).mono (fun e w' ⟨h,k⟩=>⟨_,h,rfl,k⟩));have HM2:Hid (∀W,Calls Tryz.prog 96 #[.agg (grC s (rshT l t s) f).toArray] W fun e w'=>∃v,e=.returned v∧(v=.agg (stC (mstk s (rshT l t s) s.length) f)∧Kp0 W w')):=hid (fun W=>(xmerged_calls s (rshT l t s) f W hs.2.1 hs.1 (fun k hk=>by unfold rshT;rw[mkL_nth,if_pos hk];exact rsh_bd hg hs hv k hk)).mono (fun e w' ⟨h,k⟩=>⟨_,h,rfl,k⟩));have HAL:Hid ((mstk l t l.length).length≤4∧(mstk s (rshT l t s) s.length).length≤4):=hid ⟨by have:=mstk_length l t l.length;have:=hg.shape.1;omega,by have:=mstk_length s (rshT l t s) s.length;have:=hs.1;omega⟩;have HF:Hid (0≤f∧f≤1000000):=hid hbd.2;have HSH:=hid hs;obtain⟨F,hF⟩:∃F,F=rshF l t s:=⟨_,rfl⟩;have HU:Hid (rshT l t s=mkL s.length F):=hid (by rw[hF];rfl);have HFF:Hid (∀k,F k=stepOf (nth s k) (roff (stk l t l.length) (vol (s.drop (k+1))))):=hid (fun k=>by rw[hF];rfl);rw[←hF]at HRB;rw[HU.out]at HM2 HAL⊢;generalize hro:roff (stk l t l.length)=ro at*;unfold grC shC at*;unfold zG;obtain⟨n,hn⟩:∃n,s.length=n:=⟨_,rfl⟩;have HN:=hid hn;have hn4:n≤4:=by have:=hs.1;omega
 simp only[hn]at HM2 HRB HAL⊢;obtain⟨n1,hn1⟩:∃n1,l.length=n1:=⟨_,rfl⟩;simp only[hn1]at HNT HM1 HOB HL4 HAL⊢;obtain⟨hB0,hB1,hB2⟩:=three_heap w (grB l t f n1) (shB s n) zGB;have HB0:=hid (heap_alloc_keeps hB0 (grG (nth s) (fromF F n n) f n));have HB1:=hid (heap_alloc_keeps hB1 (grG (nth s) (fromF F n n) f n));have HB2:=hid (heap_alloc_keeps hB2 (grG (nth s) (fromF F n n) f n));have HB3:Hid (((((w.alloc (grB l t f n1)).alloc (shB s n)).alloc zGB).alloc (grG (nth s) (fromF F n n) f n)).heap[w.heap.size+1+1+1]? =some (grG (nth s) (fromF F n n) f n)):=hid (by
  have:=heap_alloc_new (((w.alloc (grB l t f n1)).alloc (shB s n)).alloc zGB) (grG (nth s) (fromF F n n) f n);simpa using this)
 have HK:Hid (Kp0 w ((((w.alloc (grB l t f n1)).alloc (shB s n)).alloc zGB).alloc (grG (nth s) (fromF F n n) f n))):=((((Kp.refl _ w).alloc _).alloc _).alloc _).alloc _;clear hB0 hB1 hB2 hg hs hv hbd hF hn hn1 hro;go_enter Tryz.func58,Tryz.ntmps58
 go_wp2
 have z:=fromF_start F n;have e0:(((w.alloc (.cells #[.int .i64 (nth l 0),.int .i64 (nth l 1),.int .i64 (nth l 2),.int .i64 (nth l 3),.int .i64 (n1:Int),.int .i64 f,.int .i64 (nth t 0),.int .i64 (nth t 1),.int .i64 (nth t 2),.int .i64 (nth t 3)] 107)).alloc (.cells #[.int .i64 (nth s 0),.int .i64 (nth s 1),.int .i64 (nth s 2),.int .i64 (nth s 3),.int .i64 (n:Int)] 104)).alloc (.cells #[.int .i64 0,.int .i64 0,.int .i64 0,.int .i64 0,.int .i64 0,.int .i64 0,.int .i64 0,.int .i64 0,.int .i64 0,.int .i64 0] 107)).alloc
   (.cells #[.int .i64 (nth s 0),.int .i64 (nth s 1),.int .i64 (nth s 2),.int .i64 (nth s 3),.int .i64 (n:Int),.int .i64 f,.int .i64 0,.int .i64 0,.int .i64 0,.int .i64 0] 107)=(((w.alloc (grB l t f n1)).alloc (shB s n)).alloc zGB).alloc (grG (nth s) (fromF F n n) f n):=by
  simp[grG,z]
 rw[e0];clear e0 z;obtain⟨b0,hb0⟩:∃b0,w.heap.size=b0:=⟨_,rfl⟩;rw[hb0]at HB0 HB1 HB2 HB3⊢;have HBB:=hid hb0;clear hb0;generalize (((w.alloc (grB l t f n1)).alloc (shB s n)).alloc zGB).alloc (grG (nth s) (fromF F n n) f n)=W at HB0 HB1 HB2 HB3 HK⊢
 go_loopw [7,8] (fun s7 s8 w'=>∃k:Nat,k≤n∧s8=.int .i64 ((k:Int)-1)∧s7=.int .i64 (vol (s.drop k))∧Hid (Kp0 w w')∧Hid (w'.heap[b0]? =some (grB l t f n1))∧Hid (w'.heap[b0+1]? =some (shB s n))∧Hid (w'.heap[b0+2]? =some zGB)∧Hid (w'.heap[b0+1+1+1]? =some (grG (nth s) (fromF F n k) f n))) (fun _ s8 _=>(intOf s8+1).toNat)
 case atStart=>exact⟨n,Nat.le_refl _,rfl,by rw[List.drop_of_length_le (by have:=HN.out;omega)];rfl,HK,HB0,HB1,HB2,HB3⟩
 case round=>
  clear HB0 HB1 HB2 HB3 HK;obtain⟨k,hk,rfl,rfl,HK,HB0,HB1,HB2,HB3⟩:=hrel;cases k with
  |zero=>
   go_wp2
   have HG3:Hid (wr.heap[b0+1+1+1]? =some (gO #[.int .i64 (nth s 0),.int .i64 (nth s 1),.int .i64 (nth s 2),.int .i64 (nth s 3),.int .i64 (n:Int),.int .i64 f,.int .i64 (nth (mkL n F) 0),.int .i64 (nth (mkL n F) 1),.int .i64 (nth (mkL n F) 2),.int .i64 (nth (mkL n F) 3)])):=hid (by
    have:=HB3.out;simp only[grG,fromF_end]at this;exact this)
   refine region_joined (by kernel_rfl) (by kernel_rfl) _ _ _ _ _ _ _ _ rfl _ _ ⟨rfl,rfl,rfl⟩ ⟨rfl,rfl,rfl⟩ ⟨rfl,rfl,rfl⟩ ⟨rfl,rfl,rfl⟩ ⟨rfl,rfl,rfl⟩ ⟨rfl,rfl,rfl⟩ ⟨rfl,rfl,rfl⟩ ⟨rfl,rfl,rfl⟩ (fun L h=>by simp[Region.binds]at h;simp[h]) (fun L h=>by simp[Region.binds]at h;simp[h]) (fun L h=>by simp[Region.binds]at h;simp[h]) (fun L h=>by simp[Region.binds]at h;simp[h])
    b0 (b0+1+1+1) rfl rfl (by simp) _ _ _ _ HB0.out HG3.out rfl rfl ⟨rfl,by simp[stC,Value.oneCell']⟩ ⟨rfl,by simp[stC,Value.oneCell']⟩ HM1.out HM2.out ?_
   intro A B W2 hk2 hA hB hA1 hB1;have HB02:=hid (hk2.heap HB2.out);have HB03:=hid (hk2.heap HG3.out);have HK2:=hid (HK.out.trans hk2);unfold stC at hA hB;obtain⟨x0,x1,x2,x3,x4,x5,x6,x7,x8,x9⟩:=cells10 hA;obtain⟨z0,z1,z2,z3,z4,z5,z6,z7,z8,z9⟩:=cells10 hB;clear hk2 hA hB hA1 hB1 HB0 HB1 HB2 HB3 HG3 HK HM1 HM2;simp only[Act.put,List.setIfInBounds_toArray,List.set_cons_zero,List.set_cons_succ];obtain⟨A1,hA1⟩:∃A1,mstk l t n1=A1:=⟨_,rfl⟩;obtain⟨A2,hA2⟩:∃A2,mstk s (mkL n F) n=A2:=⟨_,rfl⟩;rw[hA1]at x0 x1 x2 x3 x4 x6 x7 x8 x9 HAL⊢;rw[hA2]at z0 z1 z2 z3 z4 z6 z7 z8 z9 HAL⊢;have HA1:=hid hA1;have HA2:=hid hA2;clear hA1 hA2;have q4:∀W:World,(Op.equalIn 9999 102 (.agg #[.int .i64 (sS A2 0),.int .i64 (sS A2 1),.int .i64 (sS A2 2),.int .i64 (sS A2 3)]) (.agg #[.int .i64 (sS A1 0),.int .i64 (sS A1 1),.int .i64 (sS A1 2),.int .i64 (sS A1 3)])).run Tryz.prog W=.ok (decide (sS A2 0=sS A1 0∧sS A2 1=sS A1 1∧sS A2 2=sS A1 2∧sS A2 3=sS A1 3)) W:=eq4_run 9997 102 Tryz.underlying102 _ _ _ _ _ _ _ _;have q5:∀W:World,(Op.equalIn 10000 105 (.agg #[.int .i64 (sT A2 0),.int .i64 (sT A2 1),.int .i64 (sT A2 2),.int .i64 (sT A2 3)]) (.agg #[.int .i64 (sT A1 0),.int .i64 (sT A1 1),.int .i64 (sT A1 2),.int .i64 (sT A1 3)])).run Tryz.prog W=.ok (decide (sT A2 0=sT A1 0∧sT A2 1=sT A1 1∧sT A2 2=sT A1 2∧sT A2 3=sT A1 3)) W:=eq4_run 9998 105 Tryz.underlying105 _ _ _ _ _ _ _ _;have noteq:(¬((sS A2 0=sS A1 0∧sS A2 1=sS A1 1∧sS A2 2=sS A1 2∧sS A2 3=sS A1 3)∧A2.length=A1.length∧(sT A2 0=sT A1 0∧sT A2 1=sT A1 1∧sT A2 2=sT A1 2∧sT A2 3=sT A1 3)))→A2≠A1:=fun h e=>h (by subst e;simp)
   by_cases c1:sS A2 0=sS A1 0∧sS A2 1=sS A1 1∧sS A2 2=sS A1 2∧sS A2 3=sS A1 3
   ·rw[decide_eq_true c1]at q4
    by_cases c2:A2.length=A1.length
    ·by_cases c3:sT A2 0=sT A1 0∧sT A2 1=sT A1 1∧sT A2 2=sT A1 2∧sT A2 3=sT A1 3
     ·rw[decide_eq_true c3]at q5
      have HE:Hid (A2=A1):=hid (sST_eq c2 (fun j hj=>by
       have:=HAL.out.2;rcases(by omega:j=0∨j=1∨j=2∨j=3)with rfl|rfl|rfl|rfl
       ·exact⟨c1.1,c3.1⟩
       ·exact⟨c1.2.1,c3.2.1⟩
       ·exact⟨c1.2.2.1,c3.2.2.1⟩
       ·exact⟨c1.2.2.2,c3.2.2.2⟩))
      have d2:((A2.length:Int)==(A1.length:Int))=true:=by simp[c2]
      obtain⟨m,hm⟩:∃m,A1.length=m:=⟨_,rfl⟩;rw[c2,hm]at z4 d2;rw[hm]at x4;clear c1 c2 c3 noteq hm;obtain⟨y0,y1,y2,y3,y4,y5,y6,y7,y8,y9⟩:=cells10 HB03.out
      go_wp2_with (refine wpList_storeRow _ rfl 107 (.tmp 4) _ rfl (b0+2) _ _ rfl rfl HB02.out Tryz.szGrid rfl (all10 rfl rfl rfl rfl rfl rfl rfl rfl rfl rfl) ?_;intro w5 hB5 hK5)
      (try simp only[Exit.inBlock,Exit.then])
      refine bodyPost_ret (res_cell2 rfl _ _ (b0+2) _ _ _ _ rfl hB5 Tryz.underlying107 rfl Tryz.szGrid) rfl ?_;exact⟨.inl ⟨by rw[HA1.out,HA2.out];exact HE.out,rfl⟩,Kp.trans HK2.out hK5 (fun i hi e=>by have:=HBB.out;omega)⟩
     ·rw[decide_eq_false c3]at q5
      have HE:Hid (A2≠A1):=hid (noteq (fun h=>c3 h.2.2));have d2:((A2.length:Int)==(A1.length:Int))=true:=by simp[c2]
      obtain⟨m,hm⟩:∃m,A1.length=m:=⟨_,rfl⟩;rw[c2,hm]at z4 d2;rw[hm]at x4;clear c1 c2 c3 noteq hm
      go_wp2_with (refine wpList_storeRow _ rfl 107 (.tmp 4) _ rfl (b0+2) _ _ rfl rfl HB02.out Tryz.szGrid rfl (all10 rfl rfl rfl rfl rfl rfl rfl rfl rfl rfl) ?_;intro w5 hB5 hK5)
      (try simp only[Exit.inBlock,Exit.then])
      refine bodyPost_ret (res_cell2 rfl _ _ (b0+2) _ _ _ _ rfl hB5 Tryz.underlying107 rfl Tryz.szGrid) rfl ?_;exact⟨.inr ⟨by rw[HA1.out,HA2.out];exact HE.out,rfl⟩,Kp.trans HK2.out hK5 (fun i hi e=>by have:=HBB.out;omega)⟩
    ·have HE:Hid (A2≠A1):=hid (noteq (fun h=>c2 h.2.1))
     have d2:((A2.length:Int)==(A1.length:Int))=false:=by simp;omega
     clear c1 noteq
     go_wp2_with (refine wpList_storeRow _ rfl 107 (.tmp 4) _ rfl (b0+2) _ _ rfl rfl HB02.out Tryz.szGrid rfl (all10 rfl rfl rfl rfl rfl rfl rfl rfl rfl rfl) ?_;intro w5 hB5 hK5)
     (try simp only[Exit.inBlock,Exit.then])
     refine bodyPost_ret (res_cell2 rfl _ _ (b0+2) _ _ _ _ rfl hB5 Tryz.underlying107 rfl Tryz.szGrid) rfl ?_;exact⟨.inr ⟨by rw[HA1.out,HA2.out];exact HE.out,rfl⟩,Kp.trans HK2.out hK5 (fun i hi e=>by have:=HBB.out;omega)⟩
   ·rw[decide_eq_false c1]at q4
    have HE:Hid (A2≠A1):=hid (noteq (fun h=>c1 h.1));clear c1 noteq
    go_wp2_with (refine wpList_storeRow _ rfl 107 (.tmp 4) _ rfl (b0+2) _ _ rfl rfl HB02.out Tryz.szGrid rfl (all10 rfl rfl rfl rfl rfl rfl rfl rfl rfl rfl) ?_;intro w5 hB5 hK5)
    (try simp only[Exit.inBlock,Exit.then])
    refine bodyPost_ret (res_cell2 rfl _ _ (b0+2) _ _ _ _ rfl hB5 Tryz.underlying107 rfl Tryz.szGrid) rfl ?_;exact⟨.inr ⟨by rw[HA1.out,HA2.out];exact HE.out,rfl⟩,Kp.trans HK2.out hK5 (fun i hi e=>by have:=HBB.out;omega)⟩
  |succ k=>
   have y1:=sh_cell HB1.out k (by omega);have y5:=(gr_rest HB0.out).2;have b1:=vol_drop_bd s HSH.out.2.1 HSH.out.1 (k+1) (by have:=HN.out;omega);have b2:=vol_drop_bd s HSH.out.2.1 HSH.out.1 k (by have:=HN.out;omega);have HV:Hid (vol (s.drop k)=vol (s.drop (k+1))*nth s k):=hid (by rw[vol_drop s k (by have:=HN.out;omega),Int.mul_comm]);rw[HV.out]at b2;have ev:IntKind.i64.wrap (vol (s.drop (k+1))*nth s k)=vol (s.drop (k+1))*nth s k:=by simp[IntKind.wrap,IntKind.signed,IntKind.bits];omega
   have k1:(k:Int)<4:=by omega
   have ek:(((k+1:Nat):Int)-1)=(k:Int):=by omega
   rw[ek];clear ek;have HNK:=hid (fun W=>HNT.out (vol (s.drop (k+1))) W (by omega) (by omega));have hob:=HOB.out (vol (s.drop (k+1)));have hff:=HFF.out k;generalize vol (s.drop (k+1))=nx at*;have es:f+ro nx-f=ro nx:=by omega
   have es2:IntKind.i64.wrap (ro nx)=ro nx:=by simp[IntKind.wrap,IntKind.signed,IntKind.bits];have:=HL4.out;omega
   have HP:Hid (∀W,W.heap[b0+1+1+1]? =some (grG (nth s) (fromF F n (k+1)) f n)→Calls Tryz.prog 90 #[.pointer (some ⟨b0+1+1+1,0,none⟩),.int .i64 (k:Int),.int .i64 (nth s k),.int .i64 (ro nx)] W fun e w'=>∃v,e=.returned v∧(Kp (fun x=>x=b0+1+1+1) W w'∧w'.heap[b0+1+1+1]? =some (grG (nth s) (fromF F n k) f n))):=hid (fun W hW=>(xput_calls (b0+1+1+1) k (nth s k) (ro nx) (nth s) (fromF F n (k+1)) f n W (by omega) hW).mono (fun e w' ⟨h1,h2,h3⟩=>⟨_,h1,h2,by rw[upd_same,←hff,fromF_step F n k (by omega)]at h3;exact h3⟩));generalize hsz:nth s k=sz at*;have HSZ:=hid hsz;clear hff hob hsz;go_wp2
   obtain⟨x0,x1,x2,x3,x4,x5,x6,x7,x8,x9⟩:=cells10 HB0.out
   go_region_law ((first
    |(refine step_call2 (by rfl) 95 (.tmp 27) (.tmp 28) _ (by rfl) _ Tryz.func95 (by kernel_rfl) (by kernel_rfl) _ _ (by rfl) (by rfl) (HNK.out _) ?_;intro v7 w7 hR7;obtain⟨rfl,hk7⟩:=hR7;have y17:=hk7.cell y1;have y57:=hk7.cell y5)
    |(refine step_call4 (by rfl) 90 (.tmp 6) (.tmp 22) (.tmp 26) (.tmp 32) _ (by rfl) _ Tryz.func90 (by kernel_rfl) (by kernel_rfl) _ _ _ _ (by rfl) (by rfl) (by rfl) (by rfl) (HP.out _ (hk7.heap HB3.out)) ?_;intro v8 w8 hR8;obtain⟨hk8,hb8⟩:=hR8)))
   all_goals
    have HB08:=hid (hk8.heap (hk7.heap HB0.out) (by omega));have HB18:=hid (hk8.heap (hk7.heap HB1.out) (by omega));have HB28:=hid (hk8.heap (hk7.heap HB2.out) (by omega));have HB38:=hid hb8;have HK8:Hid (Kp0 w w8):=hid (Kp.trans (Kp0.trans HK.out.drew hk7) hk8 (fun i hi e=>by have:=HBB.out;omega));have y18:=sh_cell HB18.out k (by omega);rw[HSZ.out]at y18;clear hk8 hk7 hb8 y17 y57 x0 x1 x2 x3 x4 x5 x6 x7 x8 x9 y1 y5;go_wp2
    go_roundw
    case rel=>exact⟨k,by omega,by go_num,by rw[HV.out],HK8,HB08,HB18,HB28,HB38⟩
    case measure=>simp[intOf]
theorem evenT_length(s at':List Int):(evenT s at').length=s.length:=by simp[evenT,mkL_length]
theorem evenT_nth(s at':List Int)(k:Nat)(hk:k<s.length):nth (evenT s at') k=if 1<nth s k then nth at' (vol (s.drop (k+1))).toNat -nth at' 0 else 0:=by
 unfold evenT;rw[mkL_nth,if_pos hk]
theorem even_iff(s at':List Int)(hs:okShape s)(hl:(at'.length:Int)=vol s):evenB s at'=true↔∀r,r<at'.length→nth at' r=nth at' 0+dotTo (idx s r) (evenT s at') s.length:=by
 unfold evenB;rw[decide_eq_true_eq];have hlen:=gc_length s (evenT s at') (nth at' 0) hs.2.1 s.length (Nat.le_refl _);rw[List.take_length]at hlen;have key:∀r,r<at'.length→nth (gc s (evenT s at') (nth at' 0) s.length) r=nth at' 0+dotTo (idx s r) (evenT s at') s.length:=fun r hr=>by
  have hi:=idx_in s r hs.2.1;have h1:=(nth_gc s (evenT s at') (idx s r) (nth at' 0) hs.2.1 s.length (Nat.le_refl _) (fun j hj=>hi.2 j hj)).2.2;have h2:=rank_idx s r hs.2.1 (by omega) (by omega);rw[rank_in hi]at h2;rw[h2]at h1;simpa using h1
 constructor
 ·intro e r hr
  rw[←key r hr,e]
 ·intro h
  exact ext_nth (by omega) (fun r hr=>by rw[key r (by omega),h r (by omega)])
theorem tailFrom_same(l:List Int)(k:Nat)(h:nth l k=0):tailFrom l (k+1)=tailFrom l k:=by
 unfold tailFrom;refine List.map_congr_left (fun j _=>?_);by_cases h1:k+1≤j
 ·rw[if_pos h1,if_pos (by omega)]
 ·rw[if_neg h1]
  by_cases h2:k≤j
  ·rw[if_pos h2,show j=k by omega,h]
  ·rw[if_neg h2]
theorem mul_ten{a b:Int}(h1:0≤a)(h2:a≤60)(h3: -10000≤b)(h4:b≤10000): -600000≤a*b∧a*b≤600000:=by
 have h5:a*b≤a*10000:=Int.mul_le_mul_of_nonneg_left h4 h1;have h6:a*(-10000)≤a*b:=Int.mul_le_mul_of_nonneg_left h3 h1;omega
theorem dot_bd{i t:List Int}(n:Nat)(h:∀j,j<n→(0≤nth i j∧nth i j≤60)∧(-10000≤nth t j∧nth t j≤10000)): -(600000*n:Int)≤dotTo i t n∧dotTo i t n≤600000*n:=by
 induction n with
 |zero=>simp[dotTo]
 |succ n ih=>
  have:=ih (fun j hj=>h j (by omega));have h1:=h n (by omega);have:=mul_ten h1.1.1 h1.1.2 h1.2.1 h1.2.2;rw[dotTo];omega
theorem even_any(a:Option Addr)(g ga oa c ca n N:Nat)(s at':List Int)(w:World)(hn:s.length=n)(hs:okShape s)(hN:at'.length=N)(hl:(N:Int)=vol s)(hin:∀j,j<N→0≤nth at' j∧nth at' j≤10000)(h1:0<n→∃o,a=some ⟨g,o,none⟩∧∀j,j<n→w.cell? ⟨g,o+j,none⟩=some (.int .i64 (nth s j)))(h2:∀j,j<N→w.cell? ⟨ga,oa+j,none⟩=some (.int .i64 (nth at' j))):Calls Tryz.prog 144 #[.slice a n c,.slice (some ⟨ga,oa,none⟩) N ca] w fun e w'=>e=.returned (.bool (evenB s at'))∧Kp0 w w':=by
 have hn4:n≤4:=by have:=hs.1;omega
 have hN1:1≤N:=by
  have:=vol_bd s hs.2.1 hs.1 s.length (Nat.le_refl _);rw[List.take_length]at this;omega
 have hN2:N≤3600:=by have:=hs.2.2;omega
 obtain⟨st,hst⟩:∃st,evenT s at'=st:=⟨_,rfl⟩;have HSL:Hid (st.length=n):=hid (by rw[←hst,evenT_length,hn]);have HSN:Hid (∀k,k<n→nth st k=if 1<nth s k then nth at' (vol (s.drop (k+1))).toNat -nth at' 0 else 0):=hid (fun k hk=>by rw[←hst];exact evenT_nth s at' k (by omega));have HEV:Hid (evenB s at'=true↔∀r,r<N→nth at' r=nth at' 0+dotTo (idx s r) st n):=hid (by
  have:=even_iff s at' hs (by rw[hN];exact hl);rw[hst,hn,hN]at this;exact this)
 have HU:Hid (∀k,k<n→1<nth s k→vol (s.drop (k+1))<(N:Int)):=hid (fun k hk h=>by
  rw[hl];exact drop_lt hs.2.1 k (by omega) (by omega))
 have HUB:Hid (∀k,k≤n→1≤vol (s.drop k)∧vol (s.drop k)≤12960000):=hid (fun k hk=>vol_drop_bd s hs.2.1 hs.1 k (by omega));have HUD:Hid (∀k,k<n→vol (s.drop k)=nth s k*vol (s.drop (k+1))):=hid (fun k hk=>vol_drop s k (by omega));have HU0:Hid (vol (s.drop n)=1):=hid (by rw[←hn,List.drop_length];rfl);have HIN:=hid hin;have HSB:Hid (∀k,k<n→ -10000≤nth st k∧nth st k≤10000):=hid (fun k hk=>by
  rw[HSN.out k hk];have h0:=HIN.out 0 (by omega);split
  ·rename_i h
   have hu:=HU.out k hk h;have hb:=HUB.out (k+1) (by omega);have:=HIN.out (vol (s.drop (k+1))).toNat (by omega);omega
  ·omega)
 have R1:RdI w (.slice a n c) s:=⟨a,c,by rw[hn],fun hne=>by
  obtain⟨o,e,hc⟩:=h1 (Nat.pos_of_ne_zero (fun e=>hne (List.length_eq_zero_iff.1 (hn.trans e))));exact⟨g,o,e,fun j hj=>hc j (by omega)⟩⟩
 have HR1:=hid R1;have HC:=hid h1;have HC2:=hid h2;have HS:=hid hs;have HN:=hid hn;have c0:=h2 0 (by omega);rw[Nat.add_zero]at c0;have hga:ga<w.heap.size:=block_lt_of_cell c0;have hmk:=fun W=>run_mk (P:=Tryz.prog) 26 3 (.int .i64 0) 8 Tryz.underlying26 Tryz.infoInt rfl (by omega) n (by omega) W
 obtain⟨b0,b1⟩:=hin 0 (by omega);clear hst h1 h2 hs hn hN hl hin R1;generalize hx0:nth at' 0=x0 at*;have HX0:=hid hx0;clear hx0;go_enter Tryz.func144,Tryz.ntmps144
 go_wp2
 clear hmk
 go_loopw [6,7] (fun u i w'=>∃k:Nat,k≤n∧i=.int .i64 ((k:Int)-1)∧u=.int .i64 (vol (s.drop k))∧Kp0 w w'∧w'.heap[w.heap.size]? =some (.cells (ints (tailFrom st k)).toArray 3 (0,0))) (fun _ i _=>(intOf i+1).toNat)
 case atStart=>exact⟨n,Nat.le_refl _,by go_num,by rw[HU0.out],(Kp.refl _ _).alloc _,by rw[heap_alloc_new,tailFrom_all _ n HSL.out]⟩
 case round=>
  obtain⟨k,hk,rfl,rfl,hK,hG⟩:=hrel;have HK:=hid hK;have HG:=hid hG;cases k with
  |zero=>
   have hG0:wr.heap[w.heap.size]? =some (.cells (ints st).toArray 3 (0,0)):=by rw[hG,tailFrom_zero]
   have HG0:=hid hG0;clear hK hG hG0 HG;go_wp2
   go_loopw [8] (fun t w'=>∃r:Nat,r≤N∧t=.int .i64 r∧Kp0 w w'∧w'.heap[w.heap.size]? =some (.cells (ints st).toArray 3 (0,0))∧∀j,j<r→nth at' j=x0+dotTo (idx s j) st n) (fun t _=>N-(intOf t).toNat)
   case atStart=>exact⟨0,Nat.zero_le _,rfl,HK.out,HG0.out,fun j hj=>by omega⟩
   case round=>
    clear HK HG0;obtain⟨r,hr,rfl,hK,hG,hall⟩:=hrel;have HK:=hid hK;have HG:=hid hG;have HALL:=hid hall;clear hK hG hall;by_cases hrN:r<N
    ·go_wp2_with fail
     refine(index_calls _ _ _ _ (HR1.out.kp0 HK.out) HS.out.2.1 HS.out.1 (by omega) (by omega)).mono ?_;rintro e w1 ⟨rfl,hk1,hg1⟩;rw[HN.out];have HK1:=hid (HK.out.trans hk1);have HG1:=hid hg1;have HGS:=hid (hk1.heap HG.out);have d0:=HK1.out.cell c0;obtain⟨ix',hix⟩:∃ix',idx s r=ix':=⟨_,rfl⟩;have HIL:Hid (ix'.length=n):=hid (by rw[←hix,idx_length];exact HN.out);have HIB:Hid (∀j,j<n→0≤nth ix' j∧nth ix' j≤60):=hid (fun j hj=>by
      have hi:=(idx_in s r HS.out.2.1).2 j (by rw[HN.out];exact hj);have h6:=HS.out.2.1 j (by rw[HN.out];exact hj);rw[hix]at hi;omega)
     rw[hix]at HG1;have HIX:=hid hix;have HDB:Hid (∀j,j≤n→ -2400000≤dotTo ix' st j∧dotTo ix' st j≤2400000):=hid (fun j hj=>by
      have:=dot_bd (i:=ix') (t:=st) j (fun q hq=>⟨HIB.out q (by omega),HSB.out q (by omega)⟩);omega)
     have hws:wr.heap.size<w1.heap.size:=lt_of_heap HG1.out;generalize wr.heap.size=ib at*;clear hk1 hg1 hix HG HK;go_wp2
     go_loopw [10,11] (fun q t w'=>∃j:Nat,j≤n∧t=.int .i64 j∧q=.int .i64 (x0+dotTo ix' st j)∧∃d,w'=w1.drewN d) (fun _ t _=>n-(intOf t).toNat)
     case atStart=>exact⟨0,Nat.zero_le _,rfl,by simp[dotTo],0,rfl⟩
     case round=>
      obtain⟨j,hj,rfl,rfl,d,rfl⟩:=hrel;obtain⟨p1,p2⟩:=HDB.out j hj;by_cases hjn:j<n
      ·obtain⟨p3,p4⟩:=HDB.out (j+1) (by omega)
       obtain⟨z1,z2⟩:=HIB.out j hjn;obtain⟨z3,z4⟩:=HSB.out j hjn;have z5:=mul_ten z1 z2 z3 z4;have x1:w1.cell? ⟨ib,j,none⟩=some (.int .i64 (nth ix' j)):=by
        rw[cell_of_row _ _ _ _ _ _ HG1.out];simpa using ints_get (xs:=ix') (j:=j) (by rw[HIL.out];exact hjn)
       have x2:w1.cell? ⟨w.heap.size,j,none⟩=some (.int .i64 (nth st j)):=by
        rw[cell_of_row _ _ _ _ _ _ HGS.out];simpa using ints_get (xs:=st) (j:=j) (by rw[HSL.out];exact hjn)
       have HDS:Hid (dotTo ix' st (j+1)=dotTo ix' st j+nth ix' j*nth st j):=hid rfl;have i0:(0:Int)≤(j:Int):=by omega
       have i1:(j:Int)<(n:Int):=by omega
       generalize nth ix' j=xi at*;generalize nth st j=yi at*;generalize dotTo ix' st j=dj at*;have e1:IntKind.i64.wrap (xi*yi)=xi*yi:=by simp[IntKind.wrap,IntKind.signed,IntKind.bits];omega
       have e2:IntKind.i64.wrap (x0+dj+xi*yi)=x0+dj+xi*yi:=by simp[IntKind.wrap,IntKind.signed,IntKind.bits];omega
       go_wp2
       go_quiet (fail)
       go_wp2
       go_roundw
       case rel=>exact⟨j+1,by omega,by go_num,by rw[HDS.out,Int.add_assoc],_,rfl⟩
       case measure=>simp[intOf];omega
      ·have hjn':j=n:=by omega
       have i2:¬(j:Int)<(n:Int):=by omega
       have HJN:=hid hjn';have y1:=HK1.out.cell (HC2.out r hrN);have i3:(0:Int)≤(r:Int):=by omega
       have HK2:Hid (Kp0 w (w1.drewN d)):=hid (HK1.out.drewN d);have HGD:Hid ((w1.drewN d).heap[w.heap.size]? =some (.cells (ints st).toArray 3 (0,0))):=hid (((Kp.refl (fun _=>False) w1).drewN d).heap HGS.out (fun e=>e));clear hjn';by_cases he:nth at' r=x0+dotTo ix' st j
       ·have db:(nth at' r !=x0+dotTo ix' st j)=false:=by simp[he]
        have HER:Hid (∀i,i<r+1→nth at' i=x0+dotTo (idx s i) st n):=hid (fun i hi=>by
         rcases Nat.lt_or_ge i r with h|h
         ·exact HALL.out i h
         ·rw[show i=r by omega,HIX.out,←HJN.out]
          exact he)
        clear he;generalize dotTo ix' st j=dj at*;generalize nth at' r=ar at*;go_wp2
        go_roundw
        case rel=>exact⟨r+1,by omega,by go_num,HK2.out,HGD.out,HER.out⟩
        case measure=>simp[intOf];omega
       ·have db:(nth at' r !=x0+dotTo ix' st j)=true:=by simp[he]
        have HF:Hid (evenB s at'=false):=hid (by
         rw[←Bool.not_eq_true];intro h;have:=(HEV.out.1 h) r hrN;rw[HIX.out,←HJN.out]at this;exact he this)
        clear he;generalize dotTo ix' st j=dj at*;generalize nth at' r=ar at*;go_wp2
        go_ret;rw[HF.out];exact⟨rfl,HK2.out⟩
    ·have i2:¬(r:Int)<(N:Int):=by omega
     have HT:Hid (evenB s at'=true):=hid (HEV.out.2 (fun j hj=>HALL.out j (by omega)));go_wp2
     go_ret;rw[HT.out];exact⟨rfl,HK.out⟩
  |succ k=>
   have hkn:k<n:=by omega
   obtain⟨o,rfl,hc⟩:=HC.out (by omega);have q:=hK.cell (hc k hkn);obtain⟨s1,s2⟩:=HS.out.2.1 k (by have:=HN.out;omega);obtain⟨u1,u2⟩:=HUB.out (k+1) (by omega);obtain⟨v1,v2⟩:=HUB.out k (by omega);have HD:=hid (HUD.out k hkn);have e1:((k+1:Nat):Int)-1=(k:Int):=by omega
   rw[e1];have hgs:g<w.heap.size:=block_lt_of_cell (hc k hkn);have hfz:wr.frozen? ⟨w.heap.size,k,none⟩=false:=frozen_blk hG;have hcell:wr.cell? ⟨w.heap.size,k,none⟩=some (.int .i64 0):=by
    rw[cell_of_row wr _ _ _ _ _ hG];simp[ints,tailFrom,HSL.out,hkn];intro h;omega
   have d0:=hK.cell c0;have HSK:=hid (HSN.out k hkn);have hws:w.heap.size<wr.heap.size:=lt_of_heap hG;by_cases hb:1<nth s k
   ·have hU:=HU.out k hkn hb
    have hSB:=HSB.out k hkn;rw[HSK.out,if_pos hb]at hSB;have d1:=hK.cell (HC2.out (vol (s.drop (k+1))).toNat (by omega));have HV:Hid (nth st k=nth at' (vol (s.drop (k+1))).toNat -x0):=hid (by rw[HSK.out,if_pos hb]);have db:decide (1<nth s k)=true:=by simp[hb]
    have i0:(0:Int)≤(k:Int):=by omega
    have i1:(k:Int)<(n:Int):=by omega
    have hmul:nth s k*vol (s.drop (k+1))≤12960000∧1≤nth s k*vol (s.drop (k+1)):=by rw[←HD.out];omega
    rw[Int.mul_comm]at hmul;generalize nth at' (vol (s.drop (k+1))).toNat=y at*;generalize vol (s.drop (k+1))=u at*;clear hK hG hc HSK e1;go_wp2
    first
     |go_region_law (fail)
     |go_region
    all_goals (
     go_wp2
     go_roundw
     case rel=>
      refine⟨k,by omega,by go_num,by rw[HD.out,Int.mul_comm],?_,?_⟩
      ·repeat' (first|exact HK.out|refine Kp.drewN ?_ _|refine Kp.drew ?_|refine Kp.setCell ?_ _ _ (fun h=>absurd h (Nat.lt_irrefl _)))
      ·refine(heap_setCell_same _ _ _ _ _ _ HG.out).trans ?_
       have:=tailFrom_set st k (by rw[HSL.out];exact hkn);rw[HV.out]at this;rw[this]
     case measure=>simp[intOf])
   ·have db:decide (1<nth s k)=false:=by simp[hb]
    have i0:(0:Int)≤(k:Int):=by omega
    have i1:(k:Int)<(n:Int):=by omega
    have HV:Hid (nth st k=0):=hid (by rw[HSK.out,if_neg hb]);have hmul:nth s k*vol (s.drop (k+1))≤12960000∧1≤nth s k*vol (s.drop (k+1)):=by rw[←HD.out];omega
    rw[Int.mul_comm]at hmul;generalize vol (s.drop (k+1))=u at*;clear hK hG hc HSK e1;go_wp2
    go_roundw
    case rel=>
     refine⟨k,by omega,by go_num,by rw[HD.out,Int.mul_comm],HK.out,?_⟩;rw[HG.out,tailFrom_same st k HV.out]
    case measure=>simp[intOf]
theorem even_calls(vs va:Value)(s at':List Int)(w:World)(hs:okShape s)(hl:(at'.length:Int)=vol s)(hin:∀j,j<at'.length→0≤nth at' j∧nth at' j≤10000)(h1:RdI w vs s)(h2:RdI w va at'):Calls Tryz.prog 144 #[vs,va] w fun e w'=>e=.returned (.bool (evenB s at'))∧Kp0 w w':=by
 obtain⟨a,c,rfl,g1⟩:=rd_parts h1;obtain⟨b,d,rfl,g2⟩:=rd_parts h2;have hN1:=vol_bd s hs.2.1 hs.1 s.length (Nat.le_refl _);rw[List.take_length]at hN1;obtain⟨ga,oa,rfl,hc⟩:=g2 (by omega);by_cases hx:0<s.length
 ·obtain⟨g,o,rfl,hcs⟩:=g1 hx
  exact even_any _ g ga oa c d s.length at'.length s at' w rfl hs rfl hl hin (fun _=>⟨o,rfl,hcs⟩) hc
 ·exact even_any a 0 ga oa c d s.length at'.length s at' w rfl hs rfl hl hin (fun h=>absurd h hx) hc
theorem stk_pos{l t:List Int}(hs:sized l):∀k,k≤l.length→∀x∈stk l t k,1≤x.1
 |0,_,x,hx=>by simp[stk]at hx
 |k+1,hk,x,hx=>by
  simp only[stk,List.mem_cons]at hx;rcases hx with rfl|hx
  ·exact(hs k (by omega)).1
  ·exact stk_pos hs k (by omega) x hx
theorem gc_head{l t:List Int}{f:Int}(hs:sized l):nth (gc l t f l.length) 0=f:=by
 have h:=gc_roff l t f hs l.length (Nat.le_refl _) 0 (by rw[List.take_length];have:=vol_pos_of hs;omega);rw[h,show((0:Nat):Int)=0 from rfl,roff_zero _ (stk_pos hs l.length (Nat.le_refl _)),Int.add_zero]
theorem rshT_even{l t s:List Int}{f M:Int}(hg:GOk l t f M)(hs:okShape s)(hv:vol s=vol l):rshT l t s=evenT s (gc l t f l.length):=by
 refine ext_nth (by simp[rshT,evenT,mkL_length]) (fun k hk=>?_);have hk2:k<s.length:=by simpa[rshT,mkL_length]using hk
 unfold rshT evenT;rw[mkL_nth,mkL_nth,if_pos hk2,if_pos hk2,gc_head hg.shape.2.1];have h1:=hs.2.1 k hk2;unfold rshF stepOf;by_cases h:nth s k=1
 ·rw[if_pos h,if_neg (by omega)]
 ·have hd:=drop_lt hs.2.1 k hk2 h
  have h0:=(vol_drop_bd s hs.2.1 hs.1 (k+1) (by omega)).1;have hr:=gc_roff l t f hg.shape.2.1 l.length (Nat.le_refl _) (vol (s.drop (k+1))).toNat (by rw[List.take_length];omega);rw[show(((vol (s.drop (k+1))).toNat:Nat):Int)=vol (s.drop (k+1)) by omega]at hr;rw[if_neg h,if_pos (by omega),hr];omega
theorem rsh_even{l t s:List Int}{f M:Int}(hg:GOk l t f M)(hs:okShape s)(hv:vol s=vol l):evenB s (gc l t f l.length)=true↔mstk s (rshT l t s) s.length=mstk l t l.length:=by
 rw[rshT_even hg hs hv];unfold evenB;rw[decide_eq_true_iff,gc_head hg.shape.2.1];refine same_cells hg.shape.2.1 hs.2.1 hg.unit (fun k hk h=>?_) hv;unfold evenT;rw[mkL_nth,if_pos hk,if_neg (by omega)]
theorem xgresh_calls(l t s:List Int)(f M:Int)(w:World)(hg:GOk l t f M)(hs:okShape s)(hv:vol s=vol l):Calls Tryz.prog 58 #[.agg (grC l t f).toArray,.agg (shC s).toArray] w fun e w'=>((evenB s (gc l t f l.length)=true∧e=.returned (.tuple #[.agg (grC s (evenT s (gc l t f l.length)) f).toArray,.bool true]))∨(evenB s (gc l t f l.length)=false∧e=.returned (.tuple #[.agg zG,.bool false])))∧Kp0 w w':=by
 refine(xgresh_any l t s f M w hg hs hv).mono ?_;rintro e w' ⟨h,k⟩;refine⟨?_,k⟩;rcases h with⟨h1,rfl⟩|⟨h1,rfl⟩
 ·exact .inl ⟨(rsh_even hg hs hv).2 h1,by rw[rshT_even hg hs hv]⟩
 ·refine .inr ⟨?_,rfl⟩
  cases hb:evenB s (gc l t f l.length)
  ·rfl
  ·exact absurd ((rsh_even hg hs hv).1 hb) h1
theorem even_ok{l t s:List Int}{f M:Int}(hg:GOk l t f M)(hs:okShape s)(h:evenB s (gc l t f l.length)=true):GOk s (evenT s (gc l t f l.length)) f M∧gc s (evenT s (gc l t f l.length)) f s.length=gc l t f l.length:=by
 have e:gc s (evenT s (gc l t f l.length)) f s.length=gc l t f l.length:=by
  unfold evenB at h;rw[decide_eq_true_iff,gc_head hg.shape.2.1]at h;exact h
 refine⟨⟨hs,by simp[evenT,mkL_length],fun k hk h1=>?_,by rw[e];exact hg.inside,hg.small⟩,e⟩;unfold evenT;rw[mkL_nth,if_pos hk,if_neg (by omega)]
theorem foldL_length{i:List Int}{k:Nat}(h:k≤i.length)(x:Int):(foldL i k x).length=i.length+1:=by simp[foldL];omega
theorem foldL_nth{i:List Int}{k:Nat}(h:k≤i.length)(x:Int)(j:Nat):nth (foldL i k x) j=if j<k then nth i j else if j=k then x else nth i (j-1):=by
 unfold foldL nth List.getD;have h1:(i.take k).length=k:=by simp;omega
 by_cases hj:j<k
 ·rw[if_pos hj,List.append_assoc,List.getElem?_append_left (by omega),List.getElem?_take_of_lt hj]
 ·rw[if_neg hj,List.append_assoc,List.getElem?_append_right (by omega),h1]
  by_cases e:j=k
  ·rw[if_pos e,show j-k=0 by omega]
   rfl
  ·rw[if_neg e,List.getElem?_append_right (by simp;omega)]
   simp only[List.length_singleton];rw[List.getElem?_drop,show k+(j-k-1)=j-1 by omega]
theorem vol_append(a b:List Int):vol (a++b)=vol a*vol b:=by
 induction a with
 |nil=>simp[vol]
 |cons x a ih=>rw[List.cons_append,vol_cons,vol_cons,ih,Int.mul_assoc]
theorem foldS_vol(l:List Int)(k:Nat)(hk:k<l.length):vol l=vol (foldS l k)*nth l k:=by
 conv=>lhs;rw[←List.take_append_drop k l]
 rw[vol_append,vol_drop l k hk];unfold foldS;rw[vol_append,Int.mul_assoc,Int.mul_comm (nth l k)]
theorem foldS_sized{l:List Int}(hs:sized l){k:Nat}(hk:k<l.length):sized (foldS l k):=fun j hj=>by
 rw[foldS_length l k hk]at hj;rw[foldS_nth];unfold skT;split
 ·exact hs j (by omega)
 ·exact hs (j+1) (by omega)
theorem foldS_ok{l:List Int}(hs:okShape l){k:Nat}(hk:k<l.length):okShape (foldS l k):=by
 have h1:=foldS_sized hs.2.1 hk;have h2:=foldS_vol l k hk;have h3:=hs.2.1 k hk;have hl:=foldS_length l k hk;have h4:=vol_bd (foldS l k) h1 (by rw[hl];have:=hs.1;omega) (foldS l k).length (Nat.le_refl _);rw[List.take_length]at h4;refine⟨by rw[hl];have:=hs.1;omega,h1,?_⟩;have h5:=hs.2.2;have:vol (foldS l k)*1≤vol (foldS l k)*nth l k:=Int.mul_le_mul_of_nonneg_left h3.1 (by omega);omega
theorem foldL_in{l i:List Int}{k:Nat}(hk:k<l.length){x:Int}(hx:0≤x∧x<nth l k)(hi:inB (foldS l k) i):inB l (foldL i k x):=by
 have hl:=foldS_length l k hk;have hil:i.length=l.length-1:=by rw[←hl];exact hi.1.symm
 refine⟨by rw[foldL_length (by omega)];omega,fun j hj=>?_⟩;rw[foldL_nth (by omega)];by_cases h1:j<k
 ·have:=hi.2 j (by rw[hl];omega)
  rw[foldS_nth,skT,if_pos h1]at this;rw[if_pos h1];exact this
 ·rw[if_neg h1]
  by_cases h2:j=k
  ·rw[if_pos h2,h2]
   exact hx
  ·have:=hi.2 (j-1) (by rw[hl];omega)
   rw[foldS_nth,skT,if_neg (by omega),show j-1+1=j by omega]at this;rw[if_neg h2];exact this
theorem fold_dot{i:List Int}{k:Nat}(h:k≤i.length)(x:Int)(t:List Int)(m:Nat):dotTo (foldL i k x) t m=if m≤k then dotTo i (foldS t k) m else dotTo i (foldS t k) (m-1)+x*nth t k:=by
 induction m with
 |zero=>simp[dotTo]
 |succ m ih=>
  rw[dotTo,ih,foldL_nth h];by_cases h1:m<k
  ·rw[if_pos (by omega),if_pos h1,if_pos (by omega),dotTo,foldS_nth,skT,if_pos h1]
  ·by_cases h2:m=k
   ·subst h2
    rw[if_pos (Nat.le_refl _),if_neg (by omega),if_pos rfl,if_neg (by omega),show m+1-1=m by omega]
   ·rw[if_neg (by omega),if_neg h1,if_neg h2,if_neg (by omega)]
    obtain⟨q,rfl⟩:∃q,m=q+1:=⟨m-1,by omega⟩;rw[show q+1+1-1=q+1 by omega,show q+1-1=q by omega,dotTo,foldS_nth,skT,if_neg (by omega)];omega
def lyRk(l:List Int)(k:Nat)(x:Int):List Int:=(List.range (vol (foldS l k)).toNat).map fun r:Nat=>rank l (foldL (idx (foldS l k) r) k x)
theorem lyRk_length(l:List Int)(k:Nat)(x:Int):(lyRk l k x).length=(vol (foldS l k)).toNat:=by simp[lyRk]
theorem lyRk_nth(l:List Int)(k:Nat)(x:Int)(r:Nat)(h:r<(vol (foldS l k)).toNat):nth (lyRk l k x) r=rank l (foldL (idx (foldS l k) r) k x):=by
 rw[nth_lt (by rw[lyRk_length];exact h)];simp[lyRk]
theorem layer_dot{l t i:List Int}{k:Nat}{f x:Int}(hk:k<l.length)(hi:inB (foldS l k) i):(f+x*nth t k)+dotTo i (foldS t k) (foldS l k).length=f+dotTo (foldL i k x) t l.length:=by
 have hl:=foldS_length l k hk;have hil:i.length=l.length-1:=by rw[←hl];exact hi.1.symm
 rw[fold_dot (by omega),if_neg (by omega),hl];omega
theorem layer_cells{l t:List Int}{f M:Int}(hg:GOk l t f M){k:Nat}(hk:k<l.length){x:Int}(hx:0≤x∧x<nth l k):gc (foldS l k) (foldS t k) (f+x*nth t k) (foldS l k).length=picked (gc l t f l.length) (lyRk l k x):=
 gc_view hg.shape.2.1 (foldS_sized hg.shape.2.1 hk) (fun i=>foldL i k x) (fun _ hi=>foldL_in hk hx hi) (fun _ hi=>layer_dot hk hi)
theorem layer_ok{l t:List Int}{f M:Int}(hg:GOk l t f M){k:Nat}(hk:k<l.length){x:Int}(hx:0≤x∧x<nth l k):GOk (foldS l k) (foldS t k) (f+x*nth t k) M:=by
 have hl:=foldS_length l k hk;refine hg.view (foldS_ok hg.shape hk) ?_ (fun j hj he=>?_) (fun i=>foldL i k x) (fun _ hi=>foldL_in hk hx hi) (fun _ hi=>layer_dot hk hi)
 ·have:=hg.steps
  rw[hl];simp[foldS];omega
 ·rw[hl]at hj
  rw[foldS_nth]at he⊢;unfold skT at he⊢;split at he
  ·rename_i h
   rw[if_pos h];exact hg.unit j (by omega) he
  ·rename_i h
   rw[if_neg h];exact hg.unit (j+1) (by omega) he
end Go.Proofs.YticbbncdcannlaaGreat
