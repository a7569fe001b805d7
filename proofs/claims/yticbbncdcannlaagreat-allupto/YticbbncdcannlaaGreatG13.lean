import Derived.Test.YticbbncdcannlaaGreatG12
import Derived.Test.YticbbncdcannlaaGreatG04
set_option maxRecDepth 100000
set_option maxHeartbeats 8000000
namespace Go.Proofs.YticbbncdcannlaaGreat
open Go.RowKit
theorem xlist_calls(l:List Int)(w:World)(hl:l.length≤4):Calls Tryz.prog 84 #[.agg (shC l).toArray] w fun e w'=>∃v,e=.returned v∧NewI w w' v l:=by
 obtain⟨n,hn⟩:∃n,n=l.length:=⟨_,rfl⟩;have hn4:n≤4:=by omega
 unfold shC;rw[←hn];have HN:=hid hn.symm;have hmk:=fun W=>run_mk (P:=Tryz.prog) 26 3 (.int .i64 0) 8 Tryz.underlying26 Tryz.infoInt rfl (by omega) n (by omega) W
 clear hn hl;go_enter Tryz.func84,Tryz.ntmps84
 go_wp2
 have HB0:Hid (((w.alloc (shB l n)).alloc (.cells (rep n (.int .i64 0)) 3)).heap[w.heap.size]? =some (shB l n)):=heap_alloc2_old w _ _;have HB1:Hid (((w.alloc (shB l n)).alloc (.cells (rep n (.int .i64 0)) 3)).heap[w.heap.size+1]? =some (.cells (ints (fillI l 0 n)).toArray 3 (0,0))):=hid (by rw[fillI_zero,←rep_ints];exact heap_alloc2_new w _ _);have HK:Hid (Kp0 w ((w.alloc (shB l n)).alloc (.cells (rep n (.int .i64 0)) 3))):=((Kp.refl _ w).alloc _).alloc _;obtain⟨b0,hb0⟩:∃b0,b0=w.heap.size:=⟨_,rfl⟩;rw[←hb0]at HB0 HB1⊢;have HBB:=hid hb0;clear hb0 hmk;generalize (w.alloc (shB l n)).alloc (.cells (rep n (.int .i64 0)) 3)=W at HB0 HB1 HK⊢
 go_loopw [4,10] (fun _ t w'=>∃k:Nat,k≤n∧t=.int .i64 k∧Hid (Kp0 w w')∧Hid (w'.heap[b0]? =some (shB l n))∧Hid (w'.heap[b0+1]? =some (.cells (ints (fillI l k n)).toArray 3 (0,0)))) (fun _ t _=>n-(intOf t).toNat)
 case atStart=>exact⟨0,Nat.zero_le _,rfl,HK,HB0,HB1⟩
 case round=>
  clear HB0 HB1 HK;obtain⟨k,hk,rfl,HK,HB0,HB1⟩:=hrel;by_cases hlt:k<n
  ·have q0:Hid _:=cell_of_row _ b0 k _ _ _ HB0.out
   have q1:=q0.out.trans (show _=some (.int .i64 (nth l k))from by
    match k,(show k<4 by omega)with
    |0,_=>rfl
    |1,_=>rfl
    |2,_=>rfl
    |3,_=>rfl)
   obtain⟨v1,q2⟩:=fillI_cell _ (b0+1) l k n HN.out hlt HB1.out;have f1:=frozen_of_row _ (b0+1) k _ _ HB1.out;have k1:(k:Int)<4:=by omega
   go_wp2
   go_roundw
   case rel=>exact⟨k+1,by omega,by go_num,HK.out.setCell _ _ (fun h=>by have:=HBB.out;change b0+1<_ at h;omega),hid (by rw[heap_setCell_other _ _ _ _ (by show b0≠b0+1;omega)];exact HB0.out),fillI_step _ (b0+1) l k n HN.out hlt HB1.out⟩
   case measure=>simp[intOf];omega
  ·obtain rfl:k=n:=by omega
   go_wp2
   go_ret;exact⟨_,rfl,NewI.made HN.out (by omega) (by have:=HB1.out;rwa [fillI_end l k HN.out]at this) HK.out (by have:=HBB.out;omega)⟩
def grC(l t:List Int)(f:Int):List Value:=[.int .i64 (nth l 0),.int .i64 (nth l 1),.int .i64 (nth l 2),.int .i64 (nth l 3),.int .i64 (l.length:Int),.int .i64 f,.int .i64 (nth t 0),.int .i64 (nth t 1),.int .i64 (nth t 2),.int .i64 (nth t 3)]
abbrev grB(l t:List Int)(f:Int)(n:Nat):Obj:=.cells #[.int .i64 (nth l 0),.int .i64 (nth l 1),.int .i64 (nth l 2),.int .i64 (nth l 3),.int .i64 (n:Int),.int .i64 f,.int .i64 (nth t 0),.int .i64 (nth t 1),.int .i64 (nth t 2),.int .i64 (nth t 3)] 107
theorem gr_sizes{w:World}{b:Nat}{l t:List Int}{f:Int}{n:Nat}(h:w.heap[b]? =some (grB l t f n))(k:Nat)(hk:k<4):w.cell? ⟨b,k,none⟩=some (.int .i64 (nth l k)):=by
 rw[cell_of_row _ _ _ _ _ _ h]
 match k,hk with
 |0,_=>rfl
 |1,_=>rfl
 |2,_=>rfl
 |3,_=>rfl
theorem gr_steps{w:World}{b:Nat}{l t:List Int}{f:Int}{n:Nat}(h:w.heap[b]? =some (grB l t f n))(k:Nat)(hk:k<4):w.cell? ⟨b,6+k,none⟩=some (.int .i64 (nth t k)):=by
 rw[cell_of_row _ _ _ _ _ _ h]
 match k,hk with
 |0,_=>rfl
 |1,_=>rfl
 |2,_=>rfl
 |3,_=>rfl
theorem gr_rest{w:World}{b:Nat}{l t:List Int}{f:Int}{n:Nat}(h:w.heap[b]? =some (grB l t f n)):w.cell? ⟨b,4,none⟩=some (.int .i64 (n:Int))∧w.cell? ⟨b,5,none⟩=some (.int .i64 f):=by constructor<;>rw[cell_of_row _ _ _ _ _ _ h]<;>rfl
structure GOk(l t:List Int)(f M:Int):Prop where
 shape:okShape l
 steps:t.length≤l.length
 unit:∀k,k<l.length→nth l k=1→nth t k=0
 inside:within M (gc l t f l.length)
 small:M≤1000000
theorem dot_mul{l t i:List Int}{f M:Int}(hg:GOk l t f M)(k:Nat)(hk:k<l.length)(hi:∀j,j<l.length→0≤nth i j∧nth i j<nth l j):(0≤f+dotTo i t k∧f+dotTo i t k<M)∧(0≤f+dotTo i t k+nth i k*nth t k∧f+dotTo i t k+nth i k*nth t k<M):=by
 have h1:=dot_in hg.shape.2.1 hg.inside k (by omega) (fun j hj=>hi j (by omega));have h2:=dot_in hg.shape.2.1 hg.inside (k+1) (by omega) (fun j hj=>hi j (by omega));rw[dotTo,←Int.add_assoc]at h2;exact⟨h1,h2⟩
theorem xcell_no(l t i:List Int)(f:Int)(vi:Value)(w:World)(hl:l.length≤4)(hr:RdI w vi i)(hin:inBb l i=false):Calls Tryz.prog 74 #[.agg (grC l t f).toArray,vi] w fun e w'=>e=.returned (.tuple #[.int .i64 0,.bool false])∧Kp0 w w':=by
 obtain⟨n,hn⟩:∃n,n=l.length:=⟨_,rfl⟩;have HH:=hid (fun w0 hr0=>xhas_calls l i vi w0 hr0 hl);unfold shC at HH;rw[hin]at HH;unfold grC;rw[←hn]at HH⊢;have HRI:=hid hr;clear hn hl hr hin;go_enter Tryz.func74,Tryz.ntmps74
 go_wp2_with fail
 refine(HH.out _ (HRI.out.kp0 ((Kp.refl _ w).alloc _))).mono ?_;rintro e w2 ⟨rfl,hw⟩;have HW:Hid (Kp0 w w2):=Kp0.trans ((Kp.refl _ w).alloc _) hw;clear hw;go_wp2
 go_ret2
 exact⟨rfl,HW.out⟩
theorem xcell_yes(l t i:List Int)(f M:Int)(a:Option Addr)(n c:Nat)(w:World)(hg:GOk l t f M)(hr:RdI w (.slice a n c) i)(hin:inBb l i=true)(HN:Hid (l.length=n))(HRD:Hid (0<n→∃g o,a=some ⟨g,o,none⟩∧∀j,j<n→w.cell? ⟨g,o+j,none⟩=some (.int .i64 (nth i j)))):Calls Tryz.prog 74 #[.agg (grC l t f).toArray,.slice a n c] w fun e w'=>e=.returned (.tuple #[.int .i64 (f+dotTo i t l.length),.bool true])∧Kp0 w w':=by
 have hn4:n≤4:=by have:=hg.shape.1;have:=HN.out;omega
 have HG:=hid hg;have HRI:=hid hr;have HH:=hid (fun w0 hr0=>xhas_calls l i (.slice a n c) w0 hr0 hg.shape.1);have HIN:Hid (∀j,j<n→0≤nth i j∧nth i j<nth l j):=fun j hj=>((inBb_iff l i).1 hin).2 j (by have:=HN.out;omega)
 unfold shC at HH;rw[hin]at HH;unfold grC;rw[HN.out]at HH⊢;have hsm:=hg.small;clear hg hr hin;go_enter Tryz.func74,Tryz.ntmps74
 go_wp2_with fail
 refine(HH.out _ (HRI.out.kp0 ((Kp.refl _ w).alloc _))).mono ?_;rintro e w2 ⟨rfl,hw⟩;have HW:Hid (Kp0 w w2):=Kp0.trans ((Kp.refl _ w).alloc _) hw;have HB:Hid (w2.heap[w.heap.size]? =some (grB l t f n)):=hw.heap (heap_alloc_new w _);clear hw;obtain⟨b0,hb0⟩:∃b0,b0=w.heap.size:=⟨_,rfl⟩;rw[←hb0]at HB⊢;clear hb0;have p5:=(gr_rest HB.out).2;go_wp2
 go_loopw [6,7,8,18] (fun r _ _ t' w'=>∃k:Nat,k≤n∧t'=.int .i64 k∧r=.int .i64 (f+dotTo i t k)∧w'=w2) (fun _ _ _ t' _=>n-(intOf t').toNat)
 case atStart=>exact⟨0,Nat.zero_le _,rfl,by simp[dotTo],rfl⟩
 case round=>
  obtain⟨k,hk,rfl,rfl,rfl⟩:=hrel;by_cases hlt:k<n
  ·obtain⟨g,o,rfl,hc⟩:=HRD.out (by omega)
   have q1:=HW.out.cell (hc k hlt);clear hc;have q2:=gr_steps HB.out k (by omega);have k1:(k:Int)<4:=by omega
   have HD:Hid (dotTo i t (k+1)=dotTo i t k+nth i k*nth t k):=rfl;obtain⟨⟨d1,d2⟩,d3,d4⟩:=dot_mul HG.out k (by have:=HN.out;omega) (fun j hj=>HIN.out j (by have:=HN.out;omega));generalize hm:nth i k*nth t k=m at d3 d4 HD;have w1:IntKind.i64.wrap (nth i k*nth t k)=m:=by rw[hm];simp[IntKind.wrap,IntKind.signed,IntKind.bits];omega
   have w2':IntKind.i64.wrap (f+dotTo i t k+m)=f+dotTo i t k+m:=by simp[IntKind.wrap,IntKind.signed,IntKind.bits];omega
   clear hm;go_wp2
   go_roundw
   case rel=>exact⟨k+1,by omega,by go_num,by rw[HD.out,Int.add_assoc],trivial⟩
   case measure=>simp[intOf];omega
  ·obtain rfl:k=n:=by omega
   go_wp2
   go_ret2
   exact⟨rfl,HW.out⟩
theorem xcell_calls(l t i:List Int)(f M:Int)(vi:Value)(w:World)(hg:GOk l t f M)(hr:RdI w vi i):Calls Tryz.prog 74 #[.agg (grC l t f).toArray,vi] w fun e w'=>e=.returned (.tuple #[.int .i64 (if inBb l i=true then f+dotTo i t l.length else 0),.bool (inBb l i)])∧Kp0 w w':=by
 cases hin:inBb l i with
 |false=>exact xcell_no l t i f vi w hg.shape.1 hr hin
 |true=>
  have hr':=hr;have hl:=((inBb_iff l i).1 hin).1;obtain⟨a,c,rfl,hc⟩:=hr;refine xcell_yes l t i f M a i.length c w hg hr' hin hl (fun h=>?_);exact hc (fun e=>by rw[e]at h;simp at h)
end Go.Proofs.YticbbncdcannlaaGreat
