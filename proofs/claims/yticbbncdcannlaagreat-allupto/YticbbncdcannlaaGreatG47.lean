import Derived.Test.YticbbncdcannlaaGreatG46
import Derived.Test.YticbbncdcannlaaGreatG45
set_option maxRecDepth 100000
set_option maxHeartbeats 8000000
namespace Go.Proofs.YticbbncdcannlaaGreat
open Go.RowKit Go.Maps Go.ChangeMaps Go.MapKept
theorem ten_cellsI{w:World}{g:Nat}{cur:Array Value}{ty:TypeId}{R:Nat→List Value}{N:Nat}(hg:w.heap[g]? =some (.cells cur ty (0,0)))(h:TenRows cur R N)(q:Nat)(hq:q<N)(c:Nat)(hc:c<10):w.cell? ⟨g,q*10+c,none⟩=(R q)[c]? :=by
 rw[←h q hq c hc];exact cell_of_row _ _ _ _ _ _ hg
theorem xfoldLayersI(op:Int)(q g N:Nat)(hN:1≤N∧N≤60)(cur:Array Value)(l t:List Int)(F:Nat→Int)(w:World)(P V FV:Nat→List Int)(mc:Nat)(HG:Hid (w.heap[g]? =some (.cells cur 107 (0,0))))(HT:Hid (TenRows cur (fun q=>grC l t (F q)) N))(HC:Hid (∀W i,i<N→Calls Tryz.prog 60 #[.agg (grC l t (F i)).toArray] W fun e w'=>∃ao c,e=.returned (.slice ao mc c)∧Kp0 W w'∧Fr W.heap.size w' (.slice ao mc c) (P i)))(HRd:Hid (∀W i vp,i<N→Kp0 w W→RdI W vp (P i)→Calls Tryz.prog 215 #[.pointer (some ⟨q,0,none⟩),vp] W fun e w'=>∃ao c,e=.returned (.slice ao mc c)∧Kp0 W w'∧Fr W.heap.size w' (.slice ao mc c) (V i)))(HCb:Hid (∀W i v0 v1,i+1<N→Kp0 w W→Fr w.heap.size W v0 (FV i)→Fr w.heap.size W v1 (V (i+1))→Calls Tryz.prog 212 #[.pointer (some ⟨q,0,none⟩),.int .i64 op,v0,v1] W fun e w'=>∃ao c,e=.returned (.slice ao mc c)∧Kp0 W w'∧Fr W.heap.size w' (.slice ao mc c) (FV (i+1))))(HV0:Hid (FV 0=V 0)):Calls Tryz.prog 70 #[.int .i64 op,.iface 127 (.pointer (some ⟨q,0,none⟩)),.slice (some ⟨g,0,none⟩) N N] w fun e w'=>∃ao c,e=.returned (.slice ao mc c)∧Kp0 w w'∧Fr w.heap.size w' (.slice ao mc c) (FV (N-1)):=by
 have HC2:Hid (∀W i,i<N→Calls Tryz.prog 60 #[.agg (grC l t (F i)).toArray] W fun e w'=>∃v,e=.returned v∧∃ao c,v=.slice ao mc c∧Kp0 W w'∧Fr W.heap.size w' (.slice ao mc c) (P i)):=hid (fun W i hi=>(HC.out W i hi).mono (fun e w' ⟨ao,c,h1,h2,h3⟩=>⟨_,h1,ao,c,rfl,h2,h3⟩));have HR2:Hid (∀W i vp,i<N→Kp0 w W→RdI W vp (P i)→Calls Tryz.prog 215 #[.pointer (some ⟨q,0,none⟩),vp] W fun e w'=>∃v,e=.returned v∧∃ao c,v=.slice ao mc c∧Kp0 W w'∧Fr W.heap.size w' (.slice ao mc c) (V i)):=hid (fun W i vp hi k hr=>(HRd.out W i vp hi k hr).mono (fun e w' ⟨ao,c,h1,h2,h3⟩=>⟨_,h1,ao,c,rfl,h2,h3⟩));have HCB2:Hid (∀W i v0 v1,i+1<N→Kp0 w W→Fr w.heap.size W v0 (FV i)→Fr w.heap.size W v1 (V (i+1))→Calls Tryz.prog 212 #[.pointer (some ⟨q,0,none⟩),.int .i64 op,v0,v1] W fun e w'=>∃v,e=.returned v∧∃ao c,v=.slice ao mc c∧Kp0 W w'∧Fr W.heap.size w' (.slice ao mc c) (FV (i+1))):=hid (fun W i v0 v1 hi k h0 h1=>(HCb.out W i v0 v1 hi k h0 h1).mono (fun e w' ⟨ao,c,h1,h2,h3⟩=>⟨_,h1,ao,c,rfl,h2,h3⟩));have HMR:=hid (Tryz.mReadI ⟨q,0,none⟩);have hna:=Tryz.nReadI ⟨q,0,none⟩;have HMC:=hid (Tryz.mCombineI ⟨q,0,none⟩);have hnc:=Tryz.nCombineI ⟨q,0,none⟩;have HTC:Hid (∀W,Kp0 w W→∀i,i<N→∀c,c<10→W.cell? ⟨g,i*10+c,none⟩=(grC l t (F i))[c]?):=hid (fun W k i hi c hc=>ten_cellsI (k.heap HG.out) HT.out i hi c hc);clear HC HRd HCb;unfold grC at HC2 HTC;obtain⟨n,hn⟩:∃n,l.length=n:=⟨_,rfl⟩;rw[hn]at HC2 HTC;clear hn;have hN0:0<N:=by omega
 have n0:(0:Int)<(N:Int):=by omega
 have y0:=HTC.out w (Kp0.refl _) 0 hN0 0 (by omega);have y1:=HTC.out w (Kp0.refl _) 0 hN0 1 (by omega);have y2:=HTC.out w (Kp0.refl _) 0 hN0 2 (by omega);have y3:=HTC.out w (Kp0.refl _) 0 hN0 3 (by omega);have y4:=HTC.out w (Kp0.refl _) 0 hN0 4 (by omega);have y5:=HTC.out w (Kp0.refl _) 0 hN0 5 (by omega);have y6:=HTC.out w (Kp0.refl _) 0 hN0 6 (by omega);have y7:=HTC.out w (Kp0.refl _) 0 hN0 7 (by omega);have y8:=HTC.out w (Kp0.refl _) 0 hN0 8 (by omega);have y9:=HTC.out w (Kp0.refl _) 0 hN0 9 (by omega);simp at y0 y1 y2 y3 y4 y5 y6 y7 y8 y9;have HKd:Hid (Kp0 w w.drew):=hid (Kp0.refl w).drew;go_enter Tryz.func70,Tryz.ntmps70
 go_wp2
 go_cut [7]from 10 (fun s7 W=>∃ao c,s7=.slice ao mc c∧Kp0 w W∧Fr w.heap.size W (.slice ao mc c) (FV 0))
 case first=>
  go_region_held3 (fun W=>W.cell? ⟨g,0,none⟩=some (.int .i64 (nth l 0))∧W.cell? ⟨g,1,none⟩=some (.int .i64 (nth l 1))∧W.cell? ⟨g,2,none⟩=some (.int .i64 (nth l 2))∧W.cell? ⟨g,3,none⟩=some (.int .i64 (nth l 3))∧W.cell? ⟨g,4,none⟩=some (.int .i64 (n:Int))∧W.cell? ⟨g,5,none⟩=some (.int .i64 (F 0))∧W.cell? ⟨g,6,none⟩=some (.int .i64 (nth t 0))∧W.cell? ⟨g,7,none⟩=some (.int .i64 (nth t 1))∧W.cell? ⟨g,8,none⟩=some (.int .i64 (nth t 2))∧W.cell? ⟨g,9,none⟩=some (.int .i64 (nth t 3))) (go_keep)
   ((first
     |(refine step_call1 (by rfl) 60 (.tmp 13) _ (by rfl) _ Tryz.func60 (by kernel_rfl) (by kernel_rfl) _ (by rfl) (HC2.out _ 0 hN0) ?_;intro v7 w7 hR7;obtain⟨ao,c7,rfl,hk7,hf7⟩:=hR7;have y0:=hk7.cell y0;have y1:=hk7.cell y1;have y2:=hk7.cell y2;have y3:=hk7.cell y3;have y4:=hk7.cell y4;have y5:=hk7.cell y5;have y6:=hk7.cell y6;have y7:=hk7.cell y7;have y8:=hk7.cell y8;have y9:=hk7.cell y9)
     |(refine step_invoke1 (by rfl) (.tmp 17) "Read" (.tmp 14) _ (by rfl) _ (.slice ao mc c7) (by rfl) (by rfl) _ _ (HMR.out _ _) (HR2.out _ 0 _ hN0 (Kp0.trans HKd.out hk7) hf7.1) ?_;intro v8 w8 hR8;obtain⟨ao8,c8,rfl,hk8,hf8⟩:=hR8;have y0:=hk8.cell y0;have y1:=hk8.cell y1;have y2:=hk8.cell y2;have y3:=hk8.cell y3;have y4:=hk8.cell y4;have y5:=hk8.cell y5;have y6:=hk8.cell y6;have y7:=hk8.cell y7;have y8:=hk8.cell y8;have y9:=hk8.cell y9)))
  all_goals
   have HR9:=hid (And.intro (Kp0.trans (Kp0.trans HKd.out hk7) hk8) (hf8.le (Kp0.trans HKd.out hk7).size));rw[←HV0.out]at HR9;clear hk7 hk8 hf7 hf8 y0 y1 y2 y3 y4 y5 y6 y7 y8 y9
   go_wp2_with fail
   go_meet
   case rel=>exact⟨_,_,rfl,HR9.out.1,HR9.out.2⟩
 case rest=>
  obtain⟨ao,c7,rfl,hK,hF⟩:=hcut;have HK:=hid hK;have HF:=hid hF;clear hK hF y0 y1 y2 y3 y4 y5 y6 y7 y8 y9 HKd;by_cases h1:N=1
  ·subst h1
   go_wp2
   go_loopw [7,9,22] (fun s7 _ a w'=>a=.int .i64 0∧∃ao c,s7=.slice ao mc c∧Hid (Kp0 w w')∧Hid (Fr w.heap.size w' (.slice ao mc c) (FV 0))) (fun _ _ _ _=>0)
   case atStart=>exact⟨rfl,_,_,rfl,HK,HF⟩
   case round=>
    clear HK HF;obtain⟨rfl,ao,c,rfl,HK,HF⟩:=hrel;go_wp2
    go_ret;exact⟨_,_,rfl,HK.out,HF.out⟩
  ·obtain⟨m,hm⟩:∃m,N-1=m:=⟨_,rfl⟩
   have hmN:N=m+1:=by omega
   have HMN:=hid hmN;have HNM:=hid hm;go_wp2
   clear hm hmN
   go_loopw [7,9,22] (fun s7 _ a w'=>∃j:Nat,j≤m∧a=.int .i64 j∧∃ao c,s7=.slice ao mc c∧Hid (Kp0 w w')∧Hid (Fr w.heap.size w' (.slice ao mc c) (FV j))) (fun _ _ a _=>m-(intOf a).toNat)
   case atStart=>exact⟨0,Nat.zero_le _,rfl,_,_,rfl,HK,HF⟩
   case round=>
    clear HK HF;obtain⟨j,hj,rfl,ao,c,rfl,HK,HF⟩:=hrel;by_cases hlt:j<m
    ·have j0:(0:Int)≤(j:Int):=by omega
     have j1:(j:Int)<(m:Int):=by omega
     have hj1:j+1<N:=by have:=HMN.out;omega
     have e10:(j+1)*10=10+j*10:=by omega
     have hy:∀c,c<10→wr.cell? ⟨g,10+j*10+c,none⟩=([.int .i64 (nth l 0),.int .i64 (nth l 1),.int .i64 (nth l 2),.int .i64 (nth l 3),.int .i64 (n:Int),.int .i64 (F (j+1)),.int .i64 (nth t 0),.int .i64 (nth t 1),.int .i64 (nth t 2),.int .i64 (nth t 3)]:List Value)[c]? :=fun c hc=>by rw[←e10];exact HTC.out wr HK.out (j+1) hj1 c hc
     have y0:wr.cell? ⟨g,10+j*10,none⟩=some (.int .i64 (nth l 0)):=hy 0 (by omega);have y1:wr.cell? ⟨g,10+j*10+1,none⟩=some (.int .i64 (nth l 1)):=hy 1 (by omega);have y2:wr.cell? ⟨g,10+j*10+2,none⟩=some (.int .i64 (nth l 2)):=hy 2 (by omega);have y3:wr.cell? ⟨g,10+j*10+3,none⟩=some (.int .i64 (nth l 3)):=hy 3 (by omega);have y4:wr.cell? ⟨g,10+j*10+4,none⟩=some (.int .i64 (n:Int)):=hy 4 (by omega);have y5:wr.cell? ⟨g,10+j*10+5,none⟩=some (.int .i64 (F (j+1))):=hy 5 (by omega);have y6:wr.cell? ⟨g,10+j*10+6,none⟩=some (.int .i64 (nth t 0)):=hy 6 (by omega);have y7:wr.cell? ⟨g,10+j*10+7,none⟩=some (.int .i64 (nth t 1)):=hy 7 (by omega);have y8:wr.cell? ⟨g,10+j*10+8,none⟩=some (.int .i64 (nth t 2)):=hy 8 (by omega);have y9:wr.cell? ⟨g,10+j*10+9,none⟩=some (.int .i64 (nth t 3)):=hy 9 (by omega);clear hy e10;go_wp2
     have HBA:Hid ((wr.alloc (.cells #[.int .i64 (nth l 0),.int .i64 (nth l 1),.int .i64 (nth l 2),.int .i64 (nth l 3),.int .i64 (n:Int),.int .i64 (F (j+1)),.int .i64 (nth t 0),.int .i64 (nth t 1),.int .i64 (nth t 2),.int .i64 (nth t 3)] 107)).heap[wr.heap.size]? =some (.cells #[.int .i64 (nth l 0),.int .i64 (nth l 1),.int .i64 (nth l 2),.int .i64 (nth l 3),.int .i64 (n:Int),.int .i64 (F (j+1)),.int .i64 (nth t 0),.int .i64 (nth t 1),.int .i64 (nth t 2),.int .i64 (nth t 3)] 107 (0,0))):=heap_alloc_new wr _;have HKA:Hid (Kp0 w (wr.alloc (.cells #[.int .i64 (nth l 0),.int .i64 (nth l 1),.int .i64 (nth l 2),.int .i64 (nth l 3),.int .i64 (n:Int),.int .i64 (F (j+1)),.int .i64 (nth t 0),.int .i64 (nth t 1),.int .i64 (nth t 2),.int .i64 (nth t 3)] 107))):=HK.out.alloc _;have HFA:Hid (Fr w.heap.size (wr.alloc (.cells #[.int .i64 (nth l 0),.int .i64 (nth l 1),.int .i64 (nth l 2),.int .i64 (nth l 3),.int .i64 (n:Int),.int .i64 (F (j+1)),.int .i64 (nth t 0),.int .i64 (nth t 1),.int .i64 (nth t 2),.int .i64 (nth t 3)] 107)) (.slice ao mc c) (FV j)):=HF.out.kp0 ((Kp.refl _ wr).alloc _);clear y0 y1 y2 y3 y4 y5 y6 y7 y8 y9;generalize wr.alloc (.cells #[.int .i64 (nth l 0),.int .i64 (nth l 1),.int .i64 (nth l 2),.int .i64 (nth l 3),.int .i64 (n:Int),.int .i64 (F (j+1)),.int .i64 (nth t 0),.int .i64 (nth t 1),.int .i64 (nth t 2),.int .i64 (nth t 3)] 107)=W4 at HBA HKA HFA⊢;generalize wr.heap.size=b0 at HBA⊢;obtain⟨y0,y1,y2,y3,y4,y5,y6,y7,y8,y9⟩:=cells10 HBA.out;have HKd:Hid (Kp0 w W4.drew):=hid HKA.out.drew;have HFd:Hid (Fr w.heap.size W4.drew (.slice ao mc c) (FV j)):=hid (HFA.out.kp0 (Kp0.refl _).drew);clear HBA HKA HFA
     go_region_held3 (fun W=>W.cell? ⟨b0,0,none⟩=some (.int .i64 (nth l 0))∧W.cell? ⟨b0,1,none⟩=some (.int .i64 (nth l 1))∧W.cell? ⟨b0,2,none⟩=some (.int .i64 (nth l 2))∧W.cell? ⟨b0,3,none⟩=some (.int .i64 (nth l 3))∧W.cell? ⟨b0,4,none⟩=some (.int .i64 (n:Int))∧W.cell? ⟨b0,5,none⟩=some (.int .i64 (F (j+1)))∧W.cell? ⟨b0,6,none⟩=some (.int .i64 (nth t 0))∧W.cell? ⟨b0,7,none⟩=some (.int .i64 (nth t 1))∧W.cell? ⟨b0,8,none⟩=some (.int .i64 (nth t 2))∧W.cell? ⟨b0,9,none⟩=some (.int .i64 (nth t 3))) (go_keep)
      ((first
        |(refine step_call1 (by rfl) 60 (.tmp 30) _ (by rfl) _ Tryz.func60 (by kernel_rfl) (by kernel_rfl) _ (by rfl) (HC2.out _ (j+1) hj1) ?_;intro v7 w7 hR7;obtain⟨ao7,c7,rfl,hk7,hf7⟩:=hR7;have y0:=hk7.cell y0;have y1:=hk7.cell y1;have y2:=hk7.cell y2;have y3:=hk7.cell y3;have y4:=hk7.cell y4;have y5:=hk7.cell y5;have y6:=hk7.cell y6;have y7:=hk7.cell y7;have y8:=hk7.cell y8;have y9:=hk7.cell y9)
        |(refine step_invoke1 (by rfl) (.tmp 34) "Read" (.tmp 31) _ (by rfl) _ (.slice ao7 mc c7) (by rfl) (by rfl) _ _ (HMR.out _ _) (HR2.out _ (j+1) _ hj1 (Kp0.trans HKd.out hk7) hf7.1) ?_;intro v8 w8 hR8;obtain⟨ao8,c8,rfl,hk8,hf8⟩:=hR8;have y0:=hk8.cell y0;have y1:=hk8.cell y1;have y2:=hk8.cell y2;have y3:=hk8.cell y3;have y4:=hk8.cell y4;have y5:=hk8.cell y5;have y6:=hk8.cell y6;have y7:=hk8.cell y7;have y8:=hk8.cell y8;have y9:=hk8.cell y9)
        |(refine step_invoke3 (by rfl) (.tmp 38) "Combine" (.tmp 27) (.tmp 28) (.tmp 35) _ (by rfl) _ (.int .i64 op) (.slice ao mc c) (.slice ao8 mc c8) (by rfl) (by rfl) (by rfl) (by rfl) _ _ (HMC.out _ _ _ _) (HCB2.out _ j _ _ hj1 (Kp0.trans (Kp0.trans HKd.out hk7) hk8) (HFd.out.kp0 (Kp0.trans hk7 hk8)) (hf8.le (Kp0.trans HKd.out hk7).size)) ?_;intro v9 w9 hR9;obtain⟨ao9,c9,rfl,hk9,hf9⟩:=hR9;have y0:=hk9.cell y0;have y1:=hk9.cell y1;have y2:=hk9.cell y2;have y3:=hk9.cell y3;have y4:=hk9.cell y4;have y5:=hk9.cell y5;have y6:=hk9.cell y6;have y7:=hk9.cell y7;have y8:=hk9.cell y8;have y9:=hk9.cell y9)))
     all_goals
      have HK9:=hid (Kp0.trans (Kp0.trans (Kp0.trans HKd.out hk7) hk8) hk9);have HF9:=hid (hf9.le (Kp0.trans (Kp0.trans HKd.out hk7) hk8).size);clear hk9 hf9 hk8 hf8 hk7 hf7 y0 y1 y2 y3 y4 y5 y6 y7 y8 y9;go_wp2
      go_roundw
      case rel=>exact⟨j+1,by omega,by go_num,ao9,c9,rfl,HK9,HF9⟩
      case measure=>simp[intOf];omega
    ·obtain rfl:j=m:=by omega
     have j1:¬(j:Int)<(j:Int):=by omega
     go_wp2
     go_ret;exact⟨_,_,rfl,HK.out,by rw[HNM.out];exact HF.out⟩
theorem xFoldOkI{T:Tags}{o:Nat}{w:World}{p:Nat}{L:XL}{X:XS}(h:XAt T o w p L X)(op hd:Int)(k N:Nat)(x:XA)(hA:X.A hd=some x)(hk:x.kind=2)(h1:1≤op)(h5:op≤5)(h2:op≠2)(hN:1≤N)(l t:List Int)(F:Nat→Int)(mv:Nat)(V:List Int){S1:Nat→Prop}(HS1:Hid (∀b,S1 b→b<w.heap.size)){R:Int→Int→World→Prop}(HL:Hid (∀W,Kp0 w W→Calls Tryz.prog 69 #[.agg (grC x.l x.t x.f).toArray,.int .i64 (k:Int)] W fun e w'=>∃g,e=.returned (.tuple #[.slice (some ⟨g,0,none⟩) N N,.bool true])∧Kp0 W w'∧W.heap.size≤g∧∃cur,w'.heap[g]? =some (.cells cur 107 (0,0))∧cur.size=N*10∧TenRows cur (fun q=>grC l t (F q)) N))(HF:Hid (∀W g cur,Kp0 w W→W.heap[g]? =some (.cells cur 107 (0,0))→TenRows cur (fun q=>grC l t (F q)) N→Calls Tryz.prog 70 #[.int .i64 op,.iface 127 (.pointer (some ⟨L.q2,0,none⟩)),.slice (some ⟨g,0,none⟩) N N] W fun e w'=>∃ao c,e=.returned (.slice ao mv c)∧Kp0 W w'∧Fr W.heap.size w' (.slice ao mv c) V))(HM:Hid (∀W vv,Kp0 w W→Fr w.heap.size W vv V→Calls Tryz.prog 59 #[.pointer (some ⟨p,0,none⟩),.int .i64 2,.iface 127 (.pointer (some ⟨L.q2,0,none⟩)),.agg (shC l).toArray,vv] W fun e w'=>∃a b,e=.returned (.tuple #[.int .i64 a,.int .i64 b])∧R a b w'∧Kp S1 W w')):Calls Tryz.prog 30 #[.pointer (some ⟨p,0,none⟩),.int .i64 op,.int .i64 hd,.int .i64 (k:Int)] w fun e w'=>∃a b,e=.returned (.tuple #[.int .i64 a,.int .i64 b])∧R a b w':=by
 have HFD:=hid (xfind_some h hd x hA (.inr hk));rw[hk,inVI]at HFD;have HF2:Hid (∀W g cur,Kp0 w W→W.heap[g]? =some (.cells cur 107 (0,0))→TenRows cur (fun q=>grC l t (F q)) N→Calls Tryz.prog 70 #[.int .i64 op,.iface 127 (.pointer (some ⟨L.q2,0,none⟩)),.slice (some ⟨g,0,none⟩) N N] W fun e w'=>∃v,e=.returned v∧∃ao c,v=.slice ao mv c∧Kp0 W w'∧Fr W.heap.size w' (.slice ao mv c) V):=hid (fun W g cur kk hg ht=>(HF.out W g cur kk hg ht).mono (fun e w' ⟨ao,c,h1,h2,h3⟩=>⟨_,h1,ao,c,rfl,h2,h3⟩));have HM2:Hid (∀W vv,Kp0 w W→Fr w.heap.size W vv V→Calls Tryz.prog 59 #[.pointer (some ⟨p,0,none⟩),.int .i64 2,.iface 127 (.pointer (some ⟨L.q2,0,none⟩)),.agg (shC l).toArray,vv] W fun e w'=>∃v,e=.returned v∧∃a b,v=.tuple #[.int .i64 a,.int .i64 b]∧R a b w'∧Kp S1 W w'):=hid (fun W vv kk hr=>(HM.out W vv kk hr).mono (fun e w' ⟨a,b,h1,h2⟩=>⟨_,h1,a,b,rfl,h2⟩));have HO:=hid (xIsOp_yes op w h1 h5);have b2:(op==2)=false:=by simp[h2]
 clear HF HM;generalize L.q2=q at*;unfold XA.cs at HFD;rw[hk]at HFD;unfold grC at HL;unfold shC at HM2;have HTR:Hid (∀(W:World) g cur,W.heap[g]? =some (.cells cur 107 (0,0))→TenRows cur (fun q=>grC l t (F q)) N→W.cell? ⟨g,0,none⟩=some (.int .i64 (nth l 0))∧W.cell? ⟨g,1,none⟩=some (.int .i64 (nth l 1))∧W.cell? ⟨g,2,none⟩=some (.int .i64 (nth l 2))∧W.cell? ⟨g,3,none⟩=some (.int .i64 (nth l 3))∧W.cell? ⟨g,4,none⟩=some (.int .i64 (l.length:Int))):=hid (fun W g cur hg ht=>by
  have key:=fun c hc=>ten_cellsI hg ht 0 hN c hc
  have k0:=key 0 (by omega);have k1:=key 1 (by omega);have k2:=key 2 (by omega);have k3:=key 3 (by omega);have k4:=key 4 (by omega);simp[grC]at k0 k1 k2 k3 k4;exact⟨k0,k1,k2,k3,k4⟩)
 generalize x.l.length=n at*;obtain⟨m,hm⟩:∃m,l.length=m:=⟨_,rfl⟩;rw[hm]at HM2 HTR;have hN0:0<N:=hN;have n0:(0:Int)<(N:Int):=by omega
 clear h hA hk h1 h5 h2 hm;go_enter Tryz.func30,Tryz.ntmps30
 go_wp2_with fail
 refine HO.out.mono ?_;rintro e w1 ⟨rfl,hw⟩;obtain rfl:=hw.symm;clear hw HO
 go_wp2_with fail
 refine HFD.out.mono ?_;rintro e w2 ⟨rfl,hw⟩;have HK:=hid hw;have HB2:Hid ((w2.alloc (.cells #[.int .i64 2,.int .i64 x.buf,.int .i64 (nth x.l 0),.int .i64 (nth x.l 1),.int .i64 (nth x.l 2),.int .i64 (nth x.l 3),.int .i64 (n:Int),.int .i64 x.f,.int .i64 (nth x.t 0),.int .i64 (nth x.t 1),.int .i64 (nth x.t 2),.int .i64 (nth x.t 3),.bool x.ro] 109)).heap[w2.heap.size]? =some (.cells #[.int .i64 2,.int .i64 x.buf,.int .i64 (nth x.l 0),.int .i64 (nth x.l 1),.int .i64 (nth x.l 2),.int .i64 (nth x.l 3),.int .i64 (n:Int),.int .i64 x.f,.int .i64 (nth x.t 0),.int .i64 (nth x.t 1),.int .i64 (nth x.t 2),.int .i64 (nth x.t 3),.bool x.ro] 109 (0,0))):=heap_alloc_new w2 _;have HK2:Hid (Kp0 w (w2.alloc (.cells #[.int .i64 2,.int .i64 x.buf,.int .i64 (nth x.l 0),.int .i64 (nth x.l 1),.int .i64 (nth x.l 2),.int .i64 (nth x.l 3),.int .i64 (n:Int),.int .i64 x.f,.int .i64 (nth x.t 0),.int .i64 (nth x.t 1),.int .i64 (nth x.t 2),.int .i64 (nth x.t 3),.bool x.ro] 109))):=HK.out.alloc _;clear hw
 go_wp2_with fail
 refine(HL.out _ HK2.out).mono ?_;rintro e w3 ⟨g,rfl,hk3,hg3,cur,hc3,-,ht3⟩;have HB3:=hid (hk3.heap HB2.out);have HK3:Hid (Kp0 w w3):=HK2.out.trans hk3;have HN0:Hid (¬S1 w2.heap.size):=hid (fun e=>by have:=HS1.out _ e;have:=HK.out.size;omega);have HN1:Hid (¬S1 g):=hid (fun e=>by have:=HS1.out _ e;have:=HK2.out.size;omega);have HC3:=hid hc3;have HT3:=hid ht3;clear hk3 hg3 hc3 ht3 HB2 HK2 HK HL HFD;generalize w2.heap.size=b0 at*;obtain⟨y0,-⟩:=cells13 HB3.out;obtain⟨z0,z1,z2,z3,z4⟩:=HTR.out _ _ _ HC3.out HT3.out;have HKd:Hid (Kp0 w w3.drew):=hid HK3.out.drew;have HCd:Hid (w3.drew.heap[g]? =some (.cells cur 107 (0,0))):=hid HC3.out;clear HTR;go_wp2
 go_region_held3 (fun W=>W.cell? ⟨b0,0,none⟩=some (.int .i64 2)∧W.cell? ⟨g,0,none⟩=some (.int .i64 (nth l 0))∧W.cell? ⟨g,1,none⟩=some (.int .i64 (nth l 1))∧W.cell? ⟨g,2,none⟩=some (.int .i64 (nth l 2))∧W.cell? ⟨g,3,none⟩=some (.int .i64 (nth l 3))∧W.cell? ⟨g,4,none⟩=some (.int .i64 (m:Int))) (go_keep)
  ((first
    |(refine step_call3 (by rfl) 70 (.tmp 49) (.tmp 50) (.tmp 51) _ (by rfl) _ Tryz.func70 (by kernel_rfl) (by kernel_rfl) _ _ _ (by rfl) (by rfl) (by rfl) (HF2.out _ _ _ HKd.out HCd.out HT3.out) ?_;intro v7 w7 hR7;obtain⟨ao7,c7,rfl,hk7,hf7⟩:=hR7;have y0:=hk7.cell y0;have z0:=hk7.cell z0;have z1:=hk7.cell z1;have z2:=hk7.cell z2;have z3:=hk7.cell z3;have z4:=hk7.cell z4)
    |(refine step_call5 (by rfl) 59 (.tmp 41) (.tmp 43) (.tmp 44) (.tmp 48) (.tmp 52) _ (by rfl) _ Tryz.func59 (by kernel_rfl) (by kernel_rfl) _ _ _ _ _ (by rfl) (by rfl) (by rfl) (by rfl) (by rfl) (HM2.out _ _ (Kp0.trans HKd.out hk7) (hf7.le HKd.out.size)) ?_;intro v9 w9 hR9;obtain⟨a9,b9,rfl,hR9,hk9⟩:=hR9;have y0:=hk9.cell y0 HN0.out;have z0:=hk9.cell z0 HN1.out;have z1:=hk9.cell z1 HN1.out;have z2:=hk9.cell z2 HN1.out;have z3:=hk9.cell z3 HN1.out;have z4:=hk9.cell z4 HN1.out)))
 all_goals
  have HR9:=hid hR9;clear hR9 hk7 hk9 hf7 y0 z0 z1 z2 z3 z4;go_wp2
  go_ret2
  exact⟨_,_,rfl,HR9.out⟩
end Go.Proofs.YticbbncdcannlaaGreat
namespace Go.Proofs.YticbbncdcannlaaGreat
open Go.RowKit
theorem puts_congr{σ:Sp}{kind a:Int}{f g:Nat→Int}(k:Nat)(h:∀j,j<k→f j=g j):σ.puts kind a f k=σ.puts kind a g k:=by
 induction k with
 |zero=>rfl
 |succ k ih=>rw[Sp.puts,Sp.puts,ih (fun j hj=>h j (by omega)),h k (by omega)]
theorem fresh_congr{σ:Sp}{kind:Int}{s:List Int}{f g:Nat→Int}(h:∀j,j<(vol s).toNat→f j=g j):σ.fresh kind s f=σ.fresh kind s g:=by
 unfold Sp.fresh Sp.made;rw[puts_congr _ h]
def inK(kind v:Int):Prop:=IntKind.i64.wrap v=v∧(kind=1→0≤v∧v<256)
theorem opK_in{op kind a b:Int}(hk:kind=1∨kind=2)(ha:inK kind a)(hb:inK kind b):inK kind (opK op kind a b):=by
 have key:∀v,inK kind (wrapK kind v):=fun v=>by
  unfold inK wrapK;rcases hk with rfl|rfl
  ·rw[if_pos rfl]
   refine⟨?_,fun _=>?_⟩
   ·simp[IntKind.wrap,IntKind.signed,IntKind.bits];omega
   ·omega
  ·rw[if_neg (by omega)]
   exact⟨wrapSI_range v,fun e=>by omega⟩
 unfold opK
 repeat' split
 all_goals first|exact key _|exact ha|exact hb
theorem foldV_in{op kind:Int}(hk:kind=1∨kind=2){f:Nat→Int}(h:∀j,inK kind (f j))(n:Nat):inK kind (foldV op kind f n):=by
 induction n with
 |zero=>exact h 0
 |succ n ih=>exact opK_in hk ih (h _)
theorem opWB_eq{op a b:Int}(ha:inK 1 a)(hb:inK 1 b):opWB op (IntKind.wrap .u8 a) (IntKind.wrap .u8 b)=opK op 1 a b:=by
 have h1:=ha.2 rfl;have h2:=hb.2 rfl;rw[wrap_u8,wrap_u8,show a%256=a by omega,show b%256=b by omega];unfold opWB opK wrapK;simp only[if_true,wrap_u8]
theorem opWI_eq{op a b:Int}(ha:inK 2 a)(hb:inK 2 b):opWI op (IntKind.wrap .i64 a) (IntKind.wrap .i64 b)=opK op 2 a b:=by
 rw[ha.1,hb.1];rfl
def Sp.along(σ:Sp)(a:Arr)(k r:Nat)(x:Nat):Int:=nth (σ.valuesOf a) (rank a.shape (foldL (idx (foldS a.shape k) r) k x)).toNat
theorem picked_layer(σ:Sp)(a:Arr)(k q:Nat):picked (σ.valuesOf a) (lyRk a.shape k q)=mkL (vol (foldS a.shape k)).toNat fun r=>σ.along a k r q:=by
 refine ext_nth (by simp[picked,lyRk_length,mkL_length]) (fun j hj=>?_);have hj':j<(vol (foldS a.shape k)).toNat:=by simpa[picked,lyRk_length]using hj
 rw[picked_nth _ _ _ (by rw[lyRk_length];exact hj'),lyRk_nth _ _ _ _ hj',mkL_nth,if_pos hj'];rfl
theorem lyRk_bd{l:List Int}(hs:okShape l){k:Nat}(hk:k<l.length){x:Int}(hx:0≤x∧x<nth l k)(j:Nat)(hj:j<(lyRk l k x).length):0≤nth (lyRk l k x) j∧nth (lyRk l k x) j<vol l:=by
 rw[lyRk_length]at hj;rw[lyRk_nth _ _ _ _ hj];have hin:=foldL_in hk hx (idx_in (foldS l k) j (foldS_sized hs.2.1 hk));rw[rank_in hin];have:=rank_bd l _ hs.2.1 (fun q hq=>hin.2 q hq) l.length (Nat.le_refl _);rw[List.take_length]at this;exact this
theorem layer_read{σ:Sp}{a:Arr}{c:List Int}(hs:okShape a.shape)(hl:(a.cells.length:Int)=vol a.shape)(hc:(a.cells.map fun q=>nth c q.toNat)=σ.valuesOf a){k:Nat}(hk:k<a.shape.length){x:Nat}(hx:(x:Int)<nth a.shape k):((picked a.cells (lyRk a.shape k x)).map fun p=>nth c p.toNat)=mkL (vol (foldS a.shape k)).toNat fun r=>σ.along a k r x:=by
 rw[←picked_layer];refine ext_nth (by simp[picked]) (fun j hj=>?_);have hj':j<(lyRk a.shape k x).length:=by simpa[picked]using hj
 have hb:=lyRk_bd hs hk (x:=(x:Int)) ⟨by omega,hx⟩ j hj';rw[map_nth _ _ _ (by simpa[picked]using hj'),picked_nth _ _ _ hj',picked_nth _ _ _ hj',←hc,map_nth _ _ _ (by omega)]
theorem xc_fold{T:Tags}{o:Nat}{w:World}{p:Nat}{σ:Sp}(op h axis:Int)(hR:XRep T o w p σ)(hm:σ.arrs.length+1≤100000000)(hb:σ.bufs.length+1≤100000000):Calls Tryz.prog 30 #[.pointer (some ⟨p,0,none⟩),.int .i64 op,.int .i64 h,.int .i64 axis] w fun e w'=>e=.returned (.tuple #[.int .i64 (σ.fold op h axis).2.1,.int .i64 (σ.fold op h axis).2.2])∧Step XRep T o w p (σ.fold op h axis).1 w':=by
 have hR':=hR;obtain⟨hok,L,X,hX,hT⟩:=hR;by_cases hop:op<1∨5<op∨op=2
 ·have hres:σ.fold op h axis=(σ,0,1):=by simp[Sp.fold,hop]
  rw[hres];refine(xFold_op p op h axis w hop).mono ?_;rintro e w' ⟨rfl,hk⟩;exact⟨rfl,hR'.stay hk⟩
 have h1:1≤op:=by omega
 have h5:op≤5:=by omega
 have h2:op≠2:=by omega
 cases hf:σ.find h with
 |none=>
  have hres:σ.fold op h axis=(σ,0,2):=by simp[Sp.fold,hop,hf]
  rw[hres];refine(xFold_none hX op h axis h1 h5 h2 (hT.non h hf)).mono ?_;rintro e w' ⟨rfl,hk⟩;exact⟨rfl,hR'.stay hk⟩
 |some a=>
  obtain⟨x,hA,hx⟩:=hT.som h a hf;have ha:=kind_of hok hf;have hkd:x.kind=1∨x.kind=2:=by rw[hx.kind];exact ha.kind
  by_cases hax:axis<0∨(a.shape.length:Int)≤axis
  ·have hres:σ.fold op h axis=(σ,0,5):=by simp[Sp.fold,hop,hf,hax]
   rw[hres];refine(xFold_axis hX op h axis h1 h5 h2 x hA hkd hx.g.shape.1 (by rw[hx.l];exact hax)).mono ?_;rintro e w' ⟨rfl,hk⟩;exact⟨rfl,hR'.stay hk⟩
  ·obtain⟨k,rfl⟩:∃k:Nat,axis=(k:Int):=⟨axis.toNat,by omega⟩
   have hk:k<a.shape.length:=by omega
   have hkx:k<x.l.length:=by rw[hx.l];exact hk
   have hs:okShape a.shape:=ha.shape;have hs':=foldS_ok hs hk;have hsb:shapeB (foldS a.shape k)=true:=(shapeB_iff _).2 hs';have h6:=hs.2.1 k hk;obtain⟨N,hN⟩:∃N:Nat,nth a.shape k=(N:Int):=⟨(nth a.shape k).toNat,by omega⟩;have hNx:nth x.l k=(N:Int):=by rw[hx.l];exact hN
   have hNb:1≤N∧N≤60:=by omega
   have hbd:=hx.g.bds;obtain⟨m,hmm⟩:∃m,(vol (foldS a.shape k)).toNat=m:=⟨_,rfl⟩;have hm1:1≤m∧m≤3600:=by have:=vol_pos_of hs'.2.1;have:=hs'.2.2;omega
   obtain⟨VQ,hVQ⟩:∃VQ:Nat→List Int,VQ=fun q=>mkL m fun r=>σ.along a k r q:=⟨_,rfl⟩
   obtain⟨FV,hFV⟩:∃FV:Nat→List Int,FV=fun q=>mkL m fun r=>foldV op a.kind (σ.along a k r) q:=⟨_,rfl⟩
   obtain⟨P,hP⟩:∃P:Nat→List Int,P=fun q:Nat=>picked a.cells (lyRk a.shape k q):=⟨_,rfl⟩
   have hVl:∀q,(VQ q).length=m:=fun q=>by rw[hVQ];exact mkL_length _ _
   have hFl:∀q,(FV q).length=m:=fun q=>by rw[hFV];exact mkL_length _ _
   have hPl:∀q,(P q).length=m:=fun q=>by rw[hP];simp[picked,lyRk_length,hmm]
   have hVn:∀q j,j<m→nth (VQ q) j=σ.along a k j q:=fun q j hj=>by rw[hVQ];simp only;rw[mkL_nth,if_pos hj]
   have hFn:∀q j,j<m→nth (FV q) j=foldV op a.kind (σ.along a k j) q:=fun q j hj=>by rw[hFV];simp only;rw[mkL_nth,if_pos hj]
   have z0:inK a.kind 0:=⟨by simp[IntKind.wrap,IntKind.signed,IntKind.bits],fun _=>by omega⟩;have hal:∀r q,inK a.kind (σ.along a k r q):=fun r q=>hT.valuesIn ha _
   have hin:∀q j,inK a.kind (nth (VQ q) j):=fun q j=>by
    by_cases hj:j<m
    ·rw[hVn q j hj];exact hal j q
    ·rw[nth_out (by rw[hVl];omega)];exact z0
   have hFin:∀q j,inK a.kind (nth (FV q) j):=fun q j=>by
    by_cases hj:j<m
    ·rw[hFn q j hj];exact foldV_in ha.kind (fun x=>hal j x) q
    ·rw[nth_out (by rw[hFl];omega)];exact z0
   have hPin:∀i,i<N→∀j,j<(P i).length→0≤nth (P i) j∧nth (P i) j<σ.cap a.kind:=fun i hi j hj=>by
    rw[hP]at hj⊢;simp only at hj⊢;have hj':j<(lyRk a.shape k i).length:=by simpa[picked]using hj
    have hbq:=lyRk_bd hs hk (x:=(i:Int)) (by rw[hN];omega) j hj';rw[picked_nth _ _ _ hj'];exact ha.inside _ (by have:=ha.length;omega)
   have hCells:∀W i,i<N→Calls Tryz.prog 60 #[.agg (grC (foldS x.l k) (foldS x.t k) (x.f+(i:Int)*nth x.t k)).toArray] W fun e w'=>∃ao c,e=.returned (.slice ao m c)∧Kp0 W w'∧Fr W.heap.size w' (.slice ao m c) (P i):=fun W i hi=>by
    have hq:0≤(i:Int)∧(i:Int)<nth x.l k:=by rw[hNx];omega
    refine(xcells_calls (foldS x.l k) (foldS x.t k) (x.f+(i:Int)*nth x.t k) _ W (layer_ok hx.g hkx hq)).mono ?_;rintro e w' ⟨v,rfl,hn⟩;rw[layer_cells hx.g hkx hq,hx.cells,hx.l,show picked a.cells (lyRk a.shape k i)=P i by rw[hP]]at hn;obtain⟨ao,c,rfl,k',hfr⟩:=hn.fr;rw[hPl]at hfr⊢;exact⟨ao,c,rfl,k',hfr⟩
   have hne:FV (N-1)≠[]:=fun e=>by have:=hFl (N-1);rw[e]at this;simp at this;omega
   have hX1:=hX.tags (retag_to w T (o+1,0));have hS1:∀b,(retag w T (o+1,0) b).1=o→b<w.heap.size:=fun b e=>by
    rcases Nat.lt_or_ge b w.heap.size with h1|h1
    ·exact h1
    ·rw[retag_new h1]at e;simp at e
   have hres:σ.fold op h k=σ.fresh a.kind (foldS a.shape k) (fun i=>asK a.kind (nth (FV (N-1)) i)):=by
    have e0:σ.fold op h k=σ.fresh a.kind (foldS a.shape k) (fun r=>asK a.kind (σ.folded op a k r)):=by
     unfold Sp.fold;rw[if_neg hop,hf];simp only;rw[if_neg hax,Int.toNat_natCast]
    rw[e0];refine fresh_congr (fun j hj=>?_);rw[hmm]at hj;rw[hFn _ j hj];unfold Sp.folded;rw[hN,Int.toNat_natCast];rfl
   have hF0:FV 0=VQ 0:=by rw[hFV,hVQ];rfl
   rcases ha.kind with hk1|hk2
   ·have heq:=read_eq hx hf ha (c:=X.c1) (bs:=X.b1) (by rw[hk1];exact hT.k1)
    rw[hk1]at hres hin hFin;rw[hres];refine(xFoldOkB hX op h k N x hA (by rw[hx.kind,hk1]) h1 h5 h2 hNb.1 (foldS x.l k) (foldS x.t k) (fun q=>x.f+(q:Int)*nth x.t k) m (FV (N-1)) (hid hS1) (R:=fun r b w'=>(r=(σ.fresh 1 (foldS a.shape k) fun i=>asK 1 (nth (FV (N-1)) i)).2.1∧b=(σ.fresh 1 (foldS a.shape k) fun i=>asK 1 (nth (FV (N-1)) i)).2.2)∧Step XRep T o w p (σ.fresh 1 (foldS a.shape k) fun i=>asK 1 (nth (FV (N-1)) i)).1 w') (hid (fun W _=>xLayers_yes x.l x.t x.f k N W _ hx.g hkx hNx hbd.2 (hbd.1 k hkx))) (hid (fun W g cur kW hg ht=>?_)) (hid (fun W vv kW hfr=>?_))).mono ?_
    ·refine xfoldLayersB op L.q1 g N hNb cur (foldS x.l k) (foldS x.t k) (fun q=>x.f+(q:Int)*nth x.t k) W P VQ FV m (hid hg) (hid ht) (hid (fun W2 i hi=>hCells W2 i hi)) (hid (fun W2 i vp hi k2 hrd=>?_)) (hid (fun W2 i v0 v1 hi k2 hv0 hv1=>?_)) (hid hF0)
     ·refine(xReadB_calls (hX.kp0 (Kp0.trans kW k2)).s1 (P i) vp hrd (fun j hj=>?_) (hT.k1.wrap (.inl rfl)) (by rw[hPl];omega)).mono ?_
      ·have:=hPin i hi j hj
       rw[hk1]at this;rw[hT.k1.len];exact this
      ·rintro e w' ⟨v,rfl,hn⟩
       rw[show((P i).map fun p=>nth X.c1 p.toNat)=VQ i by rw[hP,hVQ,←hmm];exact layer_read hs ha.length heq hk (by rw[hN];omega)]at hn;obtain⟨ao,c,rfl,k',hfr⟩:=hn.fr;rw[hVl]at hfr⊢;exact⟨ao,c,rfl,k',hfr⟩
     ·refine(xCombineB_calls (hX.kp0 (Kp0.trans kW k2)).s1 op h1 h5 (FV i) (VQ (i+1)) v0 v1 hv0.1 hv1.1 (by rw[hVl,hFl]) (by rw[hFl];omega) (fun j _=>(hFin i j).1) (fun j _=>(hin (i+1) j).1)).mono ?_
      rintro e w' ⟨v,rfl,hn⟩;have e1:(mkL (FV i).length fun j=>opWB op (IntKind.wrap .u8 (nth (FV i) j)) (IntKind.wrap .u8 (nth (VQ (i+1)) j)))=FV (i+1):=by
       refine ext_nth (by rw[mkL_length,hFl,hFl]) (fun j hj=>?_);rw[mkL_length,hFl]at hj;rw[mkL_nth,if_pos (by rw[hFl];exact hj),opWB_eq (hFin i j) (hin (i+1) j),hFn i j hj,hFn (i+1) j hj,hVn (i+1) j hj,hk1];rfl
      rw[e1]at hn;obtain⟨ao,c,rfl,k',hfr⟩:=hn.fr;rw[hFl]at hfr⊢;exact⟨ao,c,rfl,k',hfr⟩
    ·have hvo:∀b,vv.ownBlock=some b→(retag w T (o+1,0) b).1≠o∧b<W.heap.size:=fun b e=>⟨by rw[retag_new (hfr.2 b e)];simp,hfr.1.lt hne e⟩
     rw[hx.l];refine(xc_makeOfB (foldS a.shape k) hok (hX1.kp0 kW) hT hsb hm hb (FV (N-1)) ((hFl _).trans hmm.symm) (fun j=>(hFin _ j).1) vv hfr.1 hvo).mono ?_;rintro e w' ⟨r,b,rfl,hrb,hst⟩;exact⟨r,b,rfl,⟨hrb,hst.untag kW⟩,hst.choose_spec.2.2⟩
    ·rintro e w' ⟨r,b,rfl,⟨rfl,rfl⟩,hst⟩
     exact⟨rfl,hst⟩
   ·have heq:=read_eq hx hf ha (c:=X.c2) (bs:=X.b2) (by rw[hk2];exact hT.k2)
    rw[hk2]at hres hin hFin;rw[hres];refine(xFoldOkI hX op h k N x hA (by rw[hx.kind,hk2]) h1 h5 h2 hNb.1 (foldS x.l k) (foldS x.t k) (fun q=>x.f+(q:Int)*nth x.t k) m (FV (N-1)) (hid hS1) (R:=fun r b w'=>(r=(σ.fresh 2 (foldS a.shape k) fun i=>asK 2 (nth (FV (N-1)) i)).2.1∧b=(σ.fresh 2 (foldS a.shape k) fun i=>asK 2 (nth (FV (N-1)) i)).2.2)∧Step XRep T o w p (σ.fresh 2 (foldS a.shape k) fun i=>asK 2 (nth (FV (N-1)) i)).1 w') (hid (fun W _=>xLayers_yes x.l x.t x.f k N W _ hx.g hkx hNx hbd.2 (hbd.1 k hkx))) (hid (fun W g cur kW hg ht=>?_)) (hid (fun W vv kW hfr=>?_))).mono ?_
    ·refine xfoldLayersI op L.q2 g N hNb cur (foldS x.l k) (foldS x.t k) (fun q=>x.f+(q:Int)*nth x.t k) W P VQ FV m (hid hg) (hid ht) (hid (fun W2 i hi=>hCells W2 i hi)) (hid (fun W2 i vp hi k2 hrd=>?_)) (hid (fun W2 i v0 v1 hi k2 hv0 hv1=>?_)) (hid hF0)
     ·refine(xReadI_calls (hX.kp0 (Kp0.trans kW k2)).s2 (P i) vp hrd (fun j hj=>?_) (hT.k2.wrap (.inr rfl)) (by rw[hPl];omega)).mono ?_
      ·have:=hPin i hi j hj
       rw[hk2]at this;rw[hT.k2.len];exact this
      ·rintro e w' ⟨v,rfl,hn⟩
       rw[show((P i).map fun p=>nth X.c2 p.toNat)=VQ i by rw[hP,hVQ,←hmm];exact layer_read hs ha.length heq hk (by rw[hN];omega)]at hn;obtain⟨ao,c,rfl,k',hfr⟩:=hn.fr;rw[hVl]at hfr⊢;exact⟨ao,c,rfl,k',hfr⟩
     ·refine(xCombineI_calls (hX.kp0 (Kp0.trans kW k2)).s2 op h1 h5 (FV i) (VQ (i+1)) v0 v1 hv0.1 hv1.1 (by rw[hVl,hFl]) (by rw[hFl];omega) (fun j _=>(hFin i j).1) (fun j _=>(hin (i+1) j).1)).mono ?_
      rintro e w' ⟨v,rfl,hn⟩;have e1:(mkL (FV i).length fun j=>opWI op (IntKind.wrap .i64 (nth (FV i) j)) (IntKind.wrap .i64 (nth (VQ (i+1)) j)))=FV (i+1):=by
       refine ext_nth (by rw[mkL_length,hFl,hFl]) (fun j hj=>?_);rw[mkL_length,hFl]at hj;rw[mkL_nth,if_pos (by rw[hFl];exact hj),opWI_eq (hFin i j) (hin (i+1) j),hFn i j hj,hFn (i+1) j hj,hVn (i+1) j hj,hk2];rfl
      rw[e1]at hn;obtain⟨ao,c,rfl,k',hfr⟩:=hn.fr;rw[hFl]at hfr⊢;exact⟨ao,c,rfl,k',hfr⟩
    ·have hvo:∀b,vv.ownBlock=some b→(retag w T (o+1,0) b).1≠o∧b<W.heap.size:=fun b e=>⟨by rw[retag_new (hfr.2 b e)];simp,hfr.1.lt hne e⟩
     rw[hx.l];refine(xc_makeOfI (foldS a.shape k) hok (hX1.kp0 kW) hT hsb hm hb (FV (N-1)) ((hFl _).trans hmm.symm) (fun j=>(hFin _ j).1) vv hfr.1 hvo).mono ?_;rintro e w' ⟨r,b,rfl,hrb,hst⟩;exact⟨r,b,rfl,⟨hrb,hst.untag kW⟩,hst.choose_spec.2.2⟩
    ·rintro e w' ⟨r,b,rfl,⟨rfl,rfl⟩,hst⟩
     exact⟨rfl,hst⟩
end Go.Proofs.YticbbncdcannlaaGreat
