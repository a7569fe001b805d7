import Derived.Test.YticbbncdcannlaaGreatG11
import Derived.Test.YticbbncdcannlaaGreatG16
set_option maxRecDepth 100000
set_option maxHeartbeats 8000000
namespace Go.Proofs.YticbbncdcannlaaGreat
open Go.RowKit
theorem Tryz.infoBf:(Tryz.prog.info? 252).map (fun i=>(i.zero,i.size,i.bytes))=some (some (.agg #[.int .i64 0,.int .i64 0]),2,16):=by kernel_rfl
theorem Tryz.zeroBuf(w:World):(zeroValue 252).run Tryz.prog w=.ok (.agg #[.int .i64 0,.int .i64 0]) w:=by kernel_rfl
theorem Tryz.szBuf:(Tryz.prog.info? 252).map (·.size)=some 2:=by kernel_rfl
theorem BsAt.row{w:World}{vb:Value}{bs:List (Int×Int)}(h:BsAt w vb bs)(hp:0<bs.length):∃g cap cur,vb=.slice (some ⟨g,0,none⟩) bs.length cap∧w.heap[g]? =some (.cells cur 252 (0,0))∧bs.length≤cap∧cap≤maxLen∧cur.size=cap*2∧cur.toList.take (bs.length*2)=bs.flatMap bufRow:=by
 rcases h.2 with⟨_,h0⟩|⟨g,cap,cur,h1,_,h2,h3,h4,h5,h6⟩
 ·omega
 ·exact⟨g,cap,cur,h1,h2,h3,h4,h5,h6⟩
theorem flat_one(bs:List (Int×Int)):∀v∈bs.flatMap bufRow,v.oneCell'=true:=by
 intro v hv;obtain⟨b,_,h⟩:=List.mem_flatMap.1 hv;simp[bufRow]at h;rcases h with rfl|rfl<;>rfl
theorem flat_take(bs:List (Int×Int))(i:Nat):(bs.take i).flatMap bufRow=(bs.flatMap bufRow).take (i*2):=by
 induction bs generalizing i with
 |nil=>simp
 |cons b bs ih=>
  cases i with
  |zero=>simp
  |succ i=>simp[ih,bufRow,Nat.succ_mul]
theorem flat_drop(bs:List (Int×Int))(i:Nat):(bs.drop i).flatMap bufRow=(bs.flatMap bufRow).drop (i*2):=by
 induction bs generalizing i with
 |nil=>simp
 |cons b bs ih=>
  cases i with
  |zero=>simp
  |succ i=>simp[ih,bufRow,Nat.succ_mul]
theorem zeroTwo:(Builtin.zeroCells (Value.agg #[.int .i64 0,.int .i64 0]).cells 1).toList=[.int .i64 0,.int .i64 0]:=by kernel_rfl
theorem laidAt_take{cur:Array Value}{o:Nat}{cs:List Value}(h:o≤cur.size):(laidAt cur o cs).toList.take o=cur.toList.take o:=by
 unfold laidAt;rw[List.toList_toArray,List.append_assoc,List.take_append_of_le_length (by simp;omega),List.take_take,Nat.min_self]
theorem laidAt_take2{cur:Array Value}{o k:Nat}{cs:List Value}(h:o≤cur.size)(hk:k=o+cs.length):(laidAt cur o cs).toList.take k=cur.toList.take o++cs:=by
 unfold laidAt;rw[List.toList_toArray,List.take_append_of_le_length (by simp;omega),List.take_of_length_le (by simp;omega)]
theorem del_list{cur:Array Value}{bs:List (Int×Int)}{n i m c:Nat}(hS:cur.size=c*2)(hN:bs.length=n)(hn:n≤c)(hT:cur.toList.take (n*2)=bs.flatMap bufRow)(hi:i<n)(hm:m+1=n)(zz:List Value)(_hz:zz.length=2):(laidAt (laidAt cur (i*2) ((bs.drop (i+1)).flatMap bufRow)) (m*2) zz).toList.take (m*2)=(bs.take i++bs.drop (i+1)).flatMap bufRow:=by
 have hl:((bs.drop (i+1)).flatMap bufRow).length=(n-(i+1))*2:=by rw[bufRow_length,List.length_drop,hN]
 rw[laidAt_take (by rw[laidAt_size (by rw[hl,hS];omega),hS];omega),laidAt_take2 (by omega) (by rw[hl];omega),List.flatMap_append,flat_take,←hT,List.take_take,Nat.min_eq_left (by omega)]
theorem xdelete_last(g i:Nat)(cur:Array Value)(w:World)(bs:List (Int×Int))(HG:Hid (w.heap[g]? =some (.cells cur 252 (0,0))))(hc:i+1≤9223372036854775807)(HS:Hid (cur.size=(i+1)*2))(HN:Hid (bs.length=i+1))(HT:Hid (cur.toList.take ((i+1)*2)=bs.flatMap bufRow)):Calls Tryz.prog 203 #[.slice (some ⟨g,0,none⟩) (i+1) (i+1),.int .i64 (i:Int),.int .i64 ((i:Int)+1)] w fun e w'=>e=.returned (.slice (some ⟨g,0,none⟩) i (i+1))∧Kp (fun b=>b=g) w w'∧∃cur':Array Value,w'.heap[g]? =some (.cells cur' 252 (0,0))∧cur'.size=(i+1)*2∧cur'.toList.take (i*2)=(bs.take i).flatMap bufRow:=by
 have d1:((i:Int)==(i:Int)+1)=false:=by rw[beq_eq_false_iff_ne];omega
 have hb4:(0:Int)≤(i:Int)+1:=by omega
 have hb5:((i:Int)+1).toNat=i+1:=by omega
 have hb6:i≤i+1:=by omega
 have hb7:¬i+1=i:=by omega
 have hb8:(i:Int)≤(i:Int)+1:=by omega
 go_enter Tryz.func203,Tryz.ntmps203
 go_wp2_with fail
 obtain⟨i0,hi0,hz0,hz1,hz2⟩:=info_parts Tryz.infoBf;have HI0:=hid hi0;have HZ1:=hid hz1;clear hi0 hz0 hz1 hz2;have HL:Hid (([]:List Value).length=0*i0.size):=hid (by simp);have HF:Hid (i*i0.size+([]:List Value).length≤cur.size):=hid (by rw[HZ1.out,HS.out];simp;omega)
 go_region_law ((refine step_appRoom (by rfl) (.tmp 22) (.tmp 25) 197 252 i0 (by rfl) Tryz.underlying197 HI0.out g i (i+1) cur HG.out ⟨g,0,none⟩ 0 0 [] (by simp[Act.eval,Act.put]) (by simp[Act.eval,Act.put]) HL.out (by simp) (by simp) (by omega) HF.out ?_;intro w7 hB7 hK7))
 all_goals
  rw[HZ1.out]at hB7;have HB7:=hid hB7;have HK7:Hid (Kp (fun b=>b=g) w w7):=⟨hK7.os,hK7.tape,hK7.output,hK7.size,hK7.block⟩;have HSZ:Hid ((laidAt cur (i*2) []).size=(i+1)*2):=hid (by rw[laidAt_size (by rw[HS.out];simp;omega)];exact HS.out);clear hB7 hK7;simp only[Act.put,List.setIfInBounds_toArray];obtain⟨w8,hcl,HB8,HK8⟩:∃w8,(∀ty k,(Builtin.clear_ #[197] ty #[.slice (some ⟨g,i*2,none⟩) 1 k]).run Tryz.prog w7=.ok (.tuple #[]) w8)∧Hid (w8.heap[g]? =some (.cells (laidAt (laidAt cur (i*2) []) (i*2) [.int .i64 0,.int .i64 0]) 252 (0,0)))∧Hid (Kp (fun b=>b=g) w7 w8):=
   ⟨_,fun ty k=>run_clearN w7 _ _ ty _ Tryz.underlying197 Tryz.zeroBuf g (i*2) 1 k (by omega) _ _ [.int .i64 0,.int .i64 0] zeroTwo HB7.out (by rw[HSZ.out];simp;omega) (by simp[Value.oneCell']),setRow_new HB7.out,setRow_kp HB7.out⟩
  go_wp2
  go_ret;refine⟨rfl,Kp.trans HK7.out HK8.out (fun _ _ h=>h),_,HB8.out,by rw[laidAt_size (by rw[HSZ.out];simp;omega)];exact HSZ.out,?_⟩;have h0:=del_list HS.out HN.out (Nat.le_refl _) HT.out (Nat.lt_succ_self i) rfl [.int .i64 0,.int .i64 0] rfl;rw[List.drop_of_length_le (Nat.le_of_eq HN.out),List.append_nil]at h0;exact h0
theorem xdelete_walk(g n c i:Nat)(cur:Array Value)(w:World)(bs:List (Int×Int))(HG:Hid (w.heap[g]? =some (.cells cur 252 (0,0))))(hi:i<n)(hn:n≤c)(hc:c≤9223372036854775807)(HS:Hid (cur.size=c*2))(HN:Hid (bs.length=n))(HT:Hid (cur.toList.take (n*2)=bs.flatMap bufRow)):Calls Tryz.prog 203 #[.slice (some ⟨g,0,none⟩) n c,.int .i64 (i:Int),.int .i64 ((i:Int)+1)] w fun e w'=>e=.returned (.slice (some ⟨g,0,none⟩) (n-1) c)∧Kp (fun b=>b=g) w w'∧∃cur':Array Value,w'.heap[g]? =some (.cells cur' 252 (0,0))∧cur'.size=c*2∧cur'.toList.take ((n-1)*2)=(bs.take i++bs.drop (i+1)).flatMap bufRow:=by
 have d1:((i:Int)==(i:Int)+1)=false:=by rw[beq_eq_false_iff_ne];omega
 by_cases hci:c=i+1
 ·subst hci
  obtain rfl:n=i+1:=by omega
  refine(xdelete_last g i cur w bs HG (by omega) HS HN HT).mono ?_;rintro e w' ⟨rfl,hk,cur',h1,h2,h3⟩;refine⟨by simp,hk,cur',h1,h2,?_⟩;rw[List.drop_of_length_le (Nat.le_of_eq HN.out),List.append_nil];simpa using h3
 ·have hci2:¬c=i+1:=hci
  have hb1:i≤c:=by omega
  have hb2:i+1≤n:=by omega
  have hb3:(i:Int)+1≤(n:Int):=by omega
  have hb4:(0:Int)≤(i:Int)+1:=by omega
  have hb5:((i:Int)+1).toNat=i+1:=by omega
  go_enter Tryz.func203,Tryz.ntmps203
  go_wp2_with fail
  obtain⟨i0,hi0,hz0,hz1,hz2⟩:=info_parts Tryz.infoBf;have HI0:=hid hi0;have HZ1:=hid hz1;clear hi0 hz0 hz1 hz2;have HL:Hid (((bs.drop (i+1)).flatMap bufRow).length=(n-(i+1))*i0.size):=hid (by rw[bufRow_length,HZ1.out,List.length_drop,HN.out]);have HNW:Hid (∀j u,((bs.drop (i+1)).flatMap bufRow)[j]? =some u→w.cell? ((⟨g,(i+1)*2,none⟩:Addr).add j)=some u):=hid (fun j u hj=>by
   rw[Addr.add_lit,cell_of_row _ _ _ _ _ _ HG.out];rw[flat_drop,←HT.out,List.getElem?_drop,List.getElem?_take]at hj;split at hj
   ·simpa using hj
   ·cases hj)
  have HF:Hid (i*i0.size+((bs.drop (i+1)).flatMap bufRow).length≤cur.size):=hid (by rw[bufRow_length,HZ1.out,List.length_drop,HN.out,HS.out];omega)
  go_region_law ((refine step_appRoom (by rfl) (.tmp 22) (.tmp 25) 197 252 i0 (by rfl) Tryz.underlying197 HI0.out g i c cur HG.out ⟨g,(i+1)*2,none⟩ (n-(i+1)) (c-(i+1)) _ (by simp[Act.eval,Act.put]) (by simp[Act.eval,Act.put]) HL.out HNW.out (flat_one _) (by omega) HF.out ?_;intro w7 hB7 hK7))
  obtain⟨m,hm⟩:∃m,m=i+(n-(i+1)):=⟨_,rfl⟩;rw[←hm];have m1:m+1=n:=by omega
  have m2:(m:Int)≤(n:Int):=by omega
  have m3:m≤n:=by omega
  have m4:n-m=1:=by omega
  have m5:¬c=m:=by omega
  have m6:m≤c:=by omega
  rw[HZ1.out]at hB7;have HB7:=hid hB7;have HK7:Hid (Kp (fun b=>b=g) w w7):=⟨hK7.os,hK7.tape,hK7.output,hK7.size,hK7.block⟩;have HSZ:Hid ((laidAt cur (i*2) ((bs.drop (i+1)).flatMap bufRow)).size=c*2):=hid (by rw[laidAt_size (by rw[←HZ1.out];exact HF.out)];exact HS.out);clear hm hB7 hK7;simp only[Act.put,List.setIfInBounds_toArray];obtain⟨w8,hcl,HB8,HK8⟩:∃w8,(∀ty k,(Builtin.clear_ #[197] ty #[.slice (some ⟨g,m*2,none⟩) 1 k]).run Tryz.prog w7=.ok (.tuple #[]) w8)∧Hid (w8.heap[g]? =some (.cells (laidAt (laidAt cur (i*2) ((bs.drop (i+1)).flatMap bufRow)) (m*2) [.int .i64 0,.int .i64 0]) 252 (0,0)))∧Hid (Kp (fun b=>b=g) w7 w8):=
   ⟨_,fun ty k=>run_clearN w7 _ _ ty _ Tryz.underlying197 Tryz.zeroBuf g (m*2) 1 k (by omega) _ _ [.int .i64 0,.int .i64 0] zeroTwo HB7.out (by rw[HSZ.out];simp;omega) (by simp[Value.oneCell']),setRow_new HB7.out,setRow_kp HB7.out⟩
  go_wp2
  go_ret;refine⟨by rw[show n-1=m by omega];rfl,Kp.trans HK7.out HK8.out (fun _ _ h=>h),_,HB8.out,by rw[laidAt_size (by rw[HSZ.out];simp;omega)];exact HSZ.out,?_⟩;rw[show n-1=m by omega];exact del_list HS.out HN.out hn HT.out hi m1 _ rfl
theorem xdelete_calls{w:World}{vb:Value}{bs:List (Int×Int)}(h:BsAt w vb bs)(i:Nat)(hi:i<bs.length):Calls Tryz.prog 203 #[vb,.int .i64 (i:Int),.int .i64 ((i:Int)+1)] w fun e w'=>∃vb',e=.returned vb'∧BsAt w' vb' (bs.take i++bs.drop (i+1))∧vb'.ownBlock=vb.ownBlock∧(∃ao n c,vb'=.slice ao n c∧∃n',vb=.slice ao n' c)∧Kp (fun b=>vb.ownBlock=some b) w w':=by
 obtain⟨g,cap,cur,rfl,hg,h1,h2,h3,h4⟩:=h.row (by omega);refine(xdelete_walk g bs.length cap i cur w bs hg hi h1 (by unfold maxLen at h2;omega) h3 rfl h4).mono ?_;rintro e w' ⟨rfl,hk,cur',h5,h6,h7⟩;have hl:(bs.take i++bs.drop (i+1)).length=bs.length-1:=by simp;omega
 refine⟨_,rfl,?_,rfl,⟨_,_,_,rfl,_,rfl⟩,?_⟩
 ·refine⟨by rw[bufRow_length],.inr ⟨g,cap,cur',by rw[hl],Nat.zero_le _,h5,by omega,h2,h6,by rw[hl];exact h7⟩⟩
 ·exact hk.mono (fun b _ e=>by rw[e];rfl)
end Go.Proofs.YticbbncdcannlaaGreat
