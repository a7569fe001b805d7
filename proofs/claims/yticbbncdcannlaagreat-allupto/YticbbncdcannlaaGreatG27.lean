import Derived.Lib.Overlaps
import Derived.Laws.Externs
import Derived.Test.YticbbncdcannlaaGreatG26
set_option maxRecDepth 100000
set_option maxHeartbeats 8000000
namespace Go.Proofs.YticbbncdcannlaaGreat
open Go.RowKit
theorem run_ins_end{w:World}{vb:Value}{bs:List (Int×Int)}(h:BsAt w vb bs)(hl:bs.length≤1000000000)(x:Int×Int)(g:Nat)(hv:w.heap[g]? =some (.cells #[.int .i64 x.1,.int .i64 x.2] 252 (0,0)))(ty:TypeId):∃vb' w',(Builtin.append_ #[197,197] ty #[vb,.slice (some ⟨g,0,none⟩) 1 1]).run Tryz.prog w=.ok vb' w'∧BsAt w' vb' (bs++[x])∧Kp (fun b=>vb.ownBlock=some b) w w'∧∀b,vb'.ownBlock=some b→vb.ownBlock=some b∨w.heap.size≤b:=by
 obtain⟨i,hi,hz0,hz1,hz2⟩:=info_parts Tryz.infoBf;obtain⟨g',cap',w',h1,h2,h3,h4,h5⟩:=run_append_lies (P:=Tryz.prog) w 197 ty 0 252 i _ 2 16 Tryz.underlying197 hi hz0 hz1 hz2 rfl (by omega) _ _ _ h ⟨g,0,none⟩ 1 1 (bufRow x) rfl
  (by
   intro j u hu;rw[Addr.add_lit,cell_of_row _ _ _ _ _ _ hv,Nat.zero_add];simpa[bufRow]using hu)
  (by intro u hu;simp[bufRow]at hu;rcases hu with rfl|rfl<;>rfl) (by omega) (by unfold maxLen;omega) (by omega) (Nat.zero_le _) w.heap.size rfl
 refine⟨_,w',h1,?_,Kp.grown (Kp.refl _ w) h3 (fun k hk _=>hk),fun b hb=>?_⟩
 ·unfold BsAt
  rw[List.length_append,List.flatMap_append];simpa using h2
 ·simp[Value.ownBlock]at hb
  subst hb;rcases h4 with h4|h4
  ·exact .inl h4
  ·exact .inr (by omega)
theorem xinsert_end{w:World}{vb:Value}{bs:List (Int×Int)}(h:BsAt w vb bs)(hl:bs.length≤1000000000)(x:Int×Int)(g:Nat)(hv:w.heap[g]? =some (.cells #[.int .i64 x.1,.int .i64 x.2] 252 (0,0))):Calls Tryz.prog 206 #[vb,.int .i64 (bs.length:Int),.slice (some ⟨g,0,none⟩) 1 1] w fun e w'=>∃vb',e=.returned vb'∧BsAt w' vb' (bs++[x])∧Kp (fun b=>vb.ownBlock=some b) w w'∧∀b,vb'.ownBlock=some b→vb.ownBlock=some b∨w.heap.size≤b:=by
 have HR:Hid (∀ty,∃vb' w',(Builtin.append_ #[197,197] ty #[vb,.slice (some ⟨g,0,none⟩) 1 1]).run Tryz.prog w=.ok vb' w'∧BsAt w' vb' (bs++[x])∧Kp (fun b=>vb.ownBlock=some b) w w'∧∀b,vb'.ownBlock=some b→vb.ownBlock=some b∨w.heap.size≤b):=fun ty=>run_ins_end h hl x g hv ty
 obtain⟨ao,cap,hvb,hcap,-⟩:=h.form;have hcm:cap≤9223372036854775807:=by
  rcases h.2 with⟨e,_⟩|⟨_,c2,_,e,_,_,_,h4,_⟩
  ·rw[hvb]at e;simp at e;omega
  ·rw[hvb]at e;simp at e;unfold maxLen at h4;omega
 subst hvb;obtain⟨n,hn⟩:∃n,n=bs.length:=⟨_,rfl⟩;rw[←hn]at HR hcap hl⊢;clear h hv hn;go_enter Tryz.func206,Tryz.ntmps206
 obtain⟨vb',w',hr,hb,hk,hn'⟩:=HR.out 197;have HB:=hid hb;have HK:=hid hk;have HN:=hid hn';have HRR:=hid hr;clear hb hk hn' hr;cases ao with
 |none=>
  go_wp2_with (at_builtin;refine Lib.wpList_append_run _ rfl _ _ _ _ rfl _ _ rfl rfl _ _ HRR.out ?_)
  go_ret;exact⟨vb',rfl,HB.out,HK.out,HN.out⟩
 |some a=>
  by_cases hcn:cap=n
  ·subst hcn
   go_wp2_with (at_builtin;refine Lib.wpList_append_run _ rfl _ _ _ _ rfl _ _ rfl rfl _ _ HRR.out ?_)
   go_ret;exact⟨vb',rfl,HB.out,HK.out,HN.out⟩
  ·go_wp2_with (at_builtin;refine Lib.wpList_append_run _ rfl _ _ _ _ rfl _ _ rfl rfl _ _ HRR.out ?_)
   go_ret;exact⟨vb',rfl,HB.out,HK.out,HN.out⟩
theorem ins_list{cur:Array Value}{bs:List (Int×Int)}{n i c:Nat}(hS:cur.size=c*2)(hN:bs.length=n)(hn:n+1≤c)(hT:cur.toList.take (n*2)=bs.flatMap bufRow)(hi:i<n)(x:Int×Int):(laidAt (laidAt cur ((i+1)*2) ((bs.drop i).flatMap bufRow)) (i*2) (bufRow x)).toList.take ((n+1)*2)=(bs.take i++[x]++bs.drop i).flatMap bufRow:=by
 have hl:((bs.drop i).flatMap bufRow).length=(n-i)*2:=by rw[bufRow_length,List.length_drop,hN]
 have h1:(laidAt cur ((i+1)*2) ((bs.drop i).flatMap bufRow)).size=cur.size:=laidAt_size (by rw[hl,hS];omega);have e:(laidAt (laidAt cur ((i+1)*2) ((bs.drop i).flatMap bufRow)) (i*2) (bufRow x)).toList=(laidAt cur ((i+1)*2) ((bs.drop i).flatMap bufRow)).toList.take (i*2)++bufRow x++(laidAt cur ((i+1)*2) ((bs.drop i).flatMap bufRow)).toList.drop (i*2+2):=rfl;have e1:(laidAt cur ((i+1)*2) ((bs.drop i).flatMap bufRow)).toList.take (i*2)=(bs.take i).flatMap bufRow:=by
  have:(laidAt cur ((i+1)*2) ((bs.drop i).flatMap bufRow)).toList.take (i*2)=((laidAt cur ((i+1)*2) ((bs.drop i).flatMap bufRow)).toList.take ((i+1)*2)).take (i*2):=by rw[List.take_take,Nat.min_eq_left (by omega)]
  rw[this,laidAt_take (by omega),List.take_take,Nat.min_eq_left (by omega),flat_take,←hT,List.take_take,Nat.min_eq_left (by omega)]
 have e2:((laidAt cur ((i+1)*2) ((bs.drop i).flatMap bufRow)).toList.drop (i*2+2)).take ((n-i)*2)=(bs.drop i).flatMap bufRow:=by
  have h2:=laidAt_take2 (cur:=cur) (o:=(i+1)*2) (k:=(n+1)*2) (cs:=(bs.drop i).flatMap bufRow) (by omega) (by rw[hl];omega);rw[show i*2+2=(i+1)*2 by omega,show(n-i)*2=(n+1)*2-(i+1)*2 by omega,←List.drop_take,h2,List.drop_append_of_le_length (by simp;omega),List.drop_of_length_le (by simp;omega),List.nil_append]
 rw[e,e1,List.take_append,List.flatMap_append,List.flatMap_append];have hl2:((bs.take i).flatMap bufRow++bufRow x).length=i*2+2:=by rw[List.length_append,bufRow_length,List.length_take,hN];simp[bufRow];omega
 rw[hl2,List.take_of_length_le (by rw[hl2];omega),show(n+1)*2-(i*2+2)=(n-i)*2 by omega,e2];simp
theorem shape_of_row{w:World}{g:Nat}{cs:Array Value}{t:TypeId}{fr:Nat×Nat}(h:w.heap[g]? =some (.cells cs t fr)):w.shape? g=some (t,cs.size):=by simp[World.shape?,h]
theorem xinsert_room(g n c i v:Nat)(cur:Array Value)(w:World)(bs:List (Int×Int))(x:Int×Int)(HG:Hid (w.heap[g]? =some (.cells cur 252 (0,0))))(hi:i<n)(hn:n+1≤c)(hc:c≤9223372036854775807)(HS:Hid (cur.size=c*2))(HN:Hid (bs.length=n))(HT:Hid (cur.toList.take (n*2)=bs.flatMap bufRow))(HV:Hid (w.heap[v]? =some (.cells #[.int .i64 x.1,.int .i64 x.2] 252 (0,0))))(hgv:v≠g):Calls Tryz.prog 206 #[.slice (some ⟨g,0,none⟩) n c,.int .i64 (i:Int),.slice (some ⟨v,0,none⟩) 1 1] w fun e w'=>e=.returned (.slice (some ⟨g,0,none⟩) (n+1) c)∧Kp (fun b=>b=g) w w'∧w'.heap[g]? =some (.cells (laidAt (laidAt cur ((i+1)*2) ((bs.drop i).flatMap bufRow)) (i*2) (bufRow x)) 252 (0,0)):=by
 have d1:((i:Int)==(n:Int))=false:=by rw[beq_eq_false_iff_ne];omega
 have d2:decide ((c:Int)<(n:Int)+1)=false:=by simp;omega
 have hov:∀lb cb,(callFunc 208 #[.slice (some ⟨v,0,none⟩) 1 1,.slice (some ⟨g,(i+1)*2,none⟩) lb cb]).run Tryz.prog w=.ok (.value (.bool false)) w:=fun lb cb=>by
  rw[run_callFunc_extern Tryz.func208 (by kernel_rfl) (by kernel_rfl) (by kernel_rfl) (e:=Extern.SlicesOverlaps.overlaps #[197,197] #[4]) (by kernel_rfl),
   Lib.run_overlaps_apart w 197 4 252 Tryz.underlying197 2 (fun w=>by kernel_rfl) ⟨v,0,none⟩ ⟨g,(i+1)*2,none⟩ 1 1 lb cb hgv _ _ _ _ (shape_of_row HV.out) (shape_of_row HG.out) (by rw[HS.out];omega) (frozen_of_row _ _ _ _ _ HV.out) (frozen_of_row _ _ _ _ _ HV.out)]
  rfl
 have e1:¬c=i+1:=by omega
 have e2:¬c=i:=by omega
 have e3:(i:Int)+1≤(n:Int)+1:=by omega
 have e4:((i:Int)+1).toNat=i+1:=by omega
 have e5:(0:Int)≤(i:Int)+1:=by omega
 have e6:(i:Int)≤(n:Int)+1:=by omega
 go_enter Tryz.func206,Tryz.ntmps206
 go_wp2_with (simp only[hov])
 have e7:IntKind.i64.wrap ((i:Int)+1)=(i:Int)+1:=by simp[IntKind.wrap,IntKind.signed,IntKind.bits];omega
 have HCL:Hid (((bs.drop i).flatMap bufRow).length=(n-i)*2):=hid (by rw[bufRow_length,List.length_drop,HN.out]);have HSR:Hid (∀j u,((bs.drop i).flatMap bufRow)[j]? =some u→w.cell? ((⟨g,i*2,none⟩:Addr).add j)=some u):=hid (fun j u hj=>by
  rw[Addr.add_lit,cell_of_row _ _ _ _ _ _ HG.out];rw[flat_drop,←HT.out,List.getElem?_drop,List.getElem?_take]at hj;split at hj
  ·simpa using hj
  ·cases hj)
 have HFT:Hid ((i+1)*2+((bs.drop i).flatMap bufRow).length≤cur.size):=hid (by rw[HCL.out,HS.out];omega);have HMN:Hid (n-i=Nat.min (n+1-i) (n+1-(i+1))):=hid (by simp only[Nat.min_def];split<;>omega)
 go_region_law ((refine step_copyN (by rfl) (.tmp 73) (.tmp 76) 197 197 252 (by rfl) 2 g ((i+1)*2) (n+1-(i+1)) (c-(i+1)) ⟨g,i*2,none⟩ (n+1-i) (c-i) (n-i) cur _ ((bs.drop i).flatMap bufRow) (by simp[Act.eval,Act.put]) (by simp[Act.eval,Act.put]) Tryz.underlying197 Tryz.szBuf HG.out HMN.out HCL.out HSR.out HFT.out (flat_one _) ?_;intro w7 hB7 hK7))
 all_goals
  have HB7:=hid hB7;have HK7:Hid (Kp (fun b=>b=g) w w7):=⟨hK7.os,hK7.tape,hK7.output,hK7.size,hK7.block⟩;have HV7:Hid (w7.heap[v]? =some (.cells #[.int .i64 x.1,.int .i64 x.2] 252 (0,0))):=hK7.heap HV.out hgv;have HSZ:Hid ((laidAt cur ((i+1)*2) ((bs.drop i).flatMap bufRow)).size=c*2):=hid (by rw[laidAt_size HFT.out];exact HS.out);clear hB7 hK7
  (try simp only[Act.put,List.setIfInBounds_toArray,List.set_cons_succ,List.set_cons_zero])
  have HFX:Hid (i*2+(bufRow x).length≤(laidAt cur ((i+1)*2) ((bs.drop i).flatMap bufRow)).size):=hid (by rw[HSZ.out];simp[bufRow];omega);obtain⟨w8,hcp,HB8,HK8⟩:∃w8,(∀ty,(Builtin.copy_ #[197,197] ty #[.slice (some ⟨g,i*2,none⟩) (n+1-i) (c-i),.slice (some ⟨v,0,none⟩) 1 1]).run Tryz.prog w7=.ok (goInt 1) w8)∧Hid (w8.heap[g]? =some (.cells (laidAt (laidAt cur ((i+1)*2) ((bs.drop i).flatMap bufRow)) (i*2) (bufRow x)) 252 (0,0)))∧Hid (Kp (fun b=>b=g) w7 w8):=
   ⟨_,fun ty=>run_copyN w7 _ _ ty 252 2 g (i*2) (n+1-i) (c-i) ⟨v,0,none⟩ 1 1 1 _ _ (bufRow x) Tryz.underlying197 Tryz.szBuf HB7.out (by simp only[Nat.min_def];split<;>omega) rfl (fun j u hu=>by rw[Addr.add_lit,cell_of_row _ _ _ _ _ _ HV7.out,Nat.zero_add];simpa[bufRow]using hu) HFX.out (by intro u hu;simp[bufRow]at hu;rcases hu with rfl|rfl<;>rfl),setRow_new HB7.out,setRow_kp HB7.out⟩
  go_wp2
  go_ret;exact⟨rfl,Kp.trans HK7.out HK8.out (fun _ _ h=>h),HB8.out⟩
theorem grow_list{bs:List (Int×Int)}{n i G:Nat}(hN:bs.length=n)(hi:i<n)(hG:n+1≤G)(x:Int×Int)(row:Array Value)(hr:row.size=G*2)(h0:row.toList.take (i*2)=(bs.take i).flatMap bufRow):(laidAt (laidAt row (i*2) (bufRow x)) ((i+1)*2) ((bs.drop i).flatMap bufRow)).toList.take ((n+1)*2)=(bs.take i++[x]++bs.drop i).flatMap bufRow:=by
 have hl:((bs.drop i).flatMap bufRow).length=(n-i)*2:=by rw[bufRow_length,List.length_drop,hN]
 have h1:(laidAt row (i*2) (bufRow x)).size=G*2:=by rw[laidAt_size (by rw[hr];simp[bufRow];omega),hr]
 rw[laidAt_take2 (by rw[h1];omega) (by rw[hl];omega),List.flatMap_append,List.flatMap_append,laidAt_take2 (o:=i*2) (by omega) (by simp[bufRow];omega),h0];simp
theorem xinsert_grow(g n i v:Nat)(cur:Array Value)(w:World)(bs:List (Int×Int))(x:Int×Int)(HG:Hid (w.heap[g]? =some (.cells cur 252 (0,0))))(hi:i<n)(hn:n≤1000000000)(_HS:Hid (cur.size=n*2))(HN:Hid (bs.length=n))(HT:Hid (cur.toList.take (n*2)=bs.flatMap bufRow))(HV:Hid (w.heap[v]? =some (.cells #[.int .i64 x.1,.int .i64 x.2] 252 (0,0))))(_hgv:v≠g):Calls Tryz.prog 206 #[.slice (some ⟨g,0,none⟩) n n,.int .i64 (i:Int),.slice (some ⟨v,0,none⟩) 1 1] w fun e w'=>∃vb',e=.returned vb'∧BsAt w' vb' (bs.take i++[x]++bs.drop i)∧Kp0 w w'∧∀b,vb'.ownBlock=some b→w.heap.size≤b:=by
 have d1:((i:Int)==(n:Int))=false:=by rw[beq_eq_false_iff_ne];omega
 have d2:decide ((n:Int)<(n:Int)+1)=true:=by simp;omega
 obtain⟨i0,hi0,hz0,hz1,hz2⟩:=info_parts Tryz.infoBf;have hold:(Builtin.firstCells i0.size i (.slice (some ⟨g,0,none⟩) i n)).run Tryz.prog w.drew=.ok ((bs.take i).flatMap bufRow).toArray w.drew:=by
  rw[hz1];exact run_firstCells_some w.drew 2 i ⟨g,0,none⟩ i n ((bs.take i).flatMap bufRow) (by rw[bufRow_length,List.length_take];have:=HN.out;omega) (fun j v hj=>by
   rw[Addr.add_lit,World.cell?_drew,cell_of_row _ _ _ _ _ _ HG.out];rw[flat_take,←HT.out,List.take_take,Nat.min_eq_left (by omega),List.getElem?_take]at hj;split at hj
   ·simpa using hj
   ·cases hj)
 have hrz:∀ty,(Builtin.append_ #[197,3] ty #[.slice (some ⟨g,0,none⟩) i n,.int .i64 (((n+1-i:Nat)):Int)]).run Tryz.prog w=_:=fun ty=>Lib.run_append_grow_zeros w 197 3 ty 252 i0 _ .i64 .i64 Tryz.underlying197 Tryz.underlying3 hi0 hz0 (some ⟨g,0,none⟩) i n _ hold (n+1-i) (by omega) (by omega) (by omega) (by omega) (by rw[hz2];omega) (by rw[hz2];exact growslice_fits (by omega) (by omega))
 obtain⟨N,hN⟩:∃N,N=w.heap.size:=⟨_,rfl⟩;have hNn:((n+1-i:Nat):Int)=(n:Int)+1-(i:Int):=by omega
 obtain⟨w1,G,row,hrz1,HB1,HK1,hG1,hG2,HRS,HR0⟩:∃(w1:World) (G:Nat) (row:Array Value),(∀ty,(Builtin.append_ #[197,3] ty #[.slice (some ⟨g,0,none⟩) i n,.int .i64 ((n:Int)+1-(i:Int))]).run Tryz.prog w=.ok (.slice (some ⟨N,0,none⟩) (n+1) G) w1)∧Hid (w1.heap[N]? =some (.cells row 252 (0,0)))∧Hid (Kp0 w w1)∧n+1≤G∧G≤9223372036854775807∧Hid (row.size=G*2)∧Hid (row.toList.take (i*2)=(bs.take i).flatMap bufRow):=by
  rw[hNn]at hrz;rw[show i+(n+1-i)=n+1 by omega]at hrz;rw[←hN]at hrz;refine⟨_,_,_,hrz,hid (hN▸heap_alloc_new w.drew _),hid ((Kp.refl _ w).drew.alloc _),grownCap_ge w _ _ _,?_,hid ?_,hid ?_⟩
  ·have:=grownCap_le_maxLen w (n+1) n 252 (by unfold maxLen;omega)
   unfold maxLen at this;omega
  ·have h1:=grownCap_ge w (n+1) n 252
   rw[Array.size_append,Array.size_append,size_zeroCells,size_zeroCells];have:((bs.take i).flatMap bufRow).toArray.size=i*2:=by rw[List.size_toArray,bufRow_length,List.length_take];have:=HN.out;omega
   rw[this];have z2:(Value.agg #[.int .i64 0,.int .i64 0]).cells.size=2:=rfl;rw[z2];omega
  ·have:((bs.take i).flatMap bufRow).length=i*2:=by rw[bufRow_length,List.length_take];have:=HN.out;omega
   simp only[Array.toList_append,List.append_assoc];rw[List.take_append_of_le_length (by rw[this];exact Nat.le_refl _),←this,List.take_length]
 clear hrz hold hi0 hz0 hz1 hz2 hNn;have HNN:=hid hN;have e1:¬G=i+1:=by omega
 have e2:¬G=i:=by omega
 have e3:(i:Int)+1≤(n:Int)+1:=by omega
 have e4:((i:Int)+1).toNat=i+1:=by omega
 have e5:(0:Int)≤(i:Int)+1:=by omega
 have e6:(i:Int)≤(n:Int)+1:=by omega
 have e7:IntKind.i64.wrap ((i:Int)+1)=(i:Int)+1:=by simp[IntKind.wrap,IntKind.signed,IntKind.bits];omega
 have e8:¬n=i:=by omega
 have e9:(i:Int)≤(n:Int):=by omega
 have HVN:Hid (v≠N):=hid (by have:=lt_of_heap HV.out;omega);have HGN:Hid (g≠N):=hid (by have:=lt_of_heap HG.out;omega);have HG1:Hid (w1.heap[g]? =some (.cells cur 252 (0,0))):=HK1.out.heap HG.out;have HV1:Hid (w1.heap[v]? =some (.cells #[.int .i64 x.1,.int .i64 x.2] 252 (0,0))):=HK1.out.heap HV.out;have HFX:Hid (i*2+(bufRow x).length≤row.size):=hid (by rw[HRS.out];simp[bufRow];omega);obtain⟨w8,hcp,HB8,HK8⟩:∃w8,(∀ty,(Builtin.copy_ #[197,197] ty #[.slice (some ⟨N,i*2,none⟩) (n+1-i) (G-i),.slice (some ⟨v,0,none⟩) 1 1]).run Tryz.prog w1=.ok (goInt 1) w8)∧Hid (w8.heap[N]? =some (.cells (laidAt row (i*2) (bufRow x)) 252 (0,0)))∧Hid (Kp (fun b=>b=N) w1 w8):=
  ⟨_,fun ty=>run_copyN w1 _ _ ty 252 2 N (i*2) (n+1-i) (G-i) ⟨v,0,none⟩ 1 1 1 _ _ (bufRow x) Tryz.underlying197 Tryz.szBuf HB1.out (by simp only[Nat.min_def];split<;>omega) rfl (fun j u hu=>by rw[Addr.add_lit,cell_of_row _ _ _ _ _ _ HV1.out,Nat.zero_add];simpa[bufRow]using hu) HFX.out (by intro u hu;simp[bufRow]at hu;rcases hu with rfl|rfl<;>rfl),setRow_new HB1.out,setRow_kp HB1.out⟩
 have HG8:Hid (w8.heap[g]? =some (.cells cur 252 (0,0))):=HK8.out.heap HG1.out HGN.out;have HCL:Hid (((bs.drop i).flatMap bufRow).length=(n-i)*2):=hid (by rw[bufRow_length,List.length_drop,HN.out]);have HSR:Hid (∀j u,((bs.drop i).flatMap bufRow)[j]? =some u→w8.cell? ((⟨g,i*2,none⟩:Addr).add j)=some u):=hid (fun j u hj=>by
  rw[Addr.add_lit,cell_of_row _ _ _ _ _ _ HG8.out];rw[flat_drop,←HT.out,List.getElem?_drop,List.getElem?_take]at hj;split at hj
  ·simpa using hj
  ·cases hj)
 have HSZ:Hid ((laidAt row (i*2) (bufRow x)).size=G*2):=hid (by rw[laidAt_size HFX.out];exact HRS.out);have HFT:Hid ((i+1)*2+((bs.drop i).flatMap bufRow).length≤(laidAt row (i*2) (bufRow x)).size):=hid (by rw[HCL.out,HSZ.out];omega);have HMN:Hid (n-i=Nat.min (n-i) (n+1-(i+1))):=hid (by simp only[Nat.min_def];split<;>omega);clear hN;go_enter Tryz.func206,Tryz.ntmps206
 go_wp2_with (at_builtin;refine Lib.wpList_append_run _ rfl _ _ _ _ rfl _ _ rfl rfl _ _ (hrz1 _) ?_)
 go_region_law ((refine step_copyN (by rfl) (.tmp 50) (.tmp 53) 197 197 252 (by rfl) 2 N ((i+1)*2) (n+1-(i+1)) (G-(i+1)) ⟨g,i*2,none⟩ (n-i) (n-i) (n-i) _ _ ((bs.drop i).flatMap bufRow) (by simp[Act.eval,Act.put]) (by simp[Act.eval,Act.put]) Tryz.underlying197 Tryz.szBuf HB8.out HMN.out HCL.out HSR.out HFT.out (flat_one _) ?_;intro w9 hB9 hK9))
 all_goals
  have HB9:=hid hB9;have HK9:Hid (Kp (fun b=>b=N) w8 w9):=⟨hK9.os,hK9.tape,hK9.output,hK9.size,hK9.block⟩;clear hB9 hK9
  (try simp only[Act.put,List.setIfInBounds_toArray,List.set_cons_succ,List.set_cons_zero])
  go_wp2
  go_ret;refine⟨_,rfl,⟨by rw[bufRow_length],.inr ⟨N,G,_,?_,Nat.zero_le _,HB9.out,?_,?_,?_,?_⟩⟩,?_,?_⟩
  ·have:(bs.take i++[x]++bs.drop i).length=n+1:=by simp;have:=HN.out;omega
   rw[this];rfl
  ·have:(bs.take i++[x]++bs.drop i).length=n+1:=by simp;have:=HN.out;omega
   rw[this];exact hG1
  ·unfold maxLen;omega
  ·rw[laidAt_size HFT.out];exact HSZ.out
  ·have:(bs.take i++[x]++bs.drop i).length=n+1:=by simp;have:=HN.out;omega
   rw[this];exact grow_list HN.out hi hG1 x row HRS.out HR0.out
  ·exact Kp.trans (Kp.trans HK1.out HK8.out (fun b hb e=>by have:=HNN.out;omega)) HK9.out (fun b hb e=>by have:=HNN.out;omega)
  ·intro b hb
   have:N=b:=by simpa[Value.ownBlock]using hb
   have:=HNN.out;omega
theorem xinsert_calls{w:World}{vb:Value}{bs:List (Int×Int)}(h:BsAt w vb bs)(i:Nat)(hi:i≤bs.length)(hl:bs.length≤1000000000)(x:Int×Int)(v:Nat)(hv:w.heap[v]? =some (.cells #[.int .i64 x.1,.int .i64 x.2] 252 (0,0)))(hvb:vb.ownBlock≠some v):Calls Tryz.prog 206 #[vb,.int .i64 (i:Int),.slice (some ⟨v,0,none⟩) 1 1] w fun e w'=>∃vb',e=.returned vb'∧BsAt w' vb' (bs.take i++[x]++bs.drop i)∧Kp (fun b=>vb.ownBlock=some b) w w'∧∀b,vb'.ownBlock=some b→vb.ownBlock=some b∨w.heap.size≤b:=by
 rcases Nat.lt_or_ge i bs.length with hlt|hge
 ·obtain⟨g,cap,cur,rfl,hg,h1,h2,h3,h4⟩:=h.row (by omega)
  have hgv:v≠g:=fun e=>hvb (by rw[e];rfl)
  by_cases hr:bs.length+1≤cap
  ·refine(xinsert_room g bs.length cap i v cur w bs x hg hlt hr (by unfold maxLen at h2;omega) h3 rfl h4 hv hgv).mono ?_
   rintro e w' ⟨rfl,hk,hb⟩;have hll:(bs.take i++[x]++bs.drop i).length=bs.length+1:=by simp;omega
   have hcl:((bs.drop i).flatMap bufRow).length=(bs.length-i)*2:=by rw[bufRow_length,List.length_drop]
   have hs1:(laidAt cur ((i+1)*2) ((bs.drop i).flatMap bufRow)).size=cap*2:=by rw[laidAt_size (by rw[hcl,h3];omega),h3]
   refine⟨_,rfl,⟨by rw[bufRow_length],.inr ⟨g,cap,_,by rw[hll],Nat.zero_le _,hb,by rw[hll];exact hr,h2,?_,?_⟩⟩,hk.mono (fun b _ e=>by rw[e];rfl),fun b hb'=>.inl hb'⟩
   ·rw[laidAt_size (by rw[hs1];simp[bufRow];omega),hs1]
   ·rw[hll];exact ins_list h3 rfl hr h4 hlt x
  ·obtain rfl:cap=bs.length:=by omega
   refine(xinsert_grow g bs.length i v cur w bs x hg hlt hl h3 rfl h4 hv hgv).mono ?_;rintro e w' ⟨vb',rfl,hb,hk,hn⟩;exact⟨vb',rfl,hb,Kp.of0 hk,fun b hb'=>.inr (hn b hb')⟩
 ·obtain rfl:i=bs.length:=by omega
  refine(xinsert_end h hl x v hv).mono ?_;rintro e w' ⟨vb',rfl,hb,hk,hn⟩;exact⟨vb',rfl,by simpa using hb,hk,hn⟩
theorem Tryz.zeroCellB(w:World):(zeroValue 5).run Tryz.prog w=.ok (.int .u8 0) w:=by kernel_rfl
theorem zerosB(n:Nat):(Builtin.zeroCells (Value.int .u8 0).cells n).toList=List.replicate n (.int .u8 0):=by
 simp[Builtin.zeroCells,Value.cells];apply List.ext_getElem
 ·simp
 ·intro i h1 h2
  simp[Nat.mod_one]
theorem wipe_laidB(c:List Int)(s n:Nat):laidAt (vcs .u8 c).toArray s (List.replicate n (.int .u8 0))=(vcs .u8 (wipe c s n)).toArray:=by
 unfold laidAt wipe vcs;simp
theorem xGiveBackB_calls{w:World}{q g:Nat}{vb:Value}{c:List Int}{bs:List (Int×Int)}(h:StAtB w q g vb c bs)(s:Int)(i:Nat)(hi:i<bs.length)(hs:(bth bs i).1=s)(hne:∀j,j<i→(bth bs j).1≠s)(hin:bufsIn c.length bs)(hpos:1≤(bth bs i).2)(hc:c.length≤10000)(hbl:bs.length≤1000000)(hqb:vb.ownBlock≠some q)(hqg:q≠g)(hgb:vb.ownBlock≠some g):Calls Tryz.prog 194 #[.pointer (some ⟨q,0,none⟩),.int .i64 s] w fun e w'=>e=.returned (.tuple #[])∧Kp (fun b=>b=q∨b=g∨vb.ownBlock=some b) w w'∧∃vb',StAtB w' q g vb' (wipe c s.toNat (bth bs i).2.toNat) (bs.take i++bs.drop (i+1))∧vb'.ownBlock=vb.ownBlock:=by
 obtain⟨q0,q1⟩:=cells7 h.blk;have hqw:q<w.heap.size:=block_lt_of_cell q0;obtain⟨aov,capv,hvbf,hcap,hbf⟩:=h.bufs.form;subst hvbf;have HH:=hid h;have HVL:Hid (∀b,(Value.slice aov bs.length capv).ownBlock=some b→b<w.heap.size):=fun b hb=>own_lt h.bufs hb
 have HNE:Hid ((Value.slice aov bs.length capv).ownBlock≠some q∧q≠g∧(Value.slice aov bs.length capv).ownBlock≠some g):=⟨hqb,hqg,hgb⟩;obtain⟨gb,rfl,hbc⟩:=hbf (by omega);have HBC:=hid hbc;have HIN:=hid hin;have HF:=hid hne;obtain⟨z,hz⟩:∃z,z=(bth bs i).2:=⟨_,rfl⟩;have HZ:=hid hz;have HS:=hid hs;obtain⟨i1,i2,i3⟩:=hin i hi;rw[hs,←hz]at i3;rw[hs]at i1;rw[←hz]at hpos i2⊢;obtain⟨m,hm⟩:∃m,m=bs.length:=⟨_,rfl⟩;have HM:=hid hm;rw[←hm]at q1 hi hbl hcap;obtain⟨n,hn⟩:∃n,n=c.length:=⟨_,rfl⟩;have HN:=hid hn;rw[←hn]at q0 hc i3;clear h hqb hqg hgb hbc hin hne hz hs hm hn;go_enter Tryz.func194,Tryz.ntmps194
 go_wp2
 go_loopw [4,5,11] (fun _ _ t w'=>∃k:Nat,k≤i∧t=.int .i64 k∧Hid (Kp0 w w')) (fun _ _ t _=>m-(intOf t).toNat)
 case atStart=>exact⟨0,Nat.zero_le _,rfl,Kp0.refl w⟩
 case round=>
  obtain⟨k,hk,rfl,HK⟩:=hrel;have hkm:k<m:=by omega
  have p1:=HK.out.cell (HBC.out k (by have:=HM.out;omega)).1;have p2:=HK.out.cell (HBC.out k (by have:=HM.out;omega)).2;by_cases hki:k=i
  ·subst hki
   rw[HS.out]at p1;rw[←HZ.out]at p2;have d1:(s==s)=true:=by simp
   have r0:=HK.out.cell q0;have r1:=HK.out.cell q1;have hqr:q<wr.heap.size:=block_lt_of_cell r0;have HB:Hid ((wr.alloc (.cells #[.int .i64 s,.int .i64 z] 252)).heap[wr.heap.size]? =some (.cells #[.int .i64 s,.int .i64 z] 252 (0,0))):=heap_alloc_new wr _;have HKW:Hid (Kp0 w (wr.alloc (.cells #[.int .i64 s,.int .i64 z] 252))):=HK.out.alloc _;go_wp2
   clear r0 r1 p1 p2 hqr;generalize wr.alloc (.cells #[.int .i64 s,.int .i64 z] 252)=W at HB HKW⊢;generalize wr.heap.size=b at HB⊢;obtain⟨b0,b1⟩:=cells2 HB.out;have r0:=HKW.out.cell q0;have sw:IntKind.i64.wrap (s+z)=s+z:=by simp[IntKind.wrap,IntKind.signed,IntKind.bits];omega
   have HE:Hid (∀W,Calls Tryz.prog 202 #[.agg #[.int .i64 s,.int .i64 z]] W fun e w'=>∃v,e=.returned v∧(v=.int .i64 (s+z)∧Kp0 W w')):=fun W=>(xend_callsB s z W sw).mono (fun e w' h=>⟨_,h.1,rfl,h.2⟩)
   have a1:s≤s+z:=by omega
   have a2:(0:Int)≤s+z:=by omega
   have a3:¬n=s.toNat:=by omega
   have a4:(s+z).toNat -s.toNat=z.toNat:=by omega
   have a5:s.toNat≤(s+z).toNat:=by omega
   have a6:(s+z).toNat≤n:=by omega
   have HFT:Hid (s.toNat+(List.replicate z.toNat (Value.int .u8 0)).length≤(vcs .u8 c).toArray.size):=hid (by rw[List.length_replicate,List.size_toArray,vcs_length,←HN.out];omega);have HCL:Hid (∀W',Kp0 w W'→∃w8,(∀ty kk,(Builtin.clear_ #[192] ty #[.slice (some ⟨g,s.toNat,none⟩) z.toNat kk]).run Tryz.prog W'=.ok (.tuple #[]) w8)∧w8.heap[g]? =some (cellsBB (wipe c s.toNat z.toNat))∧Kp (fun b=>b=g) W' w8):=fun W' k=>by
    have hgc:=k.heap HH.out.cells;refine⟨_,fun ty kk=>run_clearN W' _ _ ty _ Tryz.underlying192 Tryz.zeroCellB g s.toNat z.toNat kk (by omega) _ _ (List.replicate z.toNat (.int .u8 0)) (zerosB _) hgc HFT.out (fun v hv=>by rw[List.eq_of_mem_replicate hv];rfl),?_,setRow_kp hgc⟩;rw[setRow_new hgc,wipe_laidB]
   go_region_law ((first
    |(refine step_call1 (by rfl) 202 (.tmp 26) _ (by rfl) _ Tryz.func202 (by kernel_rfl) (by kernel_rfl) _ (by rfl) (HE.out _) ?_;intro v7 w7 hR;obtain⟨rfl,hK7⟩:=hR;have r7:=Kp0.cell hK7 r0;have t0:=Kp0.cell hK7 b0;obtain⟨w8,hcl,hB8,hK8⟩:=HCL.out w7 (Kp0.trans HKW.out.drew hK7))))
   all_goals
    have KG:Hid (Kp (fun b=>b=g) w w8):=Kp.trans (Kp.of0 (Kp0.trans HKW.out.drew hK7)) hK8 (fun _ _ e=>e);have x1:=KG.out.cell q1 HNE.out.2.1;have HB8:=hid hB8;have HD:=hid (xdelete_calls (HH.out.bufs.kp KG.out (fun b hb e=>HNE.out.2.2 (e▸hb))) k (by have:=HM.out;omega));rw[←HM.out]at HD;clear hK7 hK8 hB8 hcl r7 t0 r0 b0 b1
    go_wp2_with fail
    refine HD.out.mono ?_;rintro e w9 ⟨vb',rfl,hb,ho,⟨ao',n',c',rfl,-⟩,hk9⟩;have hq9:=hk9.heap (KG.out.heap HH.out.blk HNE.out.2.1) (fun e=>HNE.out.1 (by rw[←HM.out];exact e));have y1:=(cells7 hq9).2;have y2:=frozen_of_row _ q 1 _ _ hq9;have HR:Hid (BsAt w9 (.slice ao' n' c') (bs.take k++bs.drop (k+1))∧(Value.slice ao' n' c').ownBlock=(Value.slice (some ⟨gb,0,none⟩) m capv).ownBlock∧Kp (fun b=>(Value.slice (some ⟨gb,0,none⟩) m capv).ownBlock=some b) w8 w9):=⟨hb,ho,hk9⟩;have HQ9:=hid hq9;clear hb ho hk9 hq9 x1;go_wp2
    (first|go_end0|((try simp only[Exit.inBlock,Exit.then]);refine bodyPost_ret (results_none rfl _ _ _) rfl ?_))
    obtain⟨hb,ho,hk9⟩:=HR.out;rw[HM.out]at ho hk9;have kall:Kp (fun b=>b=q∨b=g∨(Value.slice (some ⟨gb,0,none⟩) bs.length capv).ownBlock=some b) w w9:=(KG.out.mono (fun b _ e=>.inr (.inl e))).trans hk9 (fun b _ e=>.inr (.inr e));have k10:Kp (fun b=>b=q) w9 (w9.setCell ⟨q,1,none⟩ (.slice ao' n' c')):=(Kp.refl _ w9).setCell ⟨q,1,none⟩ _ (fun _=>rfl);refine⟨rfl,kall.setCell _ _ (fun _=>.inl rfl),.slice ao' n' c',⟨?_,?_,?_⟩,ho⟩
    ·rw[wipe_length c _ _ (by rw[←HN.out];omega)]
     exact heap_setCell_same _ q 1 _ _ _ HQ9.out
    ·rw[heap_setCell_other _ _ _ _ (by show g≠q;exact fun e=>HNE.out.2.1 e.symm)]
     exact hk9.heap HB8.out (fun e=>HNE.out.2.2 e)
    ·exact hb.kp k10 (fun b hb' e=>HNE.out.1 (by rw[←ho,hb',e]))
  ·have d1:((bth bs k).1==s)=false:=by rw[beq_eq_false_iff_ne];exact HF.out k (by omega)
   generalize (bth bs k).1=s1 at*;generalize (bth bs k).2=z1 at*;go_wp2
   go_roundw
   case rel=>exact⟨k+1,by omega,by go_num,HK.out.alloc _⟩
   case measure=>simp[intOf];omega
end Go.Proofs.YticbbncdcannlaaGreat
