import Derived.Deep.RegionLaw
import Derived.BigRegion
import Derived.Test.YticbbncdcannlaaGreatG04
set_option maxRecDepth 100000
set_option maxHeartbeats 8000000
namespace Go.Proofs.YticbbncdcannlaaGreat
open Go.RowKit
def picked(cells rk:List Int):List Int:=rk.map fun r=>nth cells r.toNat
theorem picked_take(cells rk:List Int)(k:Nat)(h:k<rk.length):picked cells (rk.take (k+1))=picked cells (rk.take k)++[nth cells (nth rk k).toNat]:=by
 unfold picked;rw[take_snoc rk k h];simp
theorem grown_blk{w w7:World}{x o:Obj}{row:Option Nat}{b:Nat}(hb:w.heap[b]? =some o)(hg:((w.alloc x).drew).grownBy w7 row)(hne:∀k,row=some k→b<k):w7.heap[b]? =some o:=
 grown_heap (w:=w) (x:=x) hb (show(w.alloc x).grownBy w7 row from⟨hg.os,hg.tape,hg.output,hg.size,hg.block⟩) (fun e=>by have:=hne b e.symm;omega)
theorem arr_cell2{w:World}{b:Nat}{v0 v1 v2 v3 v4:Value}{t:TypeId}(h:w.heap[b]? =some (.cells #[v0,v1,v2,v3,v4] t (0,0))):w.cell? ⟨b,2,none⟩=some v2:=by simp[World.cell?,h]
def Sp.derive(σ:Sp)(a:Arr)(s rk:List Int)(read:Bool):Sp×Int×Int:=
 if 40≤σ.live then(σ,0,7)else(σ.lay ⟨a.kind,s,picked a.cells rk,a.ro||read,a.buf⟩,(σ.arrs.length:Int)+1,0)
theorem yderived_calls{T:Tags}{o:Nat}{w:World}{p:Nat}{L:YL}{σ:Sp}(hy:YAt T o w p L σ)(hok:σ.ok)(q:Nat)(vs vc:Value)(a:Arr)(hya:YArr T o w q vs vc a)(hao:a.ok σ)(v1 v2:Value)(s rk:List Int)(hs:okShape s)(h1:RdI w v1 s)(h2:RdI w v2 rk)(n:Nat)(hn:rk.length=n)(hn1:1≤n)(hn2:n≤3600)(hrk:∀j,j<n→0≤nth rk j∧nth rk j<a.cells.length)(read:Bool):Calls Tryz.prog 142 #[.pointer (some ⟨p,0,none⟩),.pointer (some ⟨q,0,none⟩),v1,v2,.bool read] w fun e w'=>e=.returned (.tuple #[.int .i64 (σ.derive a s rk read).2.1,.int .i64 (σ.derive a s rk read).2.2])∧∃T' L',TagsTo w T T'∧YAt T' o w' p L' (σ.derive a s rk read).1∧Kp (fun b=>T b=(o,1)∨T b=(o,4)) w w':=by
 obtain⟨D,hD⟩:∃D,σ.derive a s rk read=D:=⟨_,rfl⟩;rw[hD];have HDE:Hid (D=if 40≤σ.live then(σ,0,7)else(σ.lay ⟨a.kind,s,picked a.cells rk,a.ro||read,a.buf⟩,(σ.arrs.length:Int)+1,0)):=hid (by rw[←hD];rfl);clear hD;obtain⟨z0,-,z2,z3,z4⟩:=hya.parts;have hlen:=hao.length;have hsh:=hao.shape;have hv:=vol_bd a.shape hsh.2.1 hsh.1 a.shape.length (Nat.le_refl _);rw[List.take_length]at hv;obtain⟨gc,cap,rfl,hcap,hgc,hcc⟩:=hya.cells.slice (by omega);have hnl:a.cells.length≤3600:=by have:=hsh.2.2;omega
 obtain⟨a2,c2,rfl,h2⟩:=h2;obtain⟨g2,o2,rfl,hc2⟩:=h2 (by intro e;rw[e]at hn;simp at hn;omega);have bq:q<w.heap.size:=lt_of_heap hya.blk;have bg2:g2<w.heap.size:=block_lt_of_cell (hc2 0 (by omega));have HY:=hid hy;have HO:=hid hok;have H1:=hid h1;have HC2:=hid hc2;have HCC:=hid hcc;have HN:=hid hn;have HRK:=hid hrk;have HSL:Hid (0+s.length≤1000000000000):=hid (by have:=hs.1;omega);have HPT:=hid (picked_take a.cells rk);clear hy hok h1 h2 hc2 hcc hrk hya hao hlen hsh hv hs;rw[HN.out];generalize hm:a.cells.length=m at*;generalize a.kind=kd at*;generalize a.buf=bf at*;generalize a.ro=ro at*;generalize a.cells=ce at*;have e1:¬q=w.heap.size:=by omega
 have e2:¬gc=w.heap.size:=by omega
 have e3:¬g2=w.heap.size:=by omega
 obtain⟨rb,hrb⟩:∃rb,(ro||read)=rb:=⟨_,rfl⟩;have HRB:=hid hrb;clear hrb;cases ro<;>(
 go_enter Tryz.func142,Tryz.ntmps142
 go_wp2
 first
  |go_region_held3 (fun w'=>w'.cell? ⟨q,0,none⟩=some (.int .i64 kd)∧w'.cell? ⟨q,3,none⟩=some (.bool false)∧w'.cell? ⟨q,4,none⟩=some (.int .i64 (bf:Int))) (go_keep) (fail)
  |go_region
 generalize hW1:World.drew (World.alloc _ _)=W1;have hA:W1.heap[w.heap.size]? =some (.cells #[.int .i64 kd,.slice none 0 0,.slice none 0 0,.bool rb,.int .i64 (bf:Int)] 181 (0,0)):=by
  rw[←hW1,←HRB.out];exact heap_alloc_new _ _
 have hS1:W1.heap.size=w.heap.size+1:=by rw[←hW1];simp
 have hK1:Kp0 w W1:=by rw[←hW1];exact Kp.drew (Kp.alloc (Kp.refl _ _) _)
 clear hW1;have cA:W1.cell? ⟨w.heap.size,1,none⟩=some (.slice none 0 0):=by simp[World.cell?,hA]
 have HA:=hid hA;have HS1:=hid hS1;have HK1:=hid hK1;clear hA hS1 hK1
 go_wp2_with (at_builtin;refine wpList_app (by rfl) _ _ (by rfl) none 0 0 [] s v1 (by rfl) (by rfl) (OwI.nil _) (by exact H1.out.kp0 HK1.out) HSL.out W1.heap.size (by rfl) ?_)
 intro ao c w4 hownS hgrowS hatS;have hA4:w4.heap[w.heap.size]? =some (.cells #[.int .i64 kd,.slice none 0 0,.slice none 0 0,.bool rb,.int .i64 (bf:Int)] 181 (0,0)):=by
  rw[hgrowS.block _ (by have:=HS1.out;omega) (by simp[Value.ownBlock])];exact HA.out
 have hK4:Kp0 w w4:=Kp.grown HK1.out hgrowS (by simp[Value.ownBlock]);have hao:∀b,(Value.slice ao s.length c).ownBlock=some b→b=w.heap.size+1:=fun b hb=>by
  have h5:=(hatS b (by simpa using hb)).resolve_left (by simp[Value.ownBlock]);rw[h5,HS1.out]
 have cA4:w4.cell? ⟨w.heap.size,1,none⟩=some (.slice none 0 0):=by simp[World.cell?,hA4]
 have fA4:w4.frozen? ⟨w.heap.size,1,none⟩=false:=frozen_blk hA4;have hS5:OwI (w4.setCell ⟨w.heap.size,1,none⟩ (.slice ao s.length c)) (.slice ao s.length c) s:=by
  exact hownS.setCell _ (fun e=>by
   have:=hao _ e;simp at this)
 have hK5:Kp0 w (w4.setCell ⟨w.heap.size,1,none⟩ (.slice ao s.length c)):=Kp.setCell hK4 _ _ (fun h=>by simp at h);have hA5:(w4.setCell ⟨w.heap.size,1,none⟩ (.slice ao s.length c)).heap[w.heap.size]? =some (.cells #[.int .i64 kd,.slice ao s.length c,.slice none 0 0,.bool rb,.int .i64 (bf:Int)] 181 (0,0)):=by
  rw[heap_setCell_same _ _ _ _ _ _ hA4];rfl
 have HAO:=hid hao;have HS5:=hid hS5;have HK5:=hid hK5;have HA5:=hid hA5;clear hgrowS hatS hownS hA4 hK4 hao hS5 hK5 hA5 cA;go_wp2
 go_loopw [13] (fun t w'=>∃k:Nat,k≤n∧t=.int .i64 k∧∃ac cc,Kp0 w w'∧w'.heap[w.heap.size]? =some (.cells #[.int .i64 kd,.slice ao s.length c,.slice ac k cc,.bool rb,.int .i64 (bf:Int)] 181 (0,0))∧
   OwI w' (.slice ao s.length c) s∧OwI w' (.slice ac k cc) (picked ce (rk.take k))∧(∀b,(Value.slice ac k cc).ownBlock=some b→w.heap.size<b∧(Value.slice ao s.length c).ownBlock≠some b)) (fun t _=>n-(intOf t).toNat)
 case atStart=>exact⟨0,Nat.zero_le _,rfl,none,0,HK5.out,HA5.out,HS5.out,OwI.nil _,fun b hb=>by simp[Value.ownBlock]at hb⟩
 case round=>
  obtain⟨k,hk,rfl,ac,cc,hK6,hA6,hS6,hC6,hB6⟩:=hrel;by_cases hlt:k<n
  ·have cA:wr.cell? ⟨w.heap.size,2,none⟩=some (.slice ac k cc):=by simp[World.cell?,hA6]
   have hAlt:w.heap.size<wr.heap.size:=lt_of_heap hA6;obtain⟨r0,r1⟩:=HRK.out k hlt;have y2:=hK6.cell z2;have y3:=hK6.cell (HC2.out k (by rw[HN.out];exact hlt));have y4:=hK6.cell (HCC.out (nth rk k).toNat (by omega));have HPE:=hid (HPT.out k (by rw[HN.out];exact hlt));generalize nth rk k=r at*;generalize nth ce r.toNat=x at*;have HBN:Hid (k+[x].length≤1000000000000):=hid (by simp;omega);have HK6:=hid hK6;have HA6:=hid hA6;have HS6:=hid hS6;have HC6:=hid hC6;have HB6:=hid hB6;have i1:(0:Int)≤(k:Int):=by omega
   have i2:(k:Int)<(n:Int):=by omega
   clear hK6 hA6 hS6 hC6 hB6;go_wp2
   go_region_law
    ((refine step_app (by rfl) _ _ (by rfl) ac k cc (picked ce (rk.take k)) [x] _ (by rfl) (by rfl) (by exact OwI.drew (HC6.out.alloc _)) (by exact RdI.drew (RdI.one _ _)) HBN.out (wr.heap.size+1) (by simp) ?_;intro ac' cc' w7 hC7 hG7 hB7;have hA7:=grown_blk HA6.out hG7 (fun b hb=>(HB6.out b hb).1);have cA7:=arr_cell2 hA7;have fA7:w7.frozen? ⟨w.heap.size,2,none⟩=false:=frozen_blk hA7))
   all_goals (
    have hS7:OwI w7 (.slice ao s.length c) s:=(OwI.drew (HS6.out.alloc _)).grown hG7 (fun b hb e=>(HB6.out b e.symm).2 hb);have hK7:Kp0 w w7:=Kp.grown (Kp.drew (Kp.alloc HK6.out _)) hG7 (fun b hb h=>by have:=(HB6.out b hb).1;omega);have hB7':∀b,(Value.slice ac' (k+1) cc').ownBlock=some b→w.heap.size<b∧(Value.slice ao s.length c).ownBlock≠some b:=by
     intro b hb;rcases hB7 b hb with h|h
     ·exact HB6.out b h
     ·refine⟨by omega,fun e=>?_⟩
      have:=HS6.out.lt e;omega
    have HA7:=hid hA7;have HS7:=hid hS7;have HK7:=hid hK7;have HB7:=hid hB7';have HC7:=hid hC7;clear hA7 hS7 hK7 hB7 hB7' hC7 hG7 cA7 fA7;go_wp2
    go_roundw
    case rel=>
     refine⟨k+1,by omega,by go_num,ac',cc',?_,?_,?_,?_,HB7.out⟩
     ·repeat' (first|exact HK7.out|refine Kp.drew ?_|refine Kp.setCell ?_ _ _ (fun h=>absurd h (Nat.lt_irrefl _)))
     ·refine(heap_setCell_same _ _ _ _ _ _ HA7.out).trans ?_
      rfl
     ·have h9:∀u,OwI (w7.setCell ⟨w.heap.size,2,none⟩ u) (.slice ao s.length c) s:=fun u=>HS7.out.setCell u (fun e=>by
       have:=HAO.out _ e;simp at this)
      exact h9 _
     ·have h9:∀u,OwI (w7.setCell ⟨w.heap.size,2,none⟩ u) (.slice ac' (k+1) cc') (picked ce (rk.take (k+1))):=fun u=>by
       rw[HPE.out];exact HC7.out.setCell u (fun e=>by have:=(HB7.out _ e).1;simp at this)
      exact h9 _
    case measure=>simp[intOf];omega)
  ·have hkn:k=n:=by omega
   have HTL:Hid (rk.take k=rk):=hid (List.take_of_length_le (by rw[HN.out];omega));have hy3:YAt (retag w T (o,6)) o wr p L σ:=(HY.out.tags (retag_to w _ _)).kp0 hK6;have ha3:YArr (retag w T (o,6)) o wr w.heap.size (.slice ao s.length c) (.slice ac k cc) ⟨kd,s,picked ce rk,rb,bf⟩:=by
    refine⟨hA6,hS6,by rw[←HTL.out];exact hC6,retag_new (Nat.le_refl _),fun b hb=>retag_new ?_,fun b hb=>retag_new ?_⟩
    ·have:=HAO.out b hb;omega
    ·have:=(hB6 b hb).1;omega
   have HK6:=hid hK6;have HY3:=hid hy3;have HA3:=hid ha3;clear hK6 hA6 hS6 hC6 hB6 hy3 ha3 hkn;by_cases hlv:σ.live<40
   ·have HLV:=hid hlv
    clear hlv
    go_wp2_with fail
    refine(ylay_calls HY3.out HO.out _ _ _ _ HA3.out HLV.out).mono ?_;rintro e w10 ⟨rfl,hex⟩;have HEX:=hid hex;clear hex;go_wp2
    go_ret2
    have h40:¬40≤σ.live:=by have:=HLV.out;omega
    rw[HDE.out,if_neg h40];refine⟨rfl,?_⟩;obtain⟨T',L',ht,hy10,hk10⟩:=HEX.out;have s6:=HK6.out.size;refine⟨T',L',fun b hb=>by rw[ht b (by omega),retag_to w T _ b hb],?_,?_⟩
    ·rw[HRB.out]
     exact hy10
    ·exact(Kp.of0 HK6.out).trans hk10 (fun i hi h=>by
      rw[retag_to w T _ i hi]at h;exact h)
   ·have HLV:Hid (40≤σ.live):=hid (by omega)
    clear hlv
    go_wp2_with fail
    refine(ylay_many HY3.out HO.out _ HLV.out).mono ?_;rintro e w10 ⟨rfl,hw⟩;obtain rfl:=hw.symm;go_wp2
    go_ret2
    rw[HDE.out,if_pos HLV.out];exact⟨rfl,retag w T (o,6),L,fun b hb=>retag_to w T _ b hb,HY3.out,Kp.of0 HK6.out⟩)
end Go.Proofs.YticbbncdcannlaaGreat
