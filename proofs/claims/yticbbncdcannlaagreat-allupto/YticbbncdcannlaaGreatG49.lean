import Derived.Sort.OwnSortedInts
import Derived.Handy
import Derived.Test.YticbbncdcannlaaGreatG48
import Derived.Test.YticbbncdcannlaaGreatG20
set_option maxRecDepth 100000
set_option maxHeartbeats 8000000
namespace Go.Proofs.YticbbncdcannlaaGreat
open Go.RowKit Go.Sort
abbrev srt(xs:List Int):List Int:=xs.mergeSort fun x y=>decide (x≤y)
theorem srt_length(xs:List Int):(srt xs).length=xs.length:=List.length_mergeSort _
theorem srt_sorted(xs:List Int):(srt xs).Pairwise (·≤·):=by
 have:=List.pairwise_mergeSort (le:=fun x y:Int=>decide (x≤y)) (fun a b c h1 h2=>by simp at*;omega) (fun a b=>by simp;omega) xs;exact this.imp (fun h=>by simpa using h)
theorem srt_mem(xs:List Int)(x:Int):x∈srt xs↔x∈xs:=List.mem_mergeSort
theorem sort_calls(g n c:Nat)(xs:List Int)(w:World)(h:OwI w (.slice (some ⟨g,0,none⟩) n c) xs)(hb:xs.length≤1000000):Calls Tryz.prog 85 #[.slice (some ⟨g,0,none⟩) n c] w fun e w'=>e=.returned (.tuple #[])∧OwI w' (.slice (some ⟨g,0,none⟩) n c) (srt xs)∧Kp (fun b=>b=g) w w':=by
 obtain⟨h1,h2⟩:=h.form;rcases h.2 with⟨e,_⟩|⟨g',cap,cur,e,hbase,hg,hnc,hc,hs,ht⟩
 ·cases e
 ·simp at e
  obtain⟨rfl,e1,rfl⟩:=e;have hH:Holds (Value.int .i64) w g 0 xs.toArray:=holds_of_blockI hg (by rw[Nat.mul_one]at ht;exact ht);have:=Tryz.slices_Sort_int g 0 c xs w hH (lt_of_heap hg) (by omega);rw[←h1]at this;refine this.mono ?_;rintro e w' ⟨rfl,m,os,rfl⟩;refine⟨rfl,?_,(Kp.refl (fun b=>b=g) w).grown (grownBy_sortedI _) (fun k e _=>by injection e with e;exact e.symm)⟩;have:=ownsRow_sortedI (w:=w) (base:=0) (g:=g) (cap:=c) (n:=m) (e:=3) (os:=os) (cur:=cur) (ss:=xs) (ts:=srt xs) (srt_length xs) (Nat.zero_le _) hg hnc hc hs;unfold OwI;rw[srt_length];rw[←h1]at this⊢;exact this
theorem meets1_calls(x:Int)(b g n c:Nat)(zs:List Int)(w:World)(hb:w.cell? ⟨b,0,none⟩=some (.slice (some ⟨g,0,none⟩) n c))(hz:zs.length=n)(hn:n≤1000000)(hc:∀j,j<n→w.cell? ⟨g,j,none⟩=some (.int .i64 (nth zs j)))(hs:zs.Pairwise (·≤·)):Calls Tryz.prog 87 #[.int .i64 x,.pointer (some ⟨b,0,none⟩)] w fun e w'=>e=.returned (.bool (zs.contains x))∧Kp0 w w':=by
 have HB:=Tryz.slices_BinarySearch_int g 0 n c zs x w (by omega) (by omega) (fun j hj=>by rw[Nat.zero_add];exact hc j (by omega)) (by rw[←hz,List.take_length];exact hs);have HB2:=hid HB;rw[show zs.take n=zs by rw[←hz,List.take_length]]at HB2;clear HB hc hs;go_enter Tryz.func87,Tryz.ntmps87
 go_wp2_with fail
 refine HB2.out.mono ?_;rintro e w2 ⟨rfl,q,hw⟩;have HK:Hid (Kp0 w w2):=hid (by rw[hw];exact(Kp.refl _ w).drewN q);clear hw;go_wp2
 go_ret;exact⟨by simp,HK.out⟩
theorem contains_calls(b g n c:Nat)(zs:List Int)(vy:Value)(ys:List Int)(w:World)(hb:w.cell? ⟨b,0,none⟩=some (.slice (some ⟨g,0,none⟩) n c))(hz:zs.length=n)(hn:n≤1000000)(hc:∀j,j<n→w.cell? ⟨g,j,none⟩=some (.int .i64 (nth zs j)))(hs:zs.Pairwise (·≤·))(hr:RdI w vy ys)(hm:ys.length≤1000000):Calls Tryz.prog 86 #[vy,.func (.func 87) #[] #[.pointer (some ⟨b,0,none⟩)]] w fun e w'=>e=.returned (.bool (ys.any fun y=>zs.contains y))∧Kp0 w w':=by
 have HF:Hid (∀x W,Kp0 w W→Calls Tryz.prog 87 #[.int .i64 x,.pointer (some ⟨b,0,none⟩)] W fun e w'=>e=.returned (.bool (zs.contains x))∧Kp0 W w'):=fun x W k=>meets1_calls x b g n c zs W (k.cell hb) hz hn (fun j hj=>k.cell (hc j hj)) hs
 obtain⟨a2,c2,rfl,hry⟩:=hr;obtain⟨m,hmm⟩:∃m,ys.length=m:=⟨_,rfl⟩;rw[hmm]at hm hry⊢;have HM:=hid hmm;have HRY:=hid hry;obtain⟨P,hP⟩:∃P:Int→Bool,P=fun y=>zs.contains y:=⟨_,rfl⟩
 have HF2:Hid (∀x W,Kp0 w W→Calls Tryz.prog 87 #[.int .i64 x,.pointer (some ⟨b,0,none⟩)] W fun e w'=>e=.returned (.bool (P x))∧Kp0 W w'):=hid (by rw[hP];exact HF.out);rw[←hP];clear hmm hry hb hz hn hc hs HF hP;go_enter Tryz.func86,Tryz.ntmps86
 go_wp2
 go_loopw [5,8] (fun _ t w'=>∃k:Nat,k≤m∧t=.int .i64 k∧Hid (Kp0 w w')∧Hid (∀j,j<k→P (nth ys j)=false)) (fun _ t _=>m-(intOf t).toNat)
 case atStart=>exact⟨0,Nat.zero_le _,rfl,hid (Kp0.refl w),hid (fun j hj=>by omega)⟩
 case round=>
  obtain⟨k,hk,rfl,HK,HJ⟩:=hrel;by_cases hlt:k<m
  ·obtain⟨g2,o2,rfl,hc2⟩:=HRY.out (fun e=>by have:=HM.out;rw[e]at this;simp at this;omega)
   have q1:=HK.out.cell (hc2 k hlt);clear hc2
   go_wp2_with fail
   refine(HF2.out _ _ HK.out).mono ?_;rintro e w2 ⟨rfl,hw⟩;have HK2:=hid (Kp0.trans HK.out hw);clear hw;cases hP:P (nth ys k)with
   |false=>
    have HJ2:Hid (∀j,j<k+1→P (nth ys j)=false):=hid (fun j hj=>by
     rcases Nat.lt_succ_iff_lt_or_eq.1 hj with h|h
     ·exact HJ.out j h
     ·rw[h];exact hP)
    clear hP;go_wp2
    go_roundw
    case rel=>exact⟨k+1,by omega,by go_num,HK2,HJ2⟩
    case measure=>simp[intOf];omega
   |true=>
    have HA:Hid (ys.any P=true):=hid (by
     rw[List.any_eq_true];exact⟨nth ys k,by rw[nth_lt (by have:=HM.out;omega)];exact List.getElem_mem _,hP⟩)
    clear hP;go_wp2
    go_ret;exact⟨by rw[HA.out];simp,HK2.out⟩
  ·have HA:Hid (ys.any P=false):=hid (by
    rw[←Bool.not_eq_true,List.any_eq_true];rintro⟨y,hy,h⟩;obtain⟨j,hj,e⟩:=List.getElem_of_mem hy;have hj':j<k:=by have:=HM.out;omega
    have:=HJ.out j hj';rw[nth_lt hj,e,h]at this;cases this)
   go_wp2
   go_ret;exact⟨by rw[HA.out];simp,HK.out⟩
def meetB(xs ys:List Int):Bool:=ys.any fun y=>(srt xs).contains y
theorem meetB_iff(xs ys:List Int):meetB xs ys=true↔∃i j,i<xs.length∧j<ys.length∧nth xs i=nth ys j:=by
 unfold meetB;rw[List.any_eq_true];constructor
 ·rintro⟨y,hy,h⟩
  rw[List.contains_iff_mem,srt_mem]at h;obtain⟨i,hi,ei⟩:=List.getElem_of_mem h;obtain⟨j,hj,ej⟩:=List.getElem_of_mem hy;exact⟨i,j,hi,hj,by rw[nth_lt hi,nth_lt hj,ei,ej]⟩
 ·rintro⟨i,j,hi,hj,e⟩
  refine⟨nth ys j,by rw[nth_lt hj];exact List.getElem_mem _,?_⟩;rw[List.contains_iff_mem,srt_mem,←e,nth_lt hi];exact List.getElem_mem _
theorem xmeets_calls(l t l2 t2:List Int)(f f2 M M2:Int)(w:World)(hg:GOk l t f M)(hg2:GOk l2 t2 f2 M2):Calls Tryz.prog 51 #[.agg (grC l t f).toArray,.agg (grC l2 t2 f2).toArray] w fun e w'=>e=.returned (.bool (meetB (gc l t f l.length) (gc l2 t2 f2 l2.length)))∧Kp0 w w':=by
 have HC1:Hid (∀W,Calls Tryz.prog 60 #[.agg (grC l t f).toArray] W fun e w'=>∃v,e=.returned v∧NewI W w' v (gc l t f l.length)):=fun W=>xcells_calls l t f M W hg
 have HC2:Hid (∀W,Calls Tryz.prog 60 #[.agg (grC l2 t2 f2).toArray] W fun e w'=>∃v,e=.returned v∧NewI W w' v (gc l2 t2 f2 l2.length)):=fun W=>xcells_calls l2 t2 f2 M2 W hg2
 have len:∀{l t f M},GOk l t f M→0<(gc l t f l.length).length∧(gc l t f l.length).length≤3600:=fun{l t f M} hg=>by
  have h1:=gc_length l t f hg.shape.2.1 l.length (Nat.le_refl _);have h2:=gc_pos l t f hg.shape.2.1 l.length (Nat.le_refl _);rw[List.take_length]at h1;have:=hg.shape.2.2;exact⟨h2,by omega⟩
 have HL1:=hid (len hg);have HL2:=hid (len hg2);generalize gc l t f l.length=P at*;generalize gc l2 t2 f2 l2.length=Q at*;obtain⟨mb,hmb⟩:∃mb,meetB P Q=mb:=⟨_,rfl⟩;rw[hmb];have HMB:=hid hmb;clear hmb;unfold grC at*;generalize l.length=n1 at*;generalize l2.length=n2 at*;clear hg hg2 len;obtain⟨hB0,hB1⟩:=two_heap w (grB l t f n1) (grB l2 t2 f2 n2);have HB0:=hid hB0;have HB1:=hid hB1;obtain⟨z0,z1,z2,z3,z4,z5,z6,z7,z8,z9⟩:=cells10 hB0;clear hB0 hB1;go_enter Tryz.func51,Tryz.ntmps51
 go_wp2_with fail
 refine(HC1.out _).mono ?_;rintro e w2 ⟨v,rfl,ao,c,rfl,hO,hk,hnew⟩;obtain⟨g,cap,e0,hcap,hgl,hcc⟩:=hO.slice HL1.out.1;simp at e0;obtain⟨rfl,rfl⟩:=e0;obtain⟨m,hm⟩:∃m,P.length=m:=⟨_,rfl⟩;rw[hm]at hO hnew⊢;have HPL:=hid hm;have HO:=hid hO;have hb2:=hk.heap HB0.out;have hb3:=hk.heap HB1.out;have HB3:=hid (heap_alloc_keeps hb3 (.cells #[.slice (some ⟨g,0,none⟩) m c] 26));have HBX:Hid ((w2.alloc (.cells #[.slice (some ⟨g,0,none⟩) m c] 26)).heap[w2.heap.size]? =some (.cells #[.slice (some ⟨g,0,none⟩) m c] 26 (0,0))):=heap_alloc_new w2 _;have HO3:=hid (hO.alloc (.cells #[.slice (some ⟨g,0,none⟩) m c] 26));have HK3:Hid (Kp0 w (w2.alloc (.cells #[.slice (some ⟨g,0,none⟩) m c] 26))):=hid ((Kp0.trans (((Kp.refl _ w).alloc _).alloc _) hk).alloc _);have hgn:=hnew g rfl;have HG:Hid (w.heap.size+2≤g∧g<w2.heap.size):=hid ⟨by simpa using hgn,hgl⟩;clear hO hk hnew hcc hb2 hb3 hgn hgl hcap hm z0 z1 z2 z3 z4 z5 z6 z7 z8 z9 HB0 HB1
 go_wp2_with fail
 generalize w2.alloc (.cells #[.slice (some ⟨g,0,none⟩) m c] 26)=W3 at HB3 HBX HO3 HK3⊢;generalize w2.heap.size=bx at HBX HG⊢;refine(sort_calls g m c P W3 HO3.out (by have:=HL1.out;omega)).mono ?_;rintro e w4 ⟨rfl,hO4,hk4⟩;have HB4:=hid (hk4.heap HB3.out (by have:=HG.out;omega));have HBX4:=hid (hk4.heap HBX.out (by have:=HG.out;omega));have HK4:Hid (Kp0 w w4):=hid (Kp.trans HK3.out hk4 (fun i hi e=>by have:=HG.out;omega));have HO4:=hid hO4;obtain⟨z0,z1,z2,z3,z4,z5,z6,z7,z8,z9⟩:=cells10 HB4.out;clear hO4 hk4 HB3 HBX HO3 HK3
 go_wp2_with fail
 refine(HC2.out _).mono ?_;rintro e w5 ⟨v,rfl,ao,c2,rfl,hO5,hk5,hnew5⟩;have HBX5:=hid (hk5.heap HBX4.out);have HK5:Hid (Kp0 w w5):=hid (Kp0.trans HK4.out hk5);have HO5:=hid hO5;have HO45:=hid (HO4.out.kp hk5 (fun _ _ e=>e));have hsl:=srt_length P;obtain⟨g',cap',e0,hcap',hgl',hcc'⟩:=HO45.out.slice (by rw[hsl];exact HL1.out.1);simp at e0;obtain⟨rfl,e1,rfl⟩:=e0;have HCF:Hid (Calls Tryz.prog 86 #[.slice ao Q.length c2,.func (.func 87) #[] #[.pointer (some ⟨bx,0,none⟩)]] w5 fun e w'=>e=.returned (.bool mb)∧Kp0 w5 w'):=hid (HMB.out▸contains_calls bx g m c (srt P) _ Q w5 (cell_of_row _ bx 0 _ _ _ HBX5.out) (by rw[hsl];exact HPL.out) (by have:=HL1.out;have:=HPL.out;omega) (fun j hj=>hcc' j (by rw[hsl,HPL.out];exact hj)) (srt_sorted P) HO5.out.rd (by have:=HL2.out;omega));clear z0 z1 z2 z3 z4 z5 z6 z7 z8 z9 hO5 hk5 hnew5 hsl hcap' hgl' hcc' e1 HO45 HO4 HB4 HBX4 HK4
 go_wp2_with fail
 refine HCF.out.mono ?_;rintro e w6 ⟨rfl,hk6⟩;have HK6:=hid (Kp0.trans HK5.out hk6);clear hk6;go_wp2
 go_ret;exact⟨rfl,HK6.out⟩
end Go.Proofs.YticbbncdcannlaaGreat
