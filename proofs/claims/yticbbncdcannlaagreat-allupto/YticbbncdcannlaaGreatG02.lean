import Derived.Test.YticbbncdcannlaaGreatRows
import Derived.Test.YticbbncdcannlaaGreatG01
set_option maxRecDepth 100000
set_option maxHeartbeats 8000000
namespace Go.Proofs.YticbbncdcannlaaGreat
open Go.RowKit
theorem ret_int{k:IntKind}{a b:Int}(h:a=b):Ending.returned (.int k a)=.returned (.int k b):=by rw[h]
theorem ret_bool{a b:Bool}(h:a=b):Ending.returned (.bool a)=.returned (.bool b):=by rw[h]
theorem as_calls(k v:Int)(w:World):Calls Tryz.prog 126 #[.int .i64 k,.int .i64 v] w fun e w'=>e=.returned (.int .i64 (asK k v))∧w'=w:=by
 by_cases hk:k=1
 ·have h1:(k==1)=true:=by simp[hk]
  by_cases hn:v.tmod 256<0
  ·have:=asK_neg hn
   go_enter Tryz.func126,Tryz.ntmps126
   go_wp2
   go_ret;exact⟨ret_int (by simp[asK,hk]),rfl⟩
  ·have:=asK_pos hn
   go_enter Tryz.func126,Tryz.ntmps126
   go_wp2
   go_ret;exact⟨ret_int (by simp[asK]),rfl⟩
 ·have h1:(k==1)=false:=by simp[hk]
  go_enter Tryz.func126,Tryz.ntmps126
  go_wp2
  go_ret;exact⟨ret_int (by simp[asK,hk]),rfl⟩
theorem volume_any(g o c:Nat)(xs:List Int)(w:World)(hs:sized xs)(hl:xs.length≤4)(h1:∀j,j<xs.length→w.cell? ⟨g,o+j,none⟩=some (.int .i64 (nth xs j))):Calls Tryz.prog 140 #[.slice (some ⟨g,o,none⟩) xs.length c] w fun e w'=>e=.returned (.int .i64 (vol xs))∧w'=w:=by
 go_enter Tryz.func140,Tryz.ntmps140
 go_wp2
 go_loop [3,4] (fun v i=>∃k:Nat,k≤xs.length∧i=.int .i64 k∧v=.int .i64 (vol (xs.take k))) (fun _ i=>xs.length-(intOf i).toNat)
 case atStart=>exact⟨0,Nat.zero_le _,rfl,rfl⟩
 case round=>
  obtain⟨k,hk,rfl,rfl⟩:=hrel;by_cases hlt:k<xs.length
  ·have q1:=h1 k hlt
   have b1:=vol_bd xs hs hl k hk;have b2:=vol_bd xs hs hl (k+1) hlt;have HV:Hid (vol (xs.take (k+1))=vol (xs.take k)*nth xs k):=vol_take xs k hlt;rw[vol_take xs k hlt]at b2;go_wp2
   go_round
   case rel=>exact⟨k+1,by omega,by go_num,by rw[HV.out]⟩
   case measure=>simp[intOf];omega
  ·go_wp2
   go_ret;exact⟨ret_int (by rw[List.take_of_length_le (by omega)]),rfl⟩
theorem volume_nil(a:Option Addr)(c:Nat)(w:World):Calls Tryz.prog 140 #[.slice a 0 c] w fun e w'=>e=.returned (.int .i64 1)∧w'=w:=by
 go_enter Tryz.func140,Tryz.ntmps140
 go_wp2
 refine wp_loop_rounds 1 ?_;rw[rounds_succ];go_wp2
 go_ret;exact⟨rfl,rfl⟩
theorem volume_calls(v:Value)(xs:List Int)(w:World)(h:RdI w v xs)(hs:sized xs)(hl:xs.length≤4):Calls Tryz.prog 140 #[v] w fun e w'=>e=.returned (.int .i64 (vol xs))∧w'=w:=by
 obtain⟨a,c,rfl,h⟩:=h;by_cases hx:xs=[]
 ·subst hx
  exact volume_nil a c w
 ·obtain⟨g,o,rfl,h'⟩:=h hx
  exact volume_any g o c xs w hs hl h'
theorem shape_long(a:Option Addr)(n c:Nat)(w:World)(h:4<n):Calls Tryz.prog 137 #[.slice a n c] w fun e w'=>e=.returned (.bool false)∧w'=w:=by
 go_enter Tryz.func137,Tryz.ntmps137
 go_wp2
 go_ret;exact⟨rfl,rfl⟩
theorem shape_nil(a:Option Addr)(c:Nat)(w:World):Calls Tryz.prog 137 #[.slice a 0 c] w fun e w'=>e=.returned (.bool true)∧w'=w:=by
 go_enter Tryz.func137,Tryz.ntmps137
 go_wp2
 refine wp_loop_rounds 1 ?_;rw[rounds_succ];go_wp2
 go_ret;exact⟨rfl,rfl⟩
def sizedTo(l:List Int)(k:Nat):Prop:=∀j,j<k→1≤nth l j∧nth l j≤60
theorem volTo_bd(l:List Int)(hl:l.length≤4)(k:Nat)(hk:k≤l.length)(hs:sizedTo l k):1≤vol (l.take k)∧vol (l.take k)≤12960000:=by
 have hlen:(l.take k).length=k:=by simp;omega
 have hn:∀j,j<k→nth (l.take k) j=nth l j:=fun j hj=>by rw[nth_lt (by omega),nth_lt (by omega)];simp
 have:=vol_bd (l.take k) (fun j hj=>by rw[hn j (by omega)];exact hs j (by omega)) (by omega) k (by omega)
 rwa [List.take_of_length_le (by omega)]at this
theorem shape_any(g o c:Nat)(xs:List Int)(w:World)(hl:xs.length≤4)(h1:∀j,j<xs.length→w.cell? ⟨g,o+j,none⟩=some (.int .i64 (nth xs j))):Calls Tryz.prog 137 #[.slice (some ⟨g,o,none⟩) xs.length c] w fun e w'=>e=.returned (.bool (shapeB xs))∧w'=w:=by
 have hl':¬(4:Int)<(xs.length:Int):=by omega
 go_enter Tryz.func137,Tryz.ntmps137
 go_wp2
 go_loop [3,4] (fun v i=>∃k:Nat,k≤xs.length∧i=.int .i64 k∧v=.int .i64 (vol (xs.take k))∧sizedTo xs k) (fun _ i=>xs.length-(intOf i).toNat)
 case atStart=>exact⟨0,Nat.zero_le _,rfl,rfl,fun j hj=>by omega⟩
 case round=>
  obtain⟨k,hk,rfl,rfl,hsz⟩:=hrel;by_cases hlt:k<xs.length
  ·have q1:=h1 k hlt
   have b1:=volTo_bd xs hl k hk hsz;by_cases hok:1≤nth xs k∧nth xs k≤60
   ·obtain⟨o1,o2⟩:=hok
    have hsz':sizedTo xs (k+1):=fun j hj=>by
     rcases Nat.lt_succ_iff_lt_or_eq.1 hj with h|h
     ·exact hsz j h
     ·subst h;exact⟨o1,o2⟩
    have b2:=volTo_bd xs hl (k+1) hlt hsz';have HV:Hid (vol (xs.take (k+1))=vol (xs.take k)*nth xs k):=vol_take xs k hlt;have HS:Hid (sizedTo xs (k+1)):=hsz';rw[vol_take xs k hlt]at b2;clear hsz' hsz;go_wp2
    go_round
    case rel=>exact⟨k+1,by omega,by go_num,by rw[HV.out],HS.out⟩
    case measure=>simp[intOf];omega
   ·have hf:shapeB xs=false:=by
     rw[←Bool.not_eq_true,shapeB_iff];exact fun h=>hok (h.2.1 k hlt)
    have HF:Hid (shapeB xs=false):=hf;clear hf;by_cases h1:nth xs k<1
    ·go_wp2
     go_ret;exact⟨ret_bool HF.out.symm,rfl⟩
    ·have h2:60<nth xs k:=by omega
     go_wp2
     go_ret;exact⟨ret_bool HF.out.symm,rfl⟩
  ·have hf:shapeB xs=decide (vol xs≤3600):=by
    rw[Bool.eq_iff_iff,shapeB_iff];simp only[decide_eq_true_eq];exact⟨fun h=>h.2.2,fun h=>⟨hl,fun j hj=>hsz j (by omega),h⟩⟩
   have HF:Hid (shapeB xs=decide (vol xs≤3600)):=hf;clear hf;go_wp2
   go_ret;refine⟨ret_bool ?_,rfl⟩;rw[HF.out,List.take_of_length_le (by omega)]
theorem shape_calls(v:Value)(xs:List Int)(w:World)(h:RdI w v xs):Calls Tryz.prog 137 #[v] w fun e w'=>e=.returned (.bool (shapeB xs))∧w'=w:=by
 obtain⟨a,c,rfl,h⟩:=h;by_cases hx:xs=[]
 ·subst hx
  exact shape_nil a c w
 ·by_cases hl:xs.length≤4
  ·obtain⟨g,o,rfl,h'⟩:=h hx
   exact shape_any g o c xs w hl h'
  ·have hf:shapeB xs=false:=by
    rw[←Bool.not_eq_true,shapeB_iff];exact fun h=>hl h.1
   rw[hf];exact shape_long a _ c w (by omega)
theorem rank_len(a b:Option Addr)(n m c d:Nat)(w:World)(h:n≠m):Calls Tryz.prog 139 #[.slice a n c,.slice b m d] w fun e w'=>e=.returned (.int .i64 (-1))∧w'=w:=by
 have h1:((n:Int)!=(m:Int))=true:=by rw[bne_iff_ne];omega
 go_enter Tryz.func139,Tryz.ntmps139
 go_wp2
 go_ret;exact⟨rfl,rfl⟩
theorem rank_nil(a b:Option Addr)(c d:Nat)(w:World):Calls Tryz.prog 139 #[.slice a 0 c,.slice b 0 d] w fun e w'=>e=.returned (.int .i64 0)∧w'=w:=by
 go_enter Tryz.func139,Tryz.ntmps139
 go_wp2
 refine wp_loop_rounds 1 ?_;rw[rounds_succ];go_wp2
 go_ret;exact⟨rfl,rfl⟩
theorem mul_nn{a b:Int}(h:0≤a)(k:1≤b):0≤a*b:=Int.mul_nonneg h (by omega)
def inTo(s i:List Int)(k:Nat):Prop:=∀j,j<k→0≤nth i j∧nth i j<nth s j
theorem rankTo_bd(s i:List Int)(hs:sized s)(hl:s.length≤4)(k:Nat)(hk:k≤s.length)(hi:inTo s i k):0≤rankTo s i k∧rankTo s i k<12960000:=by
 have key:∀m,m≤k→0≤rankTo s i m∧rankTo s i m<vol (s.take m):=by
  intro m
  induction m with
  |zero=>intro _;simp[rankTo,vol]
  |succ m ih=>
   intro hm;obtain⟨a,b⟩:=ih (by omega);obtain⟨s1,s2⟩:=hs m (by omega);obtain⟨i1,i2⟩:=hi m (by omega);rw[vol_take s m (by omega)];simp only[rankTo];constructor
   ·have:=Int.mul_nonneg a (show(0:Int)≤nth s m by omega)
    omega
   ·have h1:(rankTo s i m+1)*nth s m≤vol (s.take m)*nth s m:=Int.mul_le_mul_of_nonneg_right (by omega) (by omega)
    rw[Int.add_mul]at h1;omega
 obtain⟨a,b⟩:=key k (Nat.le_refl _);have:=vol_bd s hs hl k hk;exact⟨a,by omega⟩
theorem rank_any(a1 o1 c1 a2 o2 c2:Nat)(s i:List Int)(n:Nat)(w:World)(HL:Hid (s.length=n))(HI:Hid (i.length=n))(hs:∀j,j<n→1≤nth s j∧nth s j≤60)(hl:n≤4)(h1:∀j,j<n→w.cell? ⟨a1,o1+j,none⟩=some (.int .i64 (nth s j)))(h2:∀j,j<n→w.cell? ⟨a2,o2+j,none⟩=some (.int .i64 (nth i j))):Calls Tryz.prog 139 #[.slice (some ⟨a1,o1,none⟩) n c1,.slice (some ⟨a2,o2,none⟩) n c2] w fun e w'=>e=.returned (.int .i64 (rank s i))∧Kp0 w w':=by
 go_enter Tryz.func139,Tryz.ntmps139
 go_wp2
 go_loopw [5,6] (fun r t w'=>∃k:Nat,k≤n∧t=.int .i64 k∧r=.int .i64 (rankTo s i k)∧inTo s i k∧∃m,w'=w.drewN m) (fun _ t _=>n-(intOf t).toNat)
 case atStart=>exact⟨0,Nat.zero_le _,rfl,rfl,fun j hj=>by omega,0,rfl⟩
 case round=>
  obtain⟨k,hk,rfl,rfl,hin,m,rfl⟩:=hrel;by_cases hlt:k<n
  ·have q1:=h1 k hlt
   have q2:=h2 k (by omega);have e1:(0:Int)≤(k:Int):=by omega
   have b1:=rankTo_bd s i (fun j hj=>hs j (by have:=HL.out;omega)) (by have:=HL.out;omega) k (by have:=HL.out;omega) hin;obtain⟨s1,s2⟩:=hs k hlt;by_cases h0:nth i k<0
   ·have d1:decide (nth i k<0)=true:=by simp[h0]
    have HF:Hid (rank s i= -1):=by
     unfold rank;exact if_neg (fun e=>by have:=((inBb_iff s i).1 e).2 k (by have:=HL.out;omega);omega)
    go_wp2
    go_quiet (fail)
    go_wp2
    go_ret;exact⟨ret_int HF.out.symm,((Kp.refl _ _).drewN _).drewN _⟩
   ·have d1:decide (nth i k<0)=false:=by simp[h0]
    by_cases hg:nth s k≤nth i k
    ·have d2:decide (nth s k≤nth i k)=true:=by simp[hg]
     have HF:Hid (rank s i= -1):=by
      unfold rank;exact if_neg (fun e=>by have:=((inBb_iff s i).1 e).2 k (by have:=HL.out;omega);omega)
     go_wp2
     go_quiet (fail)
     go_wp2
     go_ret;exact⟨ret_int HF.out.symm,((Kp.refl _ _).drewN _).drewN _⟩
    ·have d2:decide (nth s k≤nth i k)=false:=by simp[hg]
     have hin':inTo s i (k+1):=fun j hj=>by
      rcases Nat.lt_succ_iff_lt_or_eq.1 hj with h|h
      ·exact hin j h
      ·subst h;omega
     have b2:=rankTo_bd s i (fun j hj=>hs j (by have:=HL.out;omega)) (by have:=HL.out;omega) (k+1) (by have:=HL.out;omega) hin';have HS:Hid (inTo s i (k+1)):=hin';simp only[rankTo]at b2;have b3:=mul_nn b1.1 s1;clear hin' hin;go_wp2
     go_quiet (fail)
     go_wp2
     go_quiet (fail)
     go_wp2
     go_roundw
     case rel=>exact⟨k+1,by omega,by go_num,by simp only[rankTo],HS.out,_,rfl⟩
     case measure=>simp[intOf];omega
  ·have HF:Hid (rank s i=rankTo s i s.length):=by
    unfold rank;exact if_pos ((inBb_iff s i).2 ⟨HL.out.trans HI.out.symm,fun j hj=>hin j (by have:=HL.out;omega)⟩)
   go_wp2
   go_ret;refine⟨ret_int ?_,(Kp.refl _ _).drewN m⟩;rw[HF.out];have:k=s.length:=by have:=HL.out;omega
   rw[this]
theorem rank_calls(va vb:Value)(s i:List Int)(w:World)(ha:RdI w va s)(hb:RdI w vb i)(hs:sized s)(hl:s.length≤4):Calls Tryz.prog 139 #[va,vb] w fun e w'=>e=.returned (.int .i64 (rank s i))∧Kp0 w w':=by
 obtain⟨a,c,rfl,ha⟩:=ha;obtain⟨b,d,rfl,hb⟩:=hb;by_cases hle:s.length=i.length
 ·by_cases hx:s=[]
  ·subst hx
   have hy:i=[]:=List.length_eq_zero_iff.1 hle.symm;subst hy;refine(rank_nil a b c d w).mono ?_;rintro e w' ⟨rfl,rfl⟩;exact⟨rfl,Kp0.refl _⟩
  ·obtain⟨g,o,rfl,ha'⟩:=ha hx
   obtain⟨g',o',rfl,hb'⟩:=hb (fun e=>hx (List.length_eq_zero_iff.1 (by rw[hle,e];rfl)));rw[←hle];exact rank_any g o c g' o' d s i s.length w rfl hle.symm hs hl ha' (fun j hj=>hb' j (by omega))
 ·refine(rank_len a b _ _ c d w hle).mono ?_
  rintro e w' ⟨rfl,rfl⟩;refine⟨ret_int ?_,Kp0.refl _⟩;unfold rank;rw[if_neg (fun e=>hle ((inBb_iff s i).1 e).1)]
theorem hid{p:Prop}(h:p):Hid p:=h
theorem ret_val{a b:Value}(h:a=b):Ending.returned a=.returned b:=by rw[h]
theorem yfind_calls{T:Tags}{o:Nat}{w:World}{p:Nat}{L:YL}{σ:Sp}(hy:YAt T o w p L σ)(hok:σ.ok)(h:Int):Calls Tryz.prog 122 #[.pointer (some ⟨p,0,none⟩),.int .i64 h] w fun e w'=>e=.returned (ptr (L.at h))∧w'=w:=by
 obtain⟨-,-,-,-,-,q6,-⟩:=hy.cells;have hm:=hok.many;by_cases h1:h<1
 ·have d1:decide (h<1)=true:=by simp[h1]
  have HF:Hid (L.at h=none):=by unfold YL.at;exact if_neg (by omega)
  go_enter Tryz.func122,Tryz.ntmps122
  go_wp2
  go_ret;exact⟨ret_val (by rw[HF.out];rfl),rfl⟩
 ·have d1:decide (h<1)=false:=by simp[h1]
  rcases hy.ptrs with⟨hv,hn⟩|⟨g,cap,hv,hc⟩
  ·rw[hv]at q6
   have HF:Hid (L.at h=none):=hid<|by
    have hl:L.ps=[]:=List.length_eq_zero_iff.1 (by rw[hy.len];exact hn);unfold YL.at;rw[hl];simp[List.getD]
   go_enter Tryz.func122,Tryz.ntmps122
   go_wp2
   go_ret;exact⟨ret_val (by rw[HF.out];rfl),rfl⟩
  ·rw[hv]at q6
   by_cases h2:(σ.arrs.length:Int)<h
   ·have HF:Hid (L.at h=none):=hid<|by
     unfold YL.at;rw[if_pos (by omega)];simp[List.getD,List.getElem?_eq_none (show L.ps.length≤ix h by rw[hy.len];unfold ix;omega)]
    go_enter Tryz.func122,Tryz.ntmps122
    go_wp2
    go_ret;exact⟨ret_val (by rw[HF.out];rfl),rfl⟩
   ·have q:=hc (h.toNat-1) (by omega)
    have HF:Hid (L.at h=L.ps.getD (h.toNat-1) none):=hid<|by
     unfold YL.at;rw[if_pos (by omega)];rfl
    generalize L.ps.getD (h.toNat-1) none=x at q HF;cases x<;>simp only[ptr]at q<;>
    (go_enter Tryz.func122,Tryz.ntmps122
     go_wp2
     go_ret
     exact⟨ret_val (by rw[HF.out];rfl),rfl⟩)
def liveTo(l:List (Option Nat))(k:Nat):Nat:=((l.take k).filter Option.isSome).length
theorem liveTo_le(l:List (Option Nat))(k:Nat):liveTo l k≤k:=by
 unfold liveTo;exact Nat.le_trans (List.length_filter_le _ _) (List.length_take_le _ _)
theorem liveTo_succ(l:List (Option Nat))(k:Nat)(h:k<l.length):liveTo l (k+1)=liveTo l k+(if(l.getD k none).isSome then 1 else 0):=by
 unfold liveTo;rw[List.take_succ_eq_append_getElem h,List.filter_append,List.length_append];congr 1
 simp only[List.getD,List.getElem?_eq_getElem h,Option.getD_some];cases l[k]<;>simp
theorem ylive_nil{p:Nat}{w:World}(q6:w.cell? ⟨p,6,none⟩=some (.slice none 0 0)):Calls Tryz.prog 169 #[.pointer (some ⟨p,0,none⟩)] w fun e w'=>e=.returned (.int .i64 0)∧w'=w:=by
 go_enter Tryz.func169,Tryz.ntmps169
 go_wp2
 refine wp_loop_rounds 1 ?_;rw[rounds_succ];go_wp2
 go_ret;exact⟨rfl,rfl⟩
theorem ylive_any{p g n cap:Nat}{w:World}(l:List (Option Nat))(HL:Hid (l.length=n))(hn:n≤100000000)(q6:w.cell? ⟨p,6,none⟩=some (.slice (some ⟨g,0,none⟩) n cap))(hc:∀j,j<n→w.cell? ⟨g,j,none⟩=some (ptr (l.getD j none))):Calls Tryz.prog 169 #[.pointer (some ⟨p,0,none⟩)] w fun e w'=>e=.returned (.int .i64 (liveTo l n:Int))∧w'=w:=by
 have HC:=hid hc;clear hc;go_enter Tryz.func169,Tryz.ntmps169
 go_wp2
 go_loop [3,4] (fun r i=>∃k:Nat,k≤n∧i=.int .i64 k∧r=.int .i64 (liveTo l k:Int)) (fun _ i=>n-(intOf i).toNat)
 case atStart=>exact⟨0,Nat.zero_le _,rfl,rfl⟩
 case round=>
  obtain⟨k,hk,rfl,rfl⟩:=hrel;by_cases hlt:k<n
  ·have q:=HC.out k hlt
   have HS:=hid (liveTo_succ l k (by have:=HL.out;omega));have hb:=liveTo_le l k;generalize l.getD k none=x at q HS;cases x
   ·simp only[ptr]at q
    go_wp2
    go_round
    case rel=>exact⟨k+1,by omega,by go_num,by rw[HS.out];rfl⟩
    case measure=>simp[intOf];omega
   ·simp only[ptr]at q
    go_wp2
    go_round
    case rel=>exact⟨k+1,by omega,by go_num,by rw[HS.out];simp;done⟩
    case measure=>simp[intOf];omega
  ·go_wp2
   go_ret
   exact⟨ret_int (by have:k=n:=by omega
                     rw[this]),rfl⟩
theorem live_eq{T:Tags}{o:Nat}{w:World}{p:Nat}{L:YL}{σ:Sp}(hy:YAt T o w p L σ):liveTo L.ps σ.arrs.length=σ.live:=by
 have key:∀(l:List (Option Nat)) (m:List (Option Arr)),l.length=m.length→(∀i:Nat,(l[i]?).map Option.isSome=(m[i]?).map Option.isSome)→(l.filter Option.isSome).length=(m.filter Option.isSome).length:=by
  intro l
  induction l with
  |nil=>intro m hm _;rw[List.length_eq_zero_iff.1 hm.symm];rfl
  |cons x l ih=>
   intro m hm he
   match m,hm with
   |y::m,hm=>
    have h0:=he 0;simp at h0;have hr:=ih m (by simpa using hm) (fun i=>by simpa using he (i+1));simp only[List.filter_cons,h0];split<;>simp[hr]
 unfold liveTo Sp.live;rw[List.take_of_length_le (by rw[hy.len];exact Nat.le_refl _)];refine key _ _ hy.len (fun i=>?_);cases ha:σ.arrs[i]? with
 |none=>
  have:σ.arrs.length≤i:=List.getElem?_eq_none_iff.1 ha;rw[List.getElem?_eq_none (by rw[hy.len];exact this)];rfl
 |some x=>
  cases x with
  |none=>rw[hy.non i ha];rfl
  |some a=>
   obtain⟨q,vs,vc,hq,_⟩:=hy.som i a ha;rw[hq];rfl
theorem ylive_calls{T:Tags}{o:Nat}{w:World}{p:Nat}{L:YL}{σ:Sp}(hy:YAt T o w p L σ)(hok:σ.ok):Calls Tryz.prog 169 #[.pointer (some ⟨p,0,none⟩)] w fun e w'=>e=.returned (.int .i64 (σ.live:Int))∧w'=w:=by
 obtain⟨-,-,-,-,-,q6,-⟩:=hy.cells;rcases hy.ptrs with⟨hv,hn⟩|⟨g,cap,hv,hc⟩
 ·rw[hv]at q6
  have:σ.live=0:=by
   have h:=live_eq hy;rw[hn]at h;rw[←h];rfl
  rw[this];exact ylive_nil q6
 ·rw[hv]at q6
  rw[←live_eq hy];exact ylive_any L.ps hy.len hok.many q6 hc
theorem yused_nil{p:Nat}{w:World}(b:Int)(q6:w.cell? ⟨p,6,none⟩=some (.slice none 0 0)):Calls Tryz.prog 147 #[.pointer (some ⟨p,0,none⟩),.int .i64 b] w fun e w'=>e=.returned (.bool false)∧w'=w:=by
 go_enter Tryz.func147,Tryz.ntmps147
 go_wp2
 refine wp_loop_rounds 1 ?_;rw[rounds_succ];go_wp2
 go_ret;exact⟨rfl,rfl⟩
theorem yused_any{T:Tags}{o:Nat}{w:World}{p:Nat}{L:YL}{σ:Sp}(hy:YAt T o w p L σ)(b g n cap:Nat)(HN:Hid (σ.arrs.length=n))(hn:n≤100000000)(q6:w.cell? ⟨p,6,none⟩=some (.slice (some ⟨g,0,none⟩) n cap))(hc:∀j,j<n→w.cell? ⟨g,j,none⟩=some (ptr (L.ps.getD j none))):Calls Tryz.prog 147 #[.pointer (some ⟨p,0,none⟩),.int .i64 (b:Int)] w fun e w'=>e=.returned (.bool (σ.used b))∧w'=w:=by
 have HC:=hid hc;have HY:=hid hy;clear hc hy;go_enter Tryz.func147,Tryz.ntmps147
 go_wp2
 go_loop [5] (fun i=>∃k:Nat,k≤n∧i=.int .i64 k∧usedTo σ.arrs b k=false) (fun i=>n-(intOf i).toNat)
 case atStart=>exact⟨0,Nat.zero_le _,rfl,rfl⟩
 case round=>
  obtain⟨k,hk,rfl,hu⟩:=hrel;have HU:=hid hu;clear hu;by_cases hlt:k<n
  ·have q:=HC.out k hlt
   have hka:k<σ.arrs.length:=by have:=HN.out;omega
   have HS:=hid (usedTo_succ σ.arrs b k hka);cases ha:σ.arrs[k]with
   |none=>
    have hp:=HY.out.non k (by rw[List.getElem?_eq_getElem hka,ha]);simp only[List.getD,hp,Option.getD_some,ptr]at q;have HR:Hid (usedTo σ.arrs b (k+1)=false):=hid<|by rw[HS.out,HU.out,ha];rfl
    clear HS ha hp hka;go_wp2
    go_round
    case rel=>exact⟨k+1,by omega,by go_num,HR.out⟩
    case measure=>simp[intOf];omega
   |some a=>
    obtain⟨qb,vs,vc,hp,hy⟩:=HY.out.som k a (by rw[List.getElem?_eq_getElem hka,ha]);simp only[List.getD,hp,Option.getD_some,ptr]at q;have q2:w.cell? ⟨qb,4,none⟩=some (.int .i64 (a.buf:Int)):=by simp[World.cell?,hy.blk]
    have HR:Hid (usedTo σ.arrs b (k+1)=(a.buf==b)):=hid<|by rw[HS.out,HU.out,ha];rfl
    have HT:Hid (usedTo σ.arrs b (k+1)=true→σ.used b=true):=hid (usedTo_mono σ.arrs b (k+1) _ hka);clear HS ha hp hka hy;by_cases hb:a.buf=b
    ·have d:((a.buf:Int)==(b:Int))=true:=by simp[hb]
     have HB:=hid hb;clear hb;go_wp2
     go_ret;exact⟨ret_bool (HT.out (by rw[HR.out,HB.out];simp)).symm,rfl⟩
    ·have d:((a.buf:Int)==(b:Int))=false:=by rw[beq_eq_false_iff_ne];omega
     have HB:=hid hb;clear hb;go_wp2
     go_round
     case rel=>exact⟨k+1,by omega,by go_num,by rw[HR.out];simp[HB.out]⟩
     case measure=>simp[intOf];omega
  ·go_wp2
   go_ret;refine⟨ret_bool ?_,rfl⟩;unfold Sp.used;have:σ.arrs.length=k:=by have:=HN.out;omega
   rw[this,HU.out]
theorem yused_calls{T:Tags}{o:Nat}{w:World}{p:Nat}{L:YL}{σ:Sp}(hy:YAt T o w p L σ)(hok:σ.ok)(b:Nat):Calls Tryz.prog 147 #[.pointer (some ⟨p,0,none⟩),.int .i64 (b:Int)] w fun e w'=>e=.returned (.bool (σ.used b))∧w'=w:=by
 obtain⟨-,-,-,-,-,q6,-⟩:=hy.cells;rcases hy.ptrs with⟨hv,hn⟩|⟨g,cap,hv,hc⟩
 ·rw[hv]at q6
  have:σ.used b=false:=by
   unfold Sp.used;rw[hn];rfl
  rw[this];exact yused_nil b q6
 ·rw[hv]at q6
  exact yused_any hy b g _ cap rfl hok.many q6 hc
theorem Tryz.infoInt:(Tryz.prog.info? 3).map (fun i=>(i.zero,i.size,i.bytes))=some (some (.int .i64 0),1,8):=by kernel_rfl
theorem Tryz.infoBool:(Tryz.prog.info? 4).map (fun i=>(i.zero,i.size,i.bytes))=some (some (.bool false),1,1):=by kernel_rfl
def rep(n:Nat)(z:Value):Array Value:=(List.replicate n z).toArray
theorem run_mk{P:Program}(t e:TypeId)(z:Value)(bytes:Nat)(ht:P.underlying t=some (.slice e))(hi:(P.info? e).map (fun i=>(i.zero,i.size,i.bytes))=some (some z,1,bytes))(hz:z.cells= #[z])(hby:bytes≤100)(n:Nat)(hn:n≤1000000000000)(W:World):(Instr.makeSlice t (.int .i64 (n:Int)) (.int .i64 (n:Int))).run P W=.ok (.slice (some ⟨W.heap.size,0,none⟩) n n) (W.alloc (.cells (rep n z) e)):=by
 obtain⟨i,hi,hz0,hz1,hz2⟩:=info_parts hi;have hb:(i.bytes:Int)*(n:Int)≤281474976710656:=by
  have h1:i.bytes*n≤100*1000000000000:=Nat.mul_le_mul (by omega) hn;have h2:((i.bytes*n:Nat):Int)≤281474976710656:=by omega
  rwa [Int.natCast_mul]at h2
 have:=run_make (P:=P) W t e i z ht hi hz0 .i64 .i64 n n (by omega) (Int.le_refl _) hb (by omega);rw[this,hz1,hz];simp only[Int.toNat_natCast,Nat.mul_one];congr 4
 unfold rep;rw[←toList_madeCells_one]
def bls(t:Int→Bool)(n:Nat):Array Value:=((List.range n).map fun j:Nat=>Value.bool (t j)).toArray
theorem bls_size(t:Int→Bool)(n:Nat):(bls t n).size=n:=by simp[bls]
theorem bls_get(t:Int→Bool)(n j:Nat)(h:j<n):(bls t n)[j]? =some (.bool (t j)):=by simp[bls,h]
theorem bls_rep(n:Nat):bls (fun _=>false) n=rep n (.bool false):=by
 unfold bls rep;congr 1
 apply List.ext_getElem<;>simp
theorem bls_set(t t':Int→Bool)(n j:Nat)(v:Bool)(hj:t' j=v)(h:∀i:Nat,i≠j→t' i=t i):(bls t n).setIfInBounds j (.bool v)=bls t' n:=by
 apply Array.ext_getElem?
 intro i;by_cases hi:i<n
 ·rw[bls_get t' n i hi]
  by_cases hij:i=j
  ·subst hij
   rw[Array.getElem?_setIfInBounds_self_of_lt (by rw[bls_size];exact hi),hj]
  ·rw[Array.getElem?_setIfInBounds_ne (by omega),bls_get t n i hi,h i hij]
 ·rw[Array.getElem?_eq_none (by simp[bls_size];omega),Array.getElem?_eq_none (by simp[bls_size];omega)]
theorem bufs_get(l:List Buf)(j:Nat)(b:Buf)(h:l[j]? =some b):(l.flatMap Buf.row)[j*3]? =some (.int .i64 b.kind)∧(l.flatMap Buf.row)[j*3+1]? =some (.int .i64 b.at')∧(l.flatMap Buf.row)[j*3+2]? =some (.int .i64 b.size):=by
 induction l generalizing j with
 |nil=>simp at h
 |cons x l ih=>
  cases j with
  |zero=>
   simp at h;subst h;simp[Buf.row]
  |succ j=>
   simp at h;have:=ih j h;have e:∀r,(Buf.row x++l.flatMap Buf.row)[(j+1)*3+r]? =(l.flatMap Buf.row)[j*3+r]? :=by
    intro r;rw[List.getElem?_append_right (by simp[Buf.row];omega)];congr 1
    simp[Buf.row];omega
   simp only[List.flatMap_cons];exact⟨(e 0).trans this.1,(e 1).trans this.2.1,(e 2).trans this.2.2⟩
theorem YAt.bufAt{T:Tags}{o:Nat}{w:World}{p:Nat}{L:YL}{σ:Sp}(h:YAt T o w p L σ):(L.vb=.slice none 0 0∧σ.bufs.length=0)∨∃g cap,L.vb=.slice (some ⟨g,0,none⟩) σ.bufs.length cap∧∀(j:Nat) (b:Buf),σ.bufs[j]? =some b→w.cell? ⟨g,j*3,none⟩=some (.int .i64 b.kind)∧w.cell? ⟨g,j*3+1,none⟩=some (.int .i64 b.at')∧w.cell? ⟨g,j*3+2,none⟩=some (.int .i64 b.size):=by
 rcases row_form h.vb with hn|⟨g,cap,hv,_,_,hc⟩
 ·exact .inl hn
 ·refine .inr ⟨g,cap,hv,fun j b hb=>?_⟩
  have hj:j<σ.bufs.length:=by
   rcases Nat.lt_or_ge j σ.bufs.length with h'|h'
   ·exact h'
   ·rw[List.getElem?_eq_none h']at hb;cases hb
  have:=bufs_get σ.bufs j b hb;rw[hc _ (by omega),hc _ (by omega),hc _ (by omega)];exact this
theorem takenTo_succ(σ:Sp)(kind:Int)(m:Nat)(c:Int)(b:Buf)(h:σ.bufs[m]? =some b):takenTo σ kind (m+1) c=(takenTo σ kind m c||(σ.used m&&(b.kind==kind&&(decide (b.at'≤c)&&decide (c<b.at'+b.size))))):=by
 unfold takenTo;rw[List.range_succ,List.any_append];simp[h]
theorem ytaken_nil{p n:Nat}{w:World}(kind:Int)(hk1:1≤kind)(hk2:kind≤2)(hn:n≤10000)(q0:w.cell? ⟨p,kind.toNat,none⟩=some (.int .i64 (n:Int)))(q7:w.cell? ⟨p,7,none⟩=some (.slice none 0 0)):Calls Tryz.prog 121 #[.pointer (some ⟨p,0,none⟩),.int .i64 kind] w fun e w'=>e=.returned (.slice (some ⟨w.heap.size,0,none⟩) n n)∧w'=w.alloc (.cells (rep n (.bool false)) 4):=by
 have hmk:=fun W=>run_mk (P:=Tryz.prog) 39 4 (.bool false) 1 Tryz.underlying39 Tryz.infoBool rfl (by omega) n (by omega) W
 have hp:p<w.heap.size:=block_lt_of_cell q0;go_enter Tryz.func121,Tryz.ntmps121
 go_wp2
 refine wp_loop_rounds 1 ?_;rw[rounds_succ];go_wp2
 go_ret;exact⟨rfl,rfl⟩
theorem YAt.kp0{T:Tags}{o:Nat}{w w':World}{p:Nat}{L:YL}{σ:Sp}(h:YAt T o w p L σ)(k:Kp0 w w'):YAt T o w' p L σ:=h.kp k (fun _ _ e=>e)
theorem frozen_blk{w:World}{g j:Nat}{c:Array Value}{t:TypeId}(h:w.heap[g]? =some (.cells c t (0,0))):w.frozen? ⟨g,j,none⟩=false:=frozen_of_row w g j c t h
def takenJ(σ:Sp)(kind:Int)(m:Nat)(b:Buf)(j:Nat)(c:Int):Bool:=takenTo σ kind m c||(decide (b.at'≤c)&&decide (c<b.at'+j))
theorem takenJ_zero(σ:Sp)(kind:Int)(m:Nat)(b:Buf):takenJ σ kind m b 0=takenTo σ kind m:=by
 funext c
 unfold takenJ;have:(decide (b.at'≤c)&&decide (c<b.at'+((0:Nat):Int)))=false:=by
  rw[Bool.and_eq_false_iff];by_cases h:b.at'≤c
  ·right;simp;omega
  ·left;simp[h]
 rw[this,Bool.or_false]
theorem ytaken_any{T:Tags}{o:Nat}{w:World}{p:Nat}{L:YL}{σ:Sp}(hy:YAt T o w p L σ)(hok:σ.ok)(kind:Int)(n g m cap:Nat)(hk1:1≤kind)(hk2:kind≤2)(HN:Hid (σ.cap kind=n))(hn:n≤10000)(HM:Hid (σ.bufs.length=m))(hm:m≤100000000)(q0:w.cell? ⟨p,kind.toNat,none⟩=some (.int .i64 (n:Int)))(q7:w.cell? ⟨p,7,none⟩=some (.slice (some ⟨g,0,none⟩) m cap))(hc:∀(j:Nat) (b:Buf),σ.bufs[j]? =some b→w.cell? ⟨g,j*3,none⟩=some (.int .i64 b.kind)∧w.cell? ⟨g,j*3+1,none⟩=some (.int .i64 b.at')∧w.cell? ⟨g,j*3+2,none⟩=some (.int .i64 b.size)):Calls Tryz.prog 121 #[.pointer (some ⟨p,0,none⟩),.int .i64 kind] w fun e w'=>e=.returned (.slice (some ⟨w.heap.size,0,none⟩) n n)∧Kp0 w w'∧w'.heap[w.heap.size]? =some (.cells (bls (σ.taken kind) n) 4 (0,0)):=by
 have hmk:=fun W=>run_mk (P:=Tryz.prog) 39 4 (.bool false) 1 Tryz.underlying39 Tryz.infoBool rfl (by omega) n (by omega) W
 have hp:p<w.heap.size:=block_lt_of_cell q0;have HC:=hid hc;have HY:=hid hy;have HO:=hid hok;clear hc hy hok;go_enter Tryz.func121,Tryz.ntmps121
 go_wp2
 clear hmk
 go_loopw [6] (fun i w'=>∃k:Nat,k≤m∧i=.int .i64 k∧Kp0 w w'∧w'.heap[w.heap.size]? =some (.cells (bls (takenTo σ kind k) n) 4 (0,0))) (fun i _=>m-(intOf i).toNat)
 case atStart=>exact⟨0,Nat.zero_le _,rfl,(Kp.refl _ _).alloc _,by rw[heap_alloc_new];rw[←bls_rep];rfl⟩
 case round=>
  obtain⟨k,hk,rfl,hK,hG⟩:=hrel;have HK:=hid hK;have HG:=hid hG;have r7:=hK.cell q7;have hy':=HY.out.kp0 hK;by_cases hlt:k<m
  ·obtain⟨b,hb⟩:∃b,σ.bufs[k]? =some b:=⟨_,List.getElem?_eq_getElem (by have:=HM.out;omega)⟩
   obtain⟨z0,z1,z2⟩:=HC.out k b hb;have z0:=hK.cell z0;have z1:=hK.cell z1;have z2:=hK.cell z2;obtain⟨-,b2,b3,b4,b5⟩:=HO.out.buf k b hb;have hS:=fun c=>takenTo_succ σ kind k c b hb
   cases hu:σ.used k
   ·have HS:Hid (takenTo σ kind (k+1)=takenTo σ kind k):=hid<|by
     funext c;rw[hS c,hu];simp
    have HY':=hid hy';have d0:decide ((0:Int)<b.size)=true:=by simp;omega
    clear hS hb hK hG hy'
    go_wp2_with (go_at_call 147;refine(yused_calls HY'.out HO.out k).mono ?_;rintro e w' ⟨rfl,rfl⟩)
    refine wp_loop_rounds 1 ?_;rw[rounds_succ];go_wp2
    go_roundw
    case rel=>exact⟨k+1,by omega,by go_num,HK.out,by rw[HS.out];exact HG.out⟩
    case measure=>simp[intOf];omega
   ·by_cases hkk:b.kind=kind
    ·have HS:Hid (takenTo σ kind (k+1)=takenJ σ kind k b b.size.toNat):=hid<|by
      funext c;rw[hS c,hu,hkk]
      unfold takenJ;rw[show((b.size.toNat:Nat):Int)=b.size by omega];simp
     have HY':=hid hy';have dk:(b.kind==kind)=true:=by simp[hkk]
     have HKK:=hid hkk;have HCAP:Hid (b.at'+b.size≤n):=hid<|by rw[hkk,HN.out]at b5;exact b5
     have HB:=hid hb;clear hS hb hK hG hy' hkk b5
     go_wp2_with (go_at_call 147;refine(yused_calls HY'.out HO.out k).mono ?_;rintro e w' ⟨rfl,rfl⟩)
     go_loopw [8] (fun i w'=>∃j:Nat,(j:Int)≤b.size∧i=.int .i64 j∧Kp0 w w'∧w'.heap[w.heap.size]? =some (.cells (bls (takenJ σ kind k b j) n) 4 (0,0))) (fun i _=>b.size.toNat-(intOf i).toNat)
     case atStart=>exact⟨0,by omega,rfl,HK.out,by rw[takenJ_zero];exact HG.out⟩
     case round=>
      obtain⟨j,hj,rfl,hK2,hG2⟩:=hrel;have y7:=hK2.cell q7;obtain⟨x0,x1,x2⟩:=HC.out k b HB.out;have x0:=hK2.cell x0;have x1:=hK2.cell x1;have x2:=hK2.cell x2;have HK2:=hid hK2;have HG2:=hid hG2;have hsz:w.heap.size<wr.heap.size:=lt_of_heap hG2;by_cases hjt:(j:Int)<b.size
      ·have hcell:wr.cell? ⟨w.heap.size,(b.at'+j).toNat,none⟩=some (.bool (takenJ σ kind k b j ((b.at'+j).toNat:Nat))):=by
        rw[cell_of_row wr _ _ _ _ _ hG2,bls_get _ _ _ (by have:=HCAP.out;omega)]
       have hfz:wr.frozen? ⟨w.heap.size,(b.at'+j).toNat,none⟩=false:=frozen_blk hG2;have hcap:=HCAP.out;clear hK2 hG2;go_wp2
       go_roundw
       case rel=>
        refine⟨j+1,by omega,by go_num,Kp.setCell HK2.out _ _ (fun h=>by simp at h),?_⟩;rw[heap_setCell_same _ _ _ _ _ _ HG2.out];rw[bls_set _ (takenJ σ kind k b (j+1)) n _ true]
        ·unfold takenJ
         rw[Bool.or_eq_true];right
         simp;omega
        ·intro i hi
         unfold takenJ;congr 1
         rw[Bool.eq_iff_iff];simp;omega
       case measure=>simp[intOf];omega
      ·have hje:j=b.size.toNat:=by omega
       have dj:decide ((j:Int)<b.size)=false:=by simp[hjt]
       have HJ:=hid hje;clear hK2 hG2 hje;go_wp2
       go_roundw
       case rel=>exact⟨k+1,by omega,by go_num,HK2.out,by rw[HS.out,←HJ.out];exact HG2.out⟩
       case measure=>simp[intOf];omega
    ·have HS:Hid (takenTo σ kind (k+1)=takenTo σ kind k):=hid<|by
      funext c;rw[hS c,hu];simp[hkk]
     have HY':=hid hy';have d0:decide ((0:Int)<b.size)=true:=by simp;omega
     have dk:(b.kind==kind)=false:=by simp[hkk]
     clear hS hb hK hG hy' hkk
     go_wp2_with (go_at_call 147;refine(yused_calls HY'.out HO.out k).mono ?_;rintro e w' ⟨rfl,rfl⟩)
     refine wp_loop_rounds 1 ?_;rw[rounds_succ];go_wp2
     go_roundw
     case rel=>exact⟨k+1,by omega,by go_num,HK.out,by rw[HS.out];exact HG.out⟩
     case measure=>simp[intOf];omega
  ·go_wp2
   go_ret;refine⟨rfl,HK.out,?_⟩;unfold Sp.taken;have:σ.bufs.length=k:=by have:=HM.out;omega
   rw[this];exact HG.out
theorem YAt.capCell{T:Tags}{o:Nat}{w:World}{p:Nat}{L:YL}{σ:Sp}(hy:YAt T o w p L σ)(kind:Int)(hk:kind=1∨kind=2):w.cell? ⟨p,kind.toNat,none⟩=some (.int .i64 (σ.cap kind:Int)):=by
 obtain⟨-,q1,q2,-⟩:=hy.cells;rcases hk with rfl|rfl
 ·exact q1
 ·exact q2
theorem Sp.ok.cap{σ:Sp}(h:σ.ok)(kind:Int):σ.cap kind≤10000:=by
 unfold Sp.cap;split
 ·exact h.n1
 ·exact h.n2
theorem ytaken_calls{T:Tags}{o:Nat}{w:World}{p:Nat}{L:YL}{σ:Sp}(hy:YAt T o w p L σ)(hok:σ.ok)(kind:Int)(hk:kind=1∨kind=2):Calls Tryz.prog 121 #[.pointer (some ⟨p,0,none⟩),.int .i64 kind] w fun e w'=>e=.returned (.slice (some ⟨w.heap.size,0,none⟩) (σ.cap kind) (σ.cap kind))∧Kp0 w w'∧w'.heap[w.heap.size]? =some (.cells (bls (σ.taken kind) (σ.cap kind)) 4 (0,0)):=by
 obtain⟨-,-,-,-,-,-,q7⟩:=hy.cells;have q0:=hy.capCell kind hk;rcases hy.bufAt with⟨hv,hn⟩|⟨g,cap,hv,hc⟩
 ·rw[hv]at q7
  refine(ytaken_nil kind (by omega) (by omega) (hok.cap kind) q0 q7).mono ?_;rintro e w' ⟨rfl,rfl⟩;refine⟨rfl,(Kp.refl _ _).alloc _,?_⟩;rw[heap_alloc_new,←bls_rep];have:σ.taken kind=fun _=>false:=by
   funext c
   unfold Sp.taken takenTo;rw[hn];rfl
  rw[this]
 ·rw[hv]at q7
  exact ytaken_any hy hok kind _ g _ cap (by omega) (by omega) rfl (hok.cap kind) rfl hok.bufs q0 q7 hc
theorem placeIn_step(t:Int→Bool)(size f i:Nat)(h:¬runTo t (i+1)=size):placeIn t size (f+1) i=placeIn t size f (i+1):=by
 simp only[placeIn];rw[if_neg h]
theorem placeIn_found(t:Int→Bool)(size f i:Nat)(h:runTo t (i+1)=size):placeIn t size (f+1) i=(i:Int)+1-size:=by
 simp only[placeIn];rw[if_pos h]
theorem yplace_calls{T:Tags}{o:Nat}{w:World}{p:Nat}{L:YL}{σ:Sp}(hy:YAt T o w p L σ)(hok:σ.ok)(kind:Int)(hk:kind=1∨kind=2)(size:Nat)(hs:size≤3600):Calls Tryz.prog 170 #[.pointer (some ⟨p,0,none⟩),.int .i64 kind,.int .i64 (size:Int)] w fun e w'=>e=.returned (.int .i64 (σ.place kind size))∧Kp0 w w':=by
 have HY:=hid hy;have HO:=hid hok;have HK:=hid hk;have hn:=hok.cap kind;unfold Sp.place;have HT:Hid (∀w,YAt T o w p L σ→Calls Tryz.prog 121 #[.pointer (some ⟨p,0,none⟩),.int .i64 kind] w fun e w'=>e=.returned (.slice (some ⟨w.heap.size,0,none⟩) (σ.cap kind) (σ.cap kind))∧Kp0 w w'∧w'.heap[w.heap.size]? =some (.cells (bls (σ.taken kind) (σ.cap kind)) 4 (0,0))):=
  fun w hy=>ytaken_calls hy hok kind hk
 clear hy hok hk;generalize σ.cap kind=n at*;generalize σ.taken kind=t at*;go_enter Tryz.func170,Tryz.ntmps170
 go_wp2_with fail
 refine(HT.out _ HY.out).mono ?_;rintro e w1 ⟨rfl,hK1,hG⟩;have HK1:=hid hK1;have HG:=hid hG;clear hK1 hG HT;go_wp2
 go_loop [8,9] (fun r i=>∃k:Nat,k≤n∧i=.int .i64 k∧r=.int .i64 (runTo t k:Int)∧placeIn t size n 0=placeIn t size (n-k) k) (fun _ i=>n-(intOf i).toNat)
 case atStart=>exact⟨0,Nat.zero_le _,rfl,rfl,rfl⟩
 case round=>
  obtain⟨k,hk,rfl,rfl,hp⟩:=hrel;have HP:=hid hp;clear hp;have hrk:=runTo_le t k;by_cases hlt:k<n
  ·have q:w1.cell? ⟨w.heap.size,k,none⟩=some (.bool (t k)):=by
    rw[cell_of_row w1 _ _ _ _ _ HG.out,bls_get _ _ _ hlt]
   have HR:Hid (runTo t (k+1)=if t k then 0 else runTo t k+1):=rfl;obtain⟨f,hf⟩:∃f,n-k=f+1:=⟨n-k-1,by omega⟩;have HF:=hid hf;clear hf;cases ht:t k
   ·rw[ht]at q
    by_cases hr:runTo t k+1=size
    ·have d:(((runTo t k:Nat):Int)+1==(size:Int))=true:=by rw[beq_iff_eq];omega
     have HE:=hid hr;clear hr;go_wp2
     go_ret;refine⟨ret_int ?_,HK1.out⟩;rw[HP.out,HF.out,placeIn_found _ _ _ _ (by rw[HR.out,ht];exact HE.out)]
    ·have d:(((runTo t k:Nat):Int)+1==(size:Int))=false:=by rw[beq_eq_false_iff_ne];omega
     have HE:=hid hr;clear hr;go_wp2
     go_round
     case rel=>exact⟨k+1,by omega,by go_num,by rw[HR.out,ht];simp,by rw[HP.out,HF.out,placeIn_step _ _ _ _ (by rw[HR.out,ht];exact HE.out)];congr 1;have:=HF.out;omega⟩
     case measure=>simp[intOf];omega
   ·rw[ht]at q
    by_cases hr:0=size
    ·have d:((0:Int)==(size:Int))=true:=by rw[beq_iff_eq];omega
     have HE:=hid hr;clear hr;go_wp2
     go_ret;refine⟨ret_int ?_,HK1.out⟩;rw[HP.out,HF.out,placeIn_found _ _ _ _ (by rw[HR.out,ht];exact HE.out)]
    ·have d:((0:Int)==(size:Int))=false:=by rw[beq_eq_false_iff_ne];omega
     have HE:=hid hr;clear hr;go_wp2
     go_round
     case rel=>exact⟨k+1,by omega,by go_num,by rw[HR.out,ht];simp,by rw[HP.out,HF.out,placeIn_step _ _ _ _ (by rw[HR.out,ht];exact HE.out)];congr 1;have:=HF.out;omega⟩
     case measure=>simp[intOf];omega
  ·go_wp2
   go_ret;refine⟨ret_int ?_,HK1.out⟩;rw[HP.out,show n-k=0 by omega];rfl
theorem Tryz.infoPtrArr:(Tryz.prog.info? 178).map (fun i=>(i.zero,i.size,i.bytes))=some (some (.pointer none),1,8):=by kernel_rfl
def Sp.lay(σ:Sp)(a:Arr):Sp:={σ with arrs:=σ.arrs++[some a]}
theorem ylay_many{T:Tags}{o:Nat}{w:World}{p:Nat}{L:YL}{σ:Sp}(hy:YAt T o w p L σ)(hok:σ.ok)(q:Nat)(hl:40≤σ.live):Calls Tryz.prog 145 #[.pointer (some ⟨p,0,none⟩),.pointer (some ⟨q,0,none⟩)] w fun e w'=>e=.returned (.tuple #[.int .i64 0,.int .i64 7])∧w'=w:=by
 have HY:=hid hy;have HO:=hid hok;clear hy hok;go_enter Tryz.func145,Tryz.ntmps145
 go_wp2_with fail
 refine(ylive_calls HY.out HO.out).mono ?_;rintro e w' ⟨rfl,rfl⟩;go_wp2
 go_ret2
 exact⟨rfl,rfl⟩
theorem ylay_row{w:World}{p q n:Nat}{v:Value}{xs:List Value}(live:Nat)(Q:World→Prop)(hQ:∀w,Q w→Calls Tryz.prog 169 #[.pointer (some ⟨p,0,none⟩)] w fun e w'=>e=.returned (.int .i64 (live:Int))∧w'=w)(hq:Q w)(hl:live<40)(hv:w.ownsRow 0 178 1 v n xs)(hn:n≤100000000)(q6:w.cell? ⟨p,6,none⟩=some v)(f6:w.frozen? ⟨p,6,none⟩=false)(hne:v.ownBlock≠some p):Calls Tryz.prog 145 #[.pointer (some ⟨p,0,none⟩),.pointer (some ⟨q,0,none⟩)] w fun e w'=>e=.returned (.tuple #[.int .i64 ((n:Int)+1),.int .i64 0])∧∃g cap w1,w1.ownsRow 0 178 1 (.slice (some ⟨g,0,none⟩) (n+1) cap) (n+1) (xs++[ptr (some q)])∧(w.alloc (.cells #[ptr (some q)] 178)).grownBy w1 v.ownBlock∧(v.ownBlock=some g∨g=w.heap.size+1)∧w'=w1.setCell ⟨p,6,none⟩ (.slice (some ⟨g,0,none⟩) (n+1) cap):=by
 have hp:p<w.heap.size:=block_lt_of_cell q6;obtain⟨i,hi,hz0,hz1,hz2⟩:=info_parts Tryz.infoPtrArr;have HQ:=hid hQ;have Hq:=hid hq;clear hQ hq;have hform:v=.slice none 0 0∨∃g cap,v=.slice (some ⟨g,0,none⟩) n cap:=by
  rcases row_form hv with⟨h,_⟩|⟨g,cap,h,_⟩
  ·exact .inl h
  ·exact .inr ⟨g,cap,h⟩
 have h63:Hid (n+1≤maxLen):=hid (by unfold maxLen;omega);have hbytes:Hid ((n+1)*8≤140737488355328):=hid (by omega);have h1:Hid (∀u∈[Value.pointer (some ⟨q,0,none⟩)],u.oneCell'=true):=hid (by intro u hu;simp at hu;subst hu;rfl);have HV:=hid hv;have HNE:Hid (some p≠v.ownBlock):=hid (fun e=>hne e.symm);clear hv hne;rcases hform with rfl|⟨g,cap,rfl⟩
 all_goals
  go_enter Tryz.func145,Tryz.ntmps145
  go_wp2_with fail
  refine(HQ.out _ Hq.out).mono ?_;rintro e w' ⟨rfl,hw⟩;obtain rfl:=hw.symm
  go_wp2_with (at_builtin;refine wpList_append_lies _ rfl _ _ _ rfl 0 178 i (.pointer none) 1 8 Tryz.underlying150 hi hz0 hz1 hz2 rfl (by omega) _ n xs rfl (HV.out.alloc _) ⟨w.heap.size,0,none⟩ 1 1 [.pointer (some ⟨q,0,none⟩)] rfl rfl (cell_one_new _ _ _) h1.out (by omega) h63.out hbytes.out (Nat.zero_le _) (w.heap.size+1) (by simp) ?_)
  intro g' cap' w1 hown1 hgrow hat hlt;have c6:w1.cell? ⟨p,6,none⟩=_:=hgrow.cell (by rw[World.cell?_alloc_lt _ _ _ hp];exact q6) HNE.out;have e6:w1.frozen? ⟨p,6,none⟩=false:=by rw[hgrow.frozen_far _ (by simp;omega) HNE.out,World.frozen?_alloc_past _ _ _ hp];exact f6
  have HW:=hid hown1;have HG:=hid hgrow;have HA:=hid hat;clear hown1 hgrow hat;go_wp2
  go_ret2
  exact⟨rfl,g',cap',w1,HW.out,HG.out,HA.out,rfl⟩
def retag(w:World)(T:Tags)(t:Nat×Nat):Tags:=fun b=>if b<w.heap.size then T b else t
theorem retag_to(w:World)(T:Tags)(t:Nat×Nat):TagsTo w T (retag w T t):=fun _ hb=>if_pos hb
theorem retag_new{w:World}{T:Tags}{t:Nat×Nat}{b:Nat}(h:w.heap.size≤b):retag w T t b=t:=if_neg (by omega)
theorem ylay_calls{T:Tags}{o:Nat}{w:World}{p:Nat}{L:YL}{σ:Sp}(hy:YAt T o w p L σ)(hok:σ.ok)(q:Nat)(vs vc:Value)(a:Arr)(hq:YArr T o w q vs vc a)(hl:σ.live<40):Calls Tryz.prog 145 #[.pointer (some ⟨p,0,none⟩),.pointer (some ⟨q,0,none⟩)] w fun e w'=>e=.returned (.tuple #[.int .i64 ((σ.arrs.length:Int)+1),.int .i64 0])∧∃T' L',TagsTo w T T'∧YAt T' o w' p L' (σ.lay a)∧Kp (fun b=>T b=(o,1)∨T b=(o,4)) w w':=by
 obtain⟨-,-,-,-,-,q6,-⟩:=hy.cells;have hp:p<w.heap.size:=lt_of_heap hy.blk;have hne:L.va.ownBlock≠some p:=fun e=>by
  have:=hy.ta p e;rw[hy.tp]at this;simp at this
 refine(ylay_row (p:=p) σ.live (fun w=>YAt T o w p L σ) (fun w h=>ylive_calls h hok) hy hl hy.va hok.many q6 (frozen_blk hy.blk) hne).mono ?_;rintro e w' ⟨rfl,g,cap,w1,hown,hgrow,hat,rfl⟩;have hk1:Kp (fun b=>T b=(o,1)∨T b=(o,4)) w w1:=((Kp.refl _ _).alloc _).grown hgrow (fun k hk _=>.inr (hy.ta k hk));have hk:Kp (fun b=>T b=(o,1)∨T b=(o,4)) w (w1.setCell ⟨p,6,none⟩ (.slice (some ⟨g,0,none⟩) (σ.arrs.length+1) cap)):=hk1.setCell _ _ (fun _=>.inl hy.tp);have hp1:w1.heap[p]? =w.heap[p]? :=(hgrow.block p (by simp;omega) (fun e=>hne e.symm)).trans (Below.heap_alloc w _ p hp);have hg:retag w T (o,4) g=(o,4):=by
  rcases hat with h|h
  ·rw[retag_to w T _ g (own_lt hy.va h)];exact hy.ta g h
  ·exact retag_new (by omega)
 have hgp:g≠p:=by
  intro e;subst e;rw[retag_to w T _ g hp,hy.tp]at hg;simp at hg
 refine⟨rfl,retag w T (o,4),{L with va:=.slice (some ⟨g,0,none⟩) (σ.arrs.length+1) cap,ps:=L.ps++[some q]},retag_to w T _,?_,hk⟩;have no:∀(b t:Nat),t≠1→t≠4→T b=(o,t)→¬(T b=(o,1)∨T b=(o,4)):=by
  intro b t h1 h4 ht h;rw[ht]at h;simp at h;omega
 have tg:=retag_to w T (o,4);exact{
  blk:=by
   have:=heap_setCell_same w1 p 6 _ _ (.slice (some ⟨g,0,none⟩) (σ.arrs.length+1) cap) (hp1.trans hy.blk);rw[this];rfl
  c1:=hk.heap hy.c1 (no _ 2 (by omega) (by omega) hy.t1)
  c2:=hk.heap hy.c2 (no _ 3 (by omega) (by omega) hy.t2)
  va:=by
   have:=ownsRow_setCell_other hown (a:=⟨p,6,none⟩) (by simp[Value.ownBlock];exact hgp) (.slice (some ⟨g,0,none⟩) (σ.arrs.length+1) cap);simpa[Sp.lay]using this
  vb:=row_kp hy.vb hk (fun b hb=>no b 5 (by omega) (by omega) (hy.tb b hb))
  len:=by simp[Sp.lay,hy.len]
  non:=by
   intro i hi;simp only[Sp.lay]at hi;rw[List.getElem?_append]at hi;split at hi
   ·rename_i hlt
    rw[List.getElem?_append_left (by rw[hy.len];exact hlt)];exact hy.non i hi
   ·rename_i hlt
    cases hj:i-σ.arrs.length with
    |zero=>rw[hj]at hi;simp at hi
    |succ j=>rw[hj]at hi;simp at hi
  som:=by
   intro i b hi;simp only[Sp.lay]at hi;rw[List.getElem?_append]at hi;split at hi
   ·rename_i hlt
    rw[List.getElem?_append_left (by rw[hy.len];exact hlt)];obtain⟨q',vs',vc',h1,h2⟩:=hy.som i b hi;exact⟨q',vs',vc',h1,(h2.tags' tg).kp hk (fun c hc=>by
     intro hS;have hc':T c=(o,6)∨w.heap.size≤c:=by
      by_cases hlt':c<w.heap.size
      ·left;rw[←tg c hlt'];exact hc
      ·right;omega
     rcases hc' with h|h
     ·exact no c 6 (by omega) (by omega) h hS
     ·rw[retag_new h]at hc;simp at hc)⟩
   ·rename_i hlt
    cases hj:i-σ.arrs.length with
    |zero=>
     rw[hj]at hi;simp at hi;subst hi;refine⟨q,vs,vc,?_,?_⟩
     ·rw[List.getElem?_append_right (by rw[hy.len];omega),hy.len,hj]
      rfl
     ·exact(hq.tags' tg).kp hk (fun c hc=>by
       intro hS;have hc':T c=(o,6)∨w.heap.size≤c:=by
        by_cases hlt':c<w.heap.size
        ·left;rw[←tg c hlt'];exact hc
        ·right;omega
       rcases hc' with h|h
       ·exact no c 6 (by omega) (by omega) h hS
       ·rw[retag_new h]at hc;simp at hc)
    |succ j=>rw[hj]at hi;simp at hi
  tp:=by rw[tg p hp];exact hy.tp
  t1:=by rw[tg _ (lt_of_heap hy.c1)];exact hy.t1
  t2:=by rw[tg _ (lt_of_heap hy.c2)];exact hy.t2
  ta:=by
   intro b hb;simp[Value.ownBlock]at hb;subst hb;exact hg
  tb:=fun b hb=>by rw[tg b (own_lt hy.vb hb)];exact hy.tb b hb}
def Sp.put(σ:Sp)(kind:Int)(c:Nat)(v:Int):Sp:=if kind=1 then{σ with v1:=σ.v1.set c v}else{σ with v2:=σ.v2.set c v}
def YL.gk(L:YL)(kind:Int):Nat:=if kind=1 then L.g1 else L.g2
theorem ints_set(xs:List Int)(c:Nat)(v:Int):(ints xs).toArray.setIfInBounds c (.int .i64 v)=(ints (xs.set c v)).toArray:=by simp[ints,List.map_set]
theorem YAt.vcell{T:Tags}{o:Nat}{w:World}{p:Nat}{L:YL}{σ:Sp}(hy:YAt T o w p L σ)(kind:Int)(hk:kind=1∨kind=2):w.cell? ⟨p,3+kind.toNat,none⟩=some (.slice (some ⟨L.gk kind,0,none⟩) (σ.cap kind) (σ.cap kind)):=by
 obtain⟨-,-,-,q1,q2,-⟩:=hy.cells;rcases hk with rfl|rfl
 ·exact q1
 ·exact q2
theorem Sp.ok.vals{σ:Sp}(h:σ.ok)(kind:Int):(σ.vals kind).length=σ.cap kind:=by
 unfold Sp.vals Sp.cap;split
 ·exact h.v1
 ·exact h.v2
theorem YAt.vblk{T:Tags}{o:Nat}{w:World}{p:Nat}{L:YL}{σ:Sp}(hy:YAt T o w p L σ)(kind:Int)(hk:kind=1∨kind=2):w.heap[L.gk kind]? =some (.cells (ints (σ.vals kind)).toArray 3 (0,0)):=by
 rcases hk with rfl|rfl
 ·exact hy.c1
 ·exact hy.c2
theorem YAt.vat{T:Tags}{o:Nat}{w:World}{p:Nat}{L:YL}{σ:Sp}(hy:YAt T o w p L σ)(hok:σ.ok)(kind:Int)(hk:kind=1∨kind=2)(c:Nat)(hc:c<σ.cap kind):w.cell? ⟨L.gk kind,c,none⟩=some (.int .i64 (nth (σ.vals kind) c)):=by
 rw[cell_of_row w _ _ _ _ _ (hy.vblk kind hk)];have:=ints_get (xs:=σ.vals kind) (j:=c) (by rw[hok.vals kind];exact hc);simpa using this
theorem YAt.put{T:Tags}{o:Nat}{w:World}{p:Nat}{L:YL}{σ:Sp}(hy:YAt T o w p L σ)(kind:Int)(hk:kind=1∨kind=2)(c:Nat)(v:Int):YAt T o (w.setCell ⟨L.gk kind,c,none⟩ (.int .i64 v)) p L (σ.put kind c v)∧Kp (fun b=>T b=(o,2)∨T b=(o,3)) w (w.setCell ⟨L.gk kind,c,none⟩ (.int .i64 v)):=by
 have hkp:Kp (fun b=>T b=(o,2)∨T b=(o,3)) w (w.setCell ⟨L.gk kind,c,none⟩ (.int .i64 v)):=by
  refine(Kp.refl _ _).setCell _ _ (fun _=>?_);rcases hk with rfl|rfl
  ·exact .inl hy.t1
  ·exact .inr hy.t2
 refine⟨?_,hkp⟩;have no:∀(b t:Nat),t≠2→t≠3→T b=(o,t)→¬(T b=(o,2)∨T b=(o,3)):=by
  intro b t h1 h4 ht h;rw[ht]at h;simp at h;omega
 have n12:L.g1≠L.g2:=fun e=>by
  have:=hy.t1;rw[e,hy.t2]at this;simp at this
 have hva:=row_kp hy.va hkp (fun b hb=>no b 4 (by omega) (by omega) (hy.ta b hb));have hvb:=row_kp hy.vb hkp (fun b hb=>no b 5 (by omega) (by omega) (hy.tb b hb));have hsom:∀(i:Nat) (a:Arr),σ.arrs[i]? =some (some a)→∃q vs vc,L.ps[i]? =some (some q)∧YArr T o (w.setCell ⟨L.gk kind,c,none⟩ (.int .i64 v)) q vs vc a:=by
  intro i a ha;obtain⟨q,vs,vc,h1,h2⟩:=hy.som i a ha;exact⟨q,vs,vc,h1,h2.kp hkp (fun b hb=>no b 6 (by omega) (by omega) hb)⟩
 have hblk:=hkp.heap hy.blk (no p 1 (by omega) (by omega) hy.tp);rcases hk with rfl|rfl
 ·exact⟨hblk,by
   have:=heap_setCell_same w L.g1 c _ _ (.int .i64 v) hy.c1;rw[ints_set]at this;exact this,by
   have:=heap_setCell_other w ⟨L.g1,c,none⟩ L.g2 (.int .i64 v) (fun e=>n12 e.symm);exact this.trans hy.c2,hva,hvb,hy.len,hy.non,hsom,hy.tp,hy.t1,hy.t2,hy.ta,hy.tb⟩
 ·exact⟨hblk,by
   have:=heap_setCell_other w ⟨L.g2,c,none⟩ L.g1 (.int .i64 v) n12;exact this.trans hy.c1,by
   have:=heap_setCell_same w L.g2 c _ _ (.int .i64 v) hy.c2;rw[ints_set]at this;exact this,hva,hvb,hy.len,hy.non,hsom,hy.tp,hy.t1,hy.t2,hy.ta,hy.tb⟩
def Sp.more(σ:Sp)(b:Buf):Sp:={σ with bufs:=σ.bufs++[b]}
theorem YAt.more{T:Tags}{o:Nat}{w w1:World}{p:Nat}{L:YL}{σ:Sp}(hy:YAt T o w p L σ)(x:Obj)(b:Buf)(g cap:Nat)(hown:w1.ownsRow 0 213 3 (.slice (some ⟨g,0,none⟩) (σ.bufs.length+1) cap) (σ.bufs.length+1) (σ.bufs.flatMap Buf.row++b.row))(hgrow:(w.alloc x).grownBy w1 L.vb.ownBlock)(hat:L.vb.ownBlock=some g∨g=w.heap.size+1):YAt (retag w T (o,5)) o (w1.setCell ⟨p,7,none⟩ (.slice (some ⟨g,0,none⟩) (σ.bufs.length+1) cap)) p {L with vb:=.slice (some ⟨g,0,none⟩) (σ.bufs.length+1) cap} (σ.more b)∧Kp (fun b=>T b=(o,1)∨T b=(o,5)) w (w1.setCell ⟨p,7,none⟩ (.slice (some ⟨g,0,none⟩) (σ.bufs.length+1) cap)):=by
 have hp:p<w.heap.size:=lt_of_heap hy.blk;have hne:L.vb.ownBlock≠some p:=fun e=>by
  have:=hy.tb p e;rw[hy.tp]at this;simp at this
 have hk1:Kp (fun b=>T b=(o,1)∨T b=(o,5)) w w1:=((Kp.refl _ _).alloc _).grown hgrow (fun k hk _=>.inr (hy.tb k hk));have hk:Kp (fun b=>T b=(o,1)∨T b=(o,5)) w (w1.setCell ⟨p,7,none⟩ (.slice (some ⟨g,0,none⟩) (σ.bufs.length+1) cap)):=hk1.setCell _ _ (fun _=>.inl hy.tp);have hp1:w1.heap[p]? =w.heap[p]? :=(hgrow.block p (by simp;omega) (fun e=>hne e.symm)).trans (Below.heap_alloc w _ p hp);have hg:retag w T (o,5) g=(o,5):=by
  rcases hat with h|h
  ·rw[retag_to w T _ g (own_lt hy.vb h)];exact hy.tb g h
  ·exact retag_new (by omega)
 have hgp:g≠p:=by
  intro e;subst e;rw[retag_to w T _ g hp,hy.tp]at hg;simp at hg
 have no:∀(b t:Nat),t≠1→t≠5→T b=(o,t)→¬(T b=(o,1)∨T b=(o,5)):=by
  intro b t h1 h4 ht h;rw[ht]at h;simp at h;omega
 have tg:=retag_to w T (o,5);refine⟨?_,hk⟩;exact{
  blk:=by
   have:=heap_setCell_same w1 p 7 _ _ (.slice (some ⟨g,0,none⟩) (σ.bufs.length+1) cap) (hp1.trans hy.blk);rw[this];rfl
  c1:=hk.heap hy.c1 (no _ 2 (by omega) (by omega) hy.t1)
  c2:=hk.heap hy.c2 (no _ 3 (by omega) (by omega) hy.t2)
  vb:=by
   have:=ownsRow_setCell_other hown (a:=⟨p,7,none⟩) (by simp[Value.ownBlock];exact hgp) (.slice (some ⟨g,0,none⟩) (σ.bufs.length+1) cap);simpa[Sp.more]using this
  va:=row_kp hy.va hk (fun b hb=>no b 4 (by omega) (by omega) (hy.ta b hb))
  len:=hy.len
  non:=hy.non
  som:=by
   intro i b hi;obtain⟨q',vs',vc',h1,h2⟩:=hy.som i b hi;exact⟨q',vs',vc',h1,(h2.tags' tg).kp hk (fun c hc=>by
     intro hS;have hc':T c=(o,6)∨w.heap.size≤c:=by
      by_cases hlt':c<w.heap.size
      ·left;rw[←tg c hlt'];exact hc
      ·right;omega
     rcases hc' with h|h
     ·exact no c 6 (by omega) (by omega) h hS
     ·rw[retag_new h]at hc;simp at hc)⟩
  tp:=by rw[tg p hp];exact hy.tp
  t1:=by rw[tg _ (lt_of_heap hy.c1)];exact hy.t1
  t2:=by rw[tg _ (lt_of_heap hy.c2)];exact hy.t2
  tb:=by
   intro b hb;simp[Value.ownBlock]at hb;subst hb;exact hg
  ta:=fun b hb=>by rw[tg b (own_lt hy.va hb)];exact hy.ta b hb}
theorem run_append_empty(t ty e:TypeId){P:Program}(i:TypeInfo)(ht:P.underlying t=some (.slice e))(hi:P.info? e=some i)(a b:Option Addr)(n c d:Nat)(hn:n≤c)(W:World):(Builtin.append_ #[t,t] ty #[.slice a n c,.slice b 0 d]).run P W=.ok (.slice a n c) W:=by
 have hf:∀W,(Builtin.firstCells i.size 0 (.slice b 0 d)).run P W=.ok #[] W:=by
  intro W;cases b with
  |none=>rfl
  |some b=>simp[Builtin.firstCells,loadCells,loadCellsFrom]
 cases a with
 |none=>simp[Builtin.append_,run_underlying ht,sizeOf,typeInfo,hi,Builtin.lenOf,hn,hf]
 |some a=>simp[Builtin.append_,run_underlying ht,sizeOf,typeInfo,hi,Builtin.lenOf,hn,hf,storeCells]
theorem OwI.form{w:World}{ao:Option Addr}{n c:Nat}{xs:List Int}(h:OwI w (.slice ao n c) xs):n=xs.length∧n≤c:=by
 rcases h.2 with⟨h1,h0⟩|⟨g,cap,cur,h1,_,hg,hn,_,hs,ht⟩
 ·simp at h1;omega
 ·simp at h1;omega
theorem run_app(w:World)(ty:TypeId)(ao:Option Addr)(n c:Nat)(xs ys:List Int)(vx:Value)(hown:OwI w (.slice ao n c) xs)(hr:RdI w vx ys)(hb:n+ys.length≤1000000000000):∃ao' c' w',(Builtin.append_ #[26,26] ty #[.slice ao n c,vx]).run Tryz.prog w=.ok (.slice ao' (n+ys.length) c') w'∧OwI w' (.slice ao' (n+ys.length) c') (xs++ys)∧w.grownBy w' (Value.slice ao n c).ownBlock∧(∀b,(Value.slice ao' (n+ys.length) c').ownBlock=some b→(Value.slice ao n c).ownBlock=some b∨b=w.heap.size):=by
 obtain⟨i,hi,hz0,hz1,hz2⟩:=info_parts Tryz.infoInt;obtain⟨hn,hnc⟩:=hown.form;obtain⟨a,cap,rfl,hr⟩:=hr;by_cases hy:ys=[]
 ·subst hy
  refine⟨ao,c,w,run_append_empty _ _ _ i Tryz.underlying26 hi ao a n c cap hnc w,?_,World.grownBy.refl _ _,fun b hb=>.inl hb⟩;simpa using hown
 ·obtain⟨g,o,rfl,hc⟩:=hr hy
  have hown':w.ownsRow 0 3 1 (.slice ao n c) n (ints xs):=by rw[hn];rw[hn]at hown;exact hown
  have hpos:0<ys.length:=List.length_pos_iff.2 hy;obtain⟨g',cap',w',h1,h2,h3,h4,h5⟩:=run_append_lies (P:=Tryz.prog) w 26 ty 0 3 i (.int .i64 0) 1 8 Tryz.underlying26 hi hz0 hz1 hz2 rfl (by omega) _ n (ints xs) hown' ⟨g,o,none⟩ ys.length cap (ints ys) (by rw[ints_length,Nat.mul_one])
   (by
    intro j u hu;have hj:j<ys.length:=by
     rcases Nat.lt_or_ge j ys.length with h|h
     ·exact h
     ·rw[List.getElem?_eq_none (by rw[ints_length];exact h)]at hu;cases hu
    rw[ints_get hj]at hu;have:(⟨g,o,none⟩:Addr).add j=⟨g,o+j,none⟩:=by unfold Addr.add;split<;>simp_all
    rw[this,hc j hj];exact hu) (ints_cell ys) hpos (by unfold maxLen;omega) (by omega) (Nat.zero_le _) w.heap.size rfl
  refine⟨some ⟨g',0,none⟩,cap',w',h1,?_,h3,?_⟩
  ·unfold OwI
   rw[List.length_append,←hn,ints_append];exact h2
  ·intro b hb
   simp[Value.ownBlock]at hb;subst hb;exact h4
theorem wp_app{o:Oper}{a:Act}{w:World}{K:Act→World→Prop}{Q:Exit→Act→World→Prop}(s x:Operand)(ho:o.op=.call {callee:=.builtin .append,args:= #[s,x],argTypes:= #[26,26]})(ao:Option Addr)(n c:Nat)(xs ys:List Int)(vx:Value)(hs:a.eval s=.slice ao n c)(hx:a.eval x=vx)(hown:OwI w (.slice ao n c) xs)(hr:RdI w vx ys)(hb:n+ys.length≤1000000000000)(H:Nat)(hH:w.heap.size=H)(h:∀ao' c' w',OwI w' (.slice ao' (n+ys.length) c') (xs++ys)→w.grownBy w' (Value.slice ao n c).ownBlock→(∀b,(Value.slice ao' (n+ys.length) c').ownBlock=some b→(Value.slice ao n c).ownBlock=some b∨b=H)→K (a.put o.dst (.slice ao' (n+ys.length) c')) w'):o.wp Tryz.prog a w K Q:=by
 obtain⟨ao',c',w',hrun,h2,h3,h4⟩:=run_app w o.type ao n c xs ys vx hown hr hb;unfold Oper.wp execOp;simp only[ho,resolve,invoke,builtin,Sem.run_bind,Sem.run_pure,Result.andThen_ok,List.map_toArray,List.map_cons,List.map_nil,hs,hx,hrun];exact h ao' c' w' h2 h3 (by rw[←hH];exact h4)
theorem wpList_app{ops:Array Oper}{rest:List Oper}{o:Oper}{a:Act}{w:World}{Q:Exit→Act→World→Prop}(hgd:o.guard=none)(s x:Operand)(ho:o.op=.call {callee:=.builtin .append,args:= #[s,x],argTypes:= #[26,26]})(ao:Option Addr)(n c:Nat)(xs ys:List Int)(vx:Value)(hs:a.eval s=.slice ao n c)(hx:a.eval x=vx)(hown:OwI w (.slice ao n c) xs)(hr:RdI w vx ys)(hb:n+ys.length≤1000000000000)(H:Nat)(hH:w.heap.size=H)(h:∀ao' c' w',OwI w' (.slice ao' (n+ys.length) c') (xs++ys)→w.grownBy w' (Value.slice ao n c).ownBlock→(∀b,(Value.slice ao' (n+ys.length) c').ownBlock=some b→(Value.slice ao n c).ownBlock=some b∨b=H)→wpList Tryz.prog ops Q rest (a.put o.dst (.slice ao' (n+ys.length) c')) w'):wpList Tryz.prog ops Q (o::rest) a w:=
 wpList_plain hgd fun _ hK=>wp_app s x ho ao n c xs ys vx hs hx hown hr hb H hH fun ao' c' w' h2 h3 h4=>hK _ _ (h ao' c' w' h2 h3 h4)
theorem step_app{ops:Array Oper}{o:Oper}{a:Act}{w:World}{K:Act→World→Prop}{Q:Exit→Act→World→Prop}{E:Prop}(hgd:o.guard=none)(s x:Operand)(ho:o.op=.call {callee:=.builtin .append,args:= #[s,x],argTypes:= #[26,26]})(ao:Option Addr)(n c:Nat)(xs ys:List Int)(vx:Value)(hs:a.eval s=.slice ao n c)(hx:a.eval x=vx)(hown:OwI w (.slice ao n c) xs)(hr:RdI w vx ys)(hb:n+ys.length≤1000000000000)(H:Nat)(hH:w.heap.size=H)(h:∀ao' c' w',OwI w' (.slice ao' (n+ys.length) c') (xs++ys)→w.grownBy w' (Value.slice ao n c).ownBlock→(∀b,(Value.slice ao' (n+ys.length) c').ownBlock=some b→(Value.slice ao n c).ownBlock=some b∨b=H)→K (a.put o.dst (.slice ao' (n+ys.length) c')) w'):if Region.wanted o (yielded ops a.tmps)=true then Oper.wp Tryz.prog o a w K Q else E:=by
 have hw:Region.wanted o (yielded ops a.tmps)=true:=by simp[Region.wanted,hgd]
 rw[if_pos hw];exact wp_app s x ho ao n c xs ys vx hs hx hown hr hb H hH h
theorem OwI.drew{w:World}{v:Value}{xs:List Int}(h:OwI w v xs):OwI w.drew v xs:=h
theorem RdI.drew{w:World}{v:Value}{xs:List Int}(h:RdI w v xs):RdI w.drew v xs:=h
theorem grown_heap{w w':World}{x o:Obj}{b:Nat}{row:Option Nat}(hb:w.heap[b]? =some o)(hg:(w.alloc x).grownBy w' row)(hne:some b≠row):w'.heap[b]? =some o:=
 (hg.block b (by simp;exact Nat.lt_succ_of_lt (lt_of_heap hb)) hne).trans ((Below.heap_alloc w x b (lt_of_heap hb)).trans hb)
theorem OwI.alloc{w:World}{v:Value}{xs:List Int}(h:OwI w v xs)(x:Obj):OwI (w.alloc x) v xs:=World.ownsRow.alloc h x
theorem OwI.grown{w w':World}{v:Value}{xs:List Int}{row:Option Nat}(h:OwI w v xs)(hg:w.grownBy w' row)(hne:∀b,v.ownBlock=some b→some b≠row):OwI w' v xs:=by
 refine World.ownsRow.kept h hg ?_;cases hv:v.ownBlock with
 |none=>exact .inl rfl
 |some b=>exact .inr (hne b hv)
theorem OwI.setCell{w:World}{v:Value}{xs:List Int}(h:OwI w v xs){a:Addr}(u:Value)(hne:v.ownBlock≠some a.block):OwI (w.setCell a u) v xs:=ownsRow_setCell_other h hne u
theorem OwI.lt{w:World}{v:Value}{xs:List Int}(h:OwI w v xs){b:Nat}(hb:v.ownBlock=some b):b<w.heap.size:=own_lt h hb
theorem RdI.one(w:World)(x:Int):RdI (w.alloc (.cells #[.int .i64 x] 3)) (.slice (some ⟨w.heap.size,0,none⟩) 1 1) [x]:=
 ⟨some ⟨w.heap.size,0,none⟩,1,rfl,fun _=>⟨w.heap.size,0,rfl,fun j hj=>by
  have:j=0:=by simpa using hj
  subst this;simp[nth]⟩⟩
theorem RdI.kpne{S:Nat→Prop}{w w':World}{v:Value}{xs:List Int}(h:RdI w v xs)(k:Kp S w w')(hs:xs≠[]→∀b,v.ownBlock=some b→¬S b):RdI w' v xs:=by
 by_cases e:xs=[]
 ·obtain⟨a,cap,rfl,_⟩:=h
  exact⟨a,cap,rfl,fun hne=>absurd e hne⟩
 ·exact h.kp k (hs e)
theorem Tryz.infoBuf:(Tryz.prog.info? 213).map (fun i=>(i.zero,i.size,i.bytes))=some (some (.agg #[.int .i64 0,.int .i64 0,.int .i64 0]),3,24):=by kernel_rfl
def Mut(o:Nat)(t:Nat×Nat):Prop:=t.1=o∧1≤t.2∧t.2≤5
def rng(a:Int)(k:Nat):List Int:=(List.range k).map fun i:Nat=>a+i
theorem rng_succ(a:Int)(k:Nat):rng a (k+1)=rng a k++[a+k]:=by simp[rng,List.range_succ]
theorem rng_length(a:Int)(k:Nat):(rng a k).length=k:=by simp[rng]
theorem yfresh_many{T:Tags}{o:Nat}{w:World}{p:Nat}{L:YL}{σ:Sp}(hy:YAt T o w p L σ)(hok:σ.ok)(kind:Int)(vs vv:Value)(hl:40≤σ.live):Calls Tryz.prog 138 #[.pointer (some ⟨p,0,none⟩),.int .i64 kind,vs,vv] w fun e w'=>e=.returned (.tuple #[.int .i64 0,.int .i64 7])∧w'=w:=by
 have HY:=hid hy;have HO:=hid hok;clear hy hok;go_enter Tryz.func138,Tryz.ntmps138
 go_wp2_with fail
 refine(ylive_calls HY.out HO.out).mono ?_;rintro e w' ⟨rfl,hw⟩;obtain rfl:=hw.symm;go_wp2
 go_ret2
 exact⟨rfl,rfl⟩
theorem yfresh_full{T:Tags}{o:Nat}{w:World}{p:Nat}{L:YL}{σ:Sp}(hy:YAt T o w p L σ)(hok:σ.ok)(kind:Int)(hk:kind=1∨kind=2)(vs vv:Value)(s:List Int)(hs:okShape s)(hr:RdI w vs s)(hl:σ.live<40)(hp:σ.place kind (vol s).toNat<0):Calls Tryz.prog 138 #[.pointer (some ⟨p,0,none⟩),.int .i64 kind,vs,vv] w fun e w'=>e=.returned (.tuple #[.int .i64 0,.int .i64 8])∧Kp0 w w':=by
 have HY:=hid hy;have HO:=hid hok;have HR:=hid hr;have HS:=hid hs;have HK:=hid hk;have HV:Hid ((((vol s).toNat:Nat):Int)=vol s):=hid (by
  have:=vol_bd s hs.2.1 hs.1 s.length (Nat.le_refl _);rw[List.take_length]at this;omega)
 have hvs:(vol s).toNat≤3600:=by have:=hs.2.2;omega
 clear hy hok hr hs hk;go_enter Tryz.func138,Tryz.ntmps138
 go_wp2_with fail
 refine(ylive_calls HY.out HO.out).mono ?_;rintro e w' ⟨rfl,hw⟩;obtain rfl:=hw.symm
 go_wp2_with fail
 refine(volume_calls _ _ _ HR.out HS.out.2.1 HS.out.1).mono ?_;rintro e w' ⟨rfl,hw⟩;obtain rfl:=hw.symm
 go_wp2_with fail
 rw[←HV.out];refine(yplace_calls HY.out HO.out kind HK.out _ hvs).mono ?_;rintro e w1 ⟨rfl,hK⟩;have HK1:=hid hK;clear hK;go_wp2
 go_ret2
 exact⟨rfl,HK1.out⟩
theorem placeIn_bd(t:Int→Bool)(size f i:Nat)(h:0≤placeIn t size f i):placeIn t size f i+size≤(f:Int)+i:=by
 induction f generalizing i with
 |zero=>simp[placeIn]at h
 |succ f ih=>
  simp only[placeIn]at*;split at h
  ·rename_i he
   rw[if_pos he];omega
  ·rename_i he
   rw[if_neg he];have:=ih (i+1) h;omega
theorem place_bd(σ:Sp)(kind:Int)(size:Nat)(h:0≤σ.place kind size):σ.place kind size+size≤σ.cap kind:=by
 have:=placeIn_bd (σ.taken kind) size (σ.cap kind) 0 h;simpa[Sp.place]using this
def Sp.puts(σ:Sp)(kind a:Int)(f:Nat→Int):Nat→Sp
 |0=>σ
 |k+1=>(σ.puts kind a f k).put kind (a+k).toNat (f k)
theorem puts_cap(σ:Sp)(kind a:Int)(f:Nat→Int)(k:Nat)(j:Int):(σ.puts kind a f k).cap j=σ.cap j:=by
 induction k with
 |zero=>rfl
 |succ k ih=>
  rw[←ih];simp only[Sp.puts,Sp.put,Sp.cap];by_cases hk:kind=1
  ·rw[if_pos hk]
  ·rw[if_neg hk]
theorem puts_arrs(σ:Sp)(kind a:Int)(f:Nat→Int)(k:Nat):(σ.puts kind a f k).arrs=σ.arrs∧(σ.puts kind a f k).bufs=σ.bufs∧(σ.puts kind a f k).n1=σ.n1∧(σ.puts kind a f k).n2=σ.n2∧(σ.puts kind a f k).v1.length=σ.v1.length∧(σ.puts kind a f k).v2.length=σ.v2.length:=by
 induction k with
 |zero=>exact⟨rfl,rfl,rfl,rfl,rfl,rfl⟩
 |succ k ih=>
  obtain⟨h1,h2,h3,h4,h5,h6⟩:=ih;simp only[Sp.puts,Sp.put];split
  ·exact⟨h1,h2,h3,h4,by simp[h5],h6⟩
  ·exact⟨h1,h2,h3,h4,h5,by simp[h6]⟩
theorem puts_vals(σ:Sp)(kind a:Int)(f:Nat→Int)(k:Nat)(j:Int):((σ.puts kind a f k).vals j).length=(σ.vals j).length:=by
 obtain⟨-,-,-,-,h5,h6⟩:=puts_arrs σ kind a f k;unfold Sp.vals;split
 ·exact h5
 ·exact h6
theorem YAt.vthere{T:Tags}{o:Nat}{w:World}{p:Nat}{L:YL}{σ:Sp}(hy:YAt T o w p L σ)(kind:Int)(hk:kind=1∨kind=2)(c:Nat)(hc:c<(σ.vals kind).length):w.cell? ⟨L.gk kind,c,none⟩=some (.int .i64 (nth (σ.vals kind) c)):=by
 rw[cell_of_row w _ _ _ _ _ (hy.vblk kind hk)];have:=ints_get (xs:=σ.vals kind) (j:=c) hc;simpa using this
def Sp.made(σ:Sp)(kind a:Int)(s:List Int)(m:Nat)(f:Nat→Int):Sp:=
 ((σ.more ⟨kind,a,m⟩).puts kind a f m).lay ⟨kind,s,rng a m,false,σ.bufs.length⟩
theorem arr_ok_of{a:Arr}{σ σ':Sp}(h:a.ok σ)(hc:∀j,σ'.cap j=σ.cap j)(hb:∀(i:Nat) (b:Buf),σ.bufs[i]? =some b→∃b',σ'.bufs[i]? =some b'):a.ok σ':=
 ⟨h.kind,h.shape,h.length,fun j hj=>by rw[hc];exact h.inside j hj,by
  obtain⟨b,hb'⟩:=h.buf;exact hb _ b hb'⟩
theorem more_ok{σ:Sp}(h:σ.ok)(b:Buf)(hk:b.kind=1∨b.kind=2)(h0:0≤b.at')(h1:1≤b.size)(h2:b.size≤3600)(h3:b.at'+b.size≤σ.cap b.kind)(hm:σ.bufs.length+1≤100000000):(σ.more b).ok:=by
 refine⟨h.n1,h.n2,h.v1,h.v2,fun i a ha=>?_,fun i c hc=>?_,h.many,by simpa[Sp.more]using hm⟩
 ·refine arr_ok_of (h.arr i a ha) (fun _=>rfl) (fun i b' hb'=>⟨b',?_⟩)
  simp only[Sp.more];rw[List.getElem?_append_left (by
   rcases Nat.lt_or_ge i σ.bufs.length with h'|h'
   ·exact h'
   ·rw[List.getElem?_eq_none h']at hb';cases hb')]
  exact hb'
 ·simp only[Sp.more]at hc
  rw[List.getElem?_append]at hc;split at hc
  ·exact h.buf i c hc
  ·cases hj:i-σ.bufs.length with
   |zero=>
    rw[hj]at hc;simp at hc;subst hc;exact⟨hk,h0,h1,h2,h3⟩
   |succ j=>rw[hj]at hc;simp at hc
theorem puts_ok{σ:Sp}(h:σ.ok)(kind a:Int)(f:Nat→Int)(k:Nat):(σ.puts kind a f k).ok:=by
 obtain⟨h1,h2,h3,h4,h5,h6⟩:=puts_arrs σ kind a f k;refine⟨by rw[h3];exact h.n1,by rw[h4];exact h.n2,by rw[h5,h3];exact h.v1,by rw[h6,h4];exact h.v2,fun i b hb=>?_,fun i c hc=>?_,by rw[h1];exact h.many,by rw[h2];exact h.bufs⟩
 ·rw[h1]at hb
  exact arr_ok_of (h.arr i b hb) (fun j=>puts_cap σ kind a f k j) (fun i b' hb'=>⟨b',by rw[h2];exact hb'⟩)
 ·rw[h2]at hc
  rw[puts_cap];exact h.buf i c hc
theorem yfresh_ok{T:Tags}{o:Nat}{w:World}{p:Nat}{L:YL}{σ:Sp}(hy:YAt T o w p L σ)(hok:σ.ok)(kind:Int)(hk:kind=1∨kind=2)(vs:Value)(s:List Int)(hs:okShape s)(hr:RdI w vs s)(hl:σ.live<40)(hmb:σ.bufs.length+1≤100000000)(at':Int)(hat:σ.place kind (vol s).toNat=at')(h0:0≤at')(hts:s≠[]→∀b,vs.ownBlock=some b→¬Mut o (T b)):Calls Tryz.prog 138 #[.pointer (some ⟨p,0,none⟩),.int .i64 kind,vs,.slice none 0 0] w fun e w'=>e=.returned (.tuple #[.int .i64 ((σ.arrs.length:Int)+1),.int .i64 0])∧∃T' L',TagsTo w T T'∧YAt T' o w' p L' (σ.made kind at' s (vol s).toNat fun _=>0)∧Kp (fun b=>Mut o (T b)) w w':=by
 have HY:=hid hy;have HO:=hid hok;have HR:=hid hr;have HS:=hid hs;have HK:=hid hk;obtain⟨m,hm⟩:∃m,(vol s).toNat=m:=⟨_,rfl⟩;rw[hm]at hat;have HV:Hid (vol s=(m:Int)):=hid (by
  have:=vol_bd s hs.2.1 hs.1 s.length (Nat.le_refl _);rw[List.take_length]at this;omega)
 have hvs:m≤3600:=by have:=hs.2.2;omega
 have HAT:=hid hat;have HM:=hid hm;have hn:=hok.bufs;obtain⟨-,-,-,-,-,-,q7⟩:=hy.cells;have f7:w.frozen? ⟨p,7,none⟩=false:=frozen_blk hy.blk;have hp:p<w.heap.size:=lt_of_heap hy.blk;have HNE:Hid (some p≠L.vb.ownBlock):=hid (fun e=>by
  have:=hy.tb p e.symm;rw[hy.tp]at this;simp at this)
 have HVB:=hid hy.vb;have hneq:=fun W=>run_neq_slice_nil_any (P:=Tryz.prog) W 26 3 none 0 0 0 0 Tryz.underlying26
 simp only[Option.isNone_none,Bool.not_true]at hneq;have HOM:Hid ((σ.more (Buf.mk kind at' m)).ok):=hid (by
  have hb:=place_bd σ kind m (by rw[hat];exact h0);rw[hat]at hb;have hv:=vol_bd s hs.2.1 hs.1 s.length (Nat.le_refl _);rw[List.take_length]at hv;exact more_ok hok _ hk h0 (by show(1:Int)≤(m:Int);omega) (by show(m:Int)≤3600;omega) hb hmb)
 have HLV:=hid hl;have HCAP:Hid (at'+m≤σ.cap kind∧σ.cap kind≤10000):=hid (by
  have h:=place_bd σ kind m (by rw[hat];exact h0);rw[hat]at h;exact⟨h,hok.cap kind⟩)
 have HTS:=hid hts;have HSL:Hid (0+s.length≤1000000000000):=hid (by have:=hs.1;omega);obtain⟨i,hi,hz0,hz1,hz2⟩:=info_parts Tryz.infoBuf;clear hy hok hr hs hk hat hm hts;generalize hnb:σ.bufs.length=nb at*;have HNB:=hid hnb;clear hnb;have d40:decide ((40:Int)≤(σ.live:Int))=false:=by simp;omega
 have dat:decide (at'<0)=false:=by simp;omega
 have h63:Hid (nb+1≤maxLen):=hid (by unfold maxLen;omega);have hbytes:Hid ((nb+1)*24≤140737488355328):=hid (by omega);have h1:Hid (∀u∈(Buf.mk kind at' m).row,u.oneCell'=true):=hid (by intro u hu;simp[Buf.row]at hu;rcases hu with rfl|rfl|rfl<;>rfl);go_enter Tryz.func138,Tryz.ntmps138
 go_wp2_with fail
 refine(ylive_calls HY.out HO.out).mono ?_;rintro e w' ⟨rfl,hw⟩;obtain rfl:=hw.symm
 go_wp2_with fail
 refine(volume_calls _ _ _ HR.out HS.out.2.1 HS.out.1).mono ?_;rintro e w' ⟨rfl,hw⟩;obtain rfl:=hw.symm
 go_wp2_with fail
 rw[HV.out];refine(yplace_calls HY.out HO.out kind HK.out _ hvs).mono ?_;rintro e w1 ⟨rfl,hK⟩;rw[HAT.out];have q7':=hK.cell q7;have f7':w1.frozen? ⟨p,7,none⟩=false:=(World.frozen?_of_block (hK.block p hp (fun e=>e))).trans f7;have hp1:p<w1.heap.size:=Nat.lt_of_lt_of_le hp hK.size;have HVB1:=hid (row_kp HVB.out hK (fun _ _ e=>e));have HK1:=hid hK;clear hK
 go_wp2_with (at_builtin;refine wpList_append_lies _ rfl _ _ _ rfl 0 213 i (.agg #[.int .i64 0,.int .i64 0,.int .i64 0]) 3 24 Tryz.underlying151 hi hz0 hz1 hz2 rfl (by omega) L.vb nb _ rfl (HVB1.out.alloc _) ⟨w1.heap.size,0,none⟩ 1 1 (Buf.mk kind at' m).row rfl rfl (World.news_of_block (heap_alloc_new _ _)) h1.out (by omega) h63.out hbytes.out (Nat.zero_le _) (w1.heap.size+1) (by simp) ?_)
 intro g cap w2 hown hgrow hat2 hlt2;have hp2:p<w2.heap.size:=Nat.lt_of_lt_of_le (by simp;omega) hgrow.size;have c7:w2.cell? ⟨p,7,none⟩=some L.vb:=hgrow.cell (by rw[World.cell?_alloc_lt _ _ _ hp1];exact q7') HNE.out;have e7:w2.frozen? ⟨p,7,none⟩=false:=by rw[hgrow.frozen_far _ (by simp;omega) HNE.out,World.frozen?_alloc_past _ _ _ hp1];exact f7'
 have hY:=HY.out.kp0 HK1.out;have hmore:=hY.more _ (Buf.mk kind at' m) g cap (by rw[HNB.out];exact hown) hgrow hat2;rw[HNB.out]at hmore;obtain⟨hY2,hKm⟩:=hmore;have hKw:Kp (fun b=>Mut o (T b)) w (w2.setCell ⟨p,7,none⟩ (.slice (some ⟨g,0,none⟩) (nb+1) cap)):=
  (Kp.of0 HK1.out).trans hKm (fun i hi h=>by rcases h with h|h<;>rw[h]<;>simp[Mut])
 have hRS:∀y,RdI ((w2.setCell ⟨p,7,none⟩ (.slice (some ⟨g,0,none⟩) (nb+1) cap)).alloc y) vs s:=fun y=>HR.out.kpne (hKw.alloc y) (fun hx b hb=>HTS.out hx b hb)
 have HRS:=hid hRS;have HY2:=hid hY2;have HKw:=hid hKw;clear hown hgrow hat2 hlt2 hY hY2 hKm hKw hRS
 go_wp2_with (at_builtin;refine wpList_app rfl _ _ rfl none 0 0 [] s vs rfl rfl (OwI.nil _) (HRS.out _) HSL.out (w2.heap.size+1) (by simp) ?_)
 intro ao c w4 hownS hgrowS hatS;generalize hW2:w2.setCell ⟨p,7,none⟩ (.slice (some ⟨g,0,none⟩) (nb+1) cap)=W2 at*;have hWs:W2.heap.size=w2.heap.size:=by rw[←hW2];simp
 have HWS:=hid hWs;have HW2:=hid hW2;clear hW2;have hA4:w4.heap[w2.heap.size]? =some (.cells #[.int .i64 kind,.slice none 0 0,.slice none 0 0,.bool false,.int .i64 (nb:Int)] 181 (0,0)):=by
  rw[hgrowS.block _ (by simp;omega) (by simp[Value.ownBlock]),←hWs];exact heap_alloc_new _ _
 have hK4:Kp0 W2 w4:=((Kp.refl _ _).alloc _).grown hgrowS (by simp[Value.ownBlock]);have hao:∀b,(Value.slice ao s.length c).ownBlock=some b→b=w2.heap.size+1:=fun b hb=>(hatS b hb).resolve_left (by simp[Value.ownBlock])
 have cA:w4.cell? ⟨w2.heap.size,1,none⟩=some (.slice none 0 0):=by simp[World.cell?,hA4]
 have fA:w4.frozen? ⟨w2.heap.size,1,none⟩=false:=frozen_blk hA4;have hS5:OwI (w4.setCell ⟨w2.heap.size,1,none⟩ (.slice ao s.length c)) (.slice ao s.length c) s:=hownS.setCell _ (fun e=>by
  have:=hao _ e;simp at this)
 have hK5:Kp0 W2 (w4.setCell ⟨w2.heap.size,1,none⟩ (.slice ao s.length c)):=Kp.setCell hK4 _ _ (fun h=>by simp at h;omega);have hA5:(w4.setCell ⟨w2.heap.size,1,none⟩ (.slice ao s.length c)).heap[w2.heap.size]? =some (.cells #[.int .i64 kind,.slice ao s.length c,.slice none 0 0,.bool false,.int .i64 (nb:Int)] 181 (0,0)):=by
  rw[heap_setCell_same _ _ _ _ _ _ hA4];rfl
 have HA4:=hid hA4;have HAO:=hid hao;have HS5:=hid hS5;have HK5:=hid hK5;have HA5:=hid hA5;clear hWs hgrowS hatS hownS hA4 hK4 hao hS5 hK5 hA5 HRS q7 f7 q7' f7' c7 e7;go_wp2
 go_loopw [14] (fun t w'=>∃k:Nat,k≤m∧t=.int .i64 k∧∃ac cc,Kp0 W2 w'∧w'.heap[w2.heap.size]? =some (.cells #[.int .i64 kind,.slice ao s.length c,.slice ac k cc,.bool false,.int .i64 (nb:Int)] 181 (0,0))∧
   OwI w' (.slice ao s.length c) s∧OwI w' (.slice ac k cc) (rng at' k)∧(∀b,(Value.slice ac k cc).ownBlock=some b→w2.heap.size<b∧(Value.slice ao s.length c).ownBlock≠some b)) (fun t _=>m-(intOf t).toNat)
 case atStart=>exact⟨0,Nat.zero_le _,rfl,none,0,HK5.out,HA5.out,HS5.out,OwI.nil _,fun b hb=>by simp[Value.ownBlock]at hb⟩
 case round=>
  obtain⟨k,hk,rfl,ac,cc,hK6,hA6,hS6,hC6,hB6⟩:=hrel;by_cases hlt:k<m
  ·have cA:wr.cell? ⟨w2.heap.size,2,none⟩=some (.slice ac k cc):=by simp[World.cell?,hA6]
   have hAlt:w2.heap.size<wr.heap.size:=lt_of_heap hA6;have HAT0:Hid (k+[at'+(k:Int)].length≤1000000000000):=hid (by simp;omega);have HK6:=hid hK6;have HA6:=hid hA6;have HS6:=hid hS6;have HC6:=hid hC6;have HB6:=hid hB6;have hcap:=HCAP.out;clear hK6 hA6 hS6 hC6 hB6
   go_wp2_with (at_builtin;refine wpList_app rfl _ _ rfl ac k cc (rng at' k) [at'+(k:Int)] _ rfl rfl (HC6.out.alloc _) (RdI.one _ _) HAT0.out (wr.heap.size+1) (by simp) ?_)
   intro ac' cc' w7 hC7 hG7 hB7;have hne:∀b,(Value.slice ac k cc).ownBlock=some b→w2.heap.size<b:=fun b hb=>(HB6.out b hb).1
   have hA7:=grown_heap HA6.out hG7 (fun e=>by have:=hne _ e.symm;omega);have hS7:OwI w7 (.slice ao s.length c) s:=(HS6.out.alloc _).grown hG7 (fun b hb e=>(HB6.out b e.symm).2 hb);have hK7:Kp0 W2 w7:=(Kp.alloc HK6.out _).grown hG7 (fun b hb h=>by have:=hne b hb;have:=HWS.out;omega);have hB7':∀b,(Value.slice ac' (k+1) cc').ownBlock=some b→w2.heap.size<b∧(Value.slice ao s.length c).ownBlock≠some b:=by
    intro b hb;rcases hB7 b hb with h|h
    ·exact HB6.out b h
    ·refine⟨by omega,fun e=>?_⟩
     have:=HS6.out.lt e;omega
   have cA7:w7.cell? ⟨w2.heap.size,2,none⟩=some (.slice ac k cc):=by simp[World.cell?,hA7]
   have fA7:w7.frozen? ⟨w2.heap.size,2,none⟩=false:=frozen_blk hA7;have HA7:=hid hA7;have HS7:=hid hS7;have HK7:=hid hK7;have HB7:=hid hB7';have HC7:=hid hC7;clear hne hA7 hS7 hK7 hB7 hB7' hC7 hG7;go_wp2
   go_roundw
   case rel=>
    refine⟨k+1,by omega,by go_num,ac',cc',Kp.setCell HK7.out _ _ (fun h=>by have:=HWS.out;simp at h;omega),?_,HS7.out.setCell _ (fun e=>?_),?_,HB7.out⟩
    ·rw[heap_setCell_same _ _ _ _ _ _ HA7.out]
     rfl
    ·have:=HAO.out _ e
     simp at this
    ·rw[rng_succ]
     exact HC7.out.setCell _ (fun e=>by have:=(HB7.out _ e).1;simp at this)
   case measure=>simp[intOf];omega
  ·have hkm:k=m:=by omega
   have HKM:=hid hkm;have hy3:YAt (retag W2 (retag w1 T (o,5)) (o,6)) o wr p {L with vb:=.slice (some ⟨g,0,none⟩) (nb+1) cap} (σ.more (Buf.mk kind at' m)):=(HY2.out.tags (retag_to W2 _ _)).kp0 hK6;have ha3:YArr (retag W2 (retag w1 T (o,5)) (o,6)) o wr w2.heap.size (.slice ao s.length c) (.slice ac k cc) ⟨kind,s,rng at' m,false,nb⟩:=by
    have hw:=HWS.out;refine⟨hA6,hS6,by rw[←hkm];exact hC6,retag_new (by omega),fun b hb=>retag_new ?_,fun b hb=>retag_new ?_⟩
    ·have:=HAO.out b hb;omega
    ·have:=(hB6 b hb).1;omega
   have HK6:=hid hK6;generalize hL2:({L with vb:=.slice (some ⟨g,0,none⟩) (nb+1) cap}:YL)=L2 at*;clear hL2;generalize hT3:retag W2 (retag w1 T (o,5)) (o,6)=T3 at*;have HT3:=hid hT3;have HY3:=hid hy3;have HA3:=hid ha3;clear hK6 hA6 hS6 hC6 hB6 hT3 hy3 ha3 hkm;go_wp2
   obtain⟨w8,hw8⟩:∃w8:World,w8=wr:=⟨_,rfl⟩;have HW8:=hid hw8;clear hw8
   go_loopw [15] (fun t w'=>∃j:Nat,j≤m∧t=.int .i64 j∧YAt T3 o w' p L2 ((σ.more (Buf.mk kind at' m)).puts kind at' (fun _=>0) j)∧YArr T3 o w' w2.heap.size (.slice ao s.length c) (.slice ac k cc) ⟨kind,s,rng at' m,false,nb⟩∧
     Kp (fun b=>T3 b=(o,2)∨T3 b=(o,3)) w8 w') (fun t _=>m-(intOf t).toNat)
   case atStart=>exact⟨0,Nat.zero_le _,rfl,HY3.out,HA3.out,by rw[HW8.out];exact Kp.refl _ _⟩
   case round=>
    obtain⟨j,hj,rfl,hy9,ha9,hk9⟩:=hrel;have HY9:=hid hy9;have HA9:=hid ha9;have HK9:=hid hk9;clear hy9 ha9 hk9;by_cases hjm:j<m
    ·have hvc:=HY9.out.vcell kind HK.out
     rw[puts_cap]at hvc;have hcp:at'+m≤σ.cap kind∧σ.cap kind≤10000:=HCAP.out;have hcell:=HY9.out.vthere kind HK.out (at'+j).toNat (by
      rw[puts_vals];show _<(σ.vals kind).length;rw[HO.out.vals kind];omega)
     have hfz:wr.frozen? ⟨L2.gk kind,(at'+j).toNat,none⟩=false:=frozen_blk (HY9.out.vblk kind HK.out);have hkk:1≤kind∧kind≤2:=by have:=HK.out;omega
     have HP:=hid (HY9.out.put kind HK.out (at'+j).toNat 0);change wr.cell? _=some (.slice (some ⟨L2.gk kind,0,none⟩) (σ.cap kind) (σ.cap kind))at hvc;generalize σ.cap kind=n at*;go_wp2
     go_roundw
     case rel=>exact⟨j+1,by omega,by go_num,HP.out.1,HA9.out.kp HP.out.2 (fun b hb h=>by rw[hb]at h;simp at h),HK9.out.trans HP.out.2 (fun _ _ h=>h)⟩
     case measure=>simp[intOf];omega
    ·have HJM:Hid (j=m):=hid (by omega)
     have HL40:Hid (((σ.more (Buf.mk kind at' m)).puts kind at' (fun _=>0) j).live<40):=hid (by
      unfold Sp.live;rw[(puts_arrs _ kind at' _ j).1];exact HLV.out)
     have HOJ:=hid (puts_ok HOM.out kind at' (fun _=>0) j);have HLEN:Hid (((σ.more (Buf.mk kind at' m)).puts kind at' (fun _=>0) j).arrs.length=σ.arrs.length):=hid (by rw[(puts_arrs _ kind at' _ j).1];rfl)
     go_wp2_with fail
     refine(ylay_calls HY9.out HOJ.out _ _ _ _ HA9.out HL40.out).mono ?_;rintro e w10 ⟨rfl,hex⟩;have HEX:=hid hex;clear hex;go_wp2
     go_ret2
     refine⟨by rw[HLEN.out];rfl,?_⟩;obtain⟨T',L',ht,hy10,hk10⟩:=HEX.out;have t3:∀b,b<w.heap.size→T3 b=T b:=by
      intro b hb;have s1:=HK1.out.size;have s2:=HKw.out.size;rw[←HT3.out,retag_to W2 _ _ b (by omega),retag_to w1 _ _ b (by omega)]
     have s3:w.heap.size≤wr.heap.size:=by
      have:=HK9.out.size;have:=HK6.out.size;have:=HKw.out.size;rw[HW8.out]at*;omega
     refine⟨T',L',fun b hb=>by rw[ht b (by omega),t3 b hb],?_,?_⟩
     ·unfold Sp.made
      rw[HNB.out,HM.out,←HJM.out];rw[←HJM.out]at hy10;exact hy10
     ·have k1:Kp (fun b=>Mut o (T b)) w w8:=HKw.out.trans0 (by rw[HW8.out];exact HK6.out)
      have k2:Kp (fun b=>Mut o (T b)) w wr:=k1.trans HK9.out (fun i hi h=>by
       rw[t3 i hi]at h;rcases h with h|h<;>rw[h]<;>simp[Mut])
      exact k2.trans hk10 (fun i hi h=>by
       rw[t3 i hi]at h;rcases h with h|h<;>rw[h]<;>simp[Mut])
def YRep(T:Tags)(o:Nat)(w:World)(p:Nat)(σ:Sp):Prop:=σ.ok∧∃L,YAt T o w p L σ
def YStep(T:Tags)(o:Nat)(w:World)(p:Nat)(σ':Sp)(w':World):Prop:=
 ∃T',TagsTo w T T'∧YRep T' o w' p σ'∧Kp (fun b=>Mut o (T b)) w w'
theorem YStep.same{T:Tags}{o:Nat}{w w':World}{p:Nat}{σ:Sp}(h:YRep T o w p σ)(k:Kp0 w w'):YStep T o w p σ w':=by
 obtain⟨hok,L,hy⟩:=h;exact⟨T,fun _ _=>rfl,⟨hok,L,hy.kp0 k⟩,Kp.of0 k⟩
theorem lay_ok{σ:Sp}(h:σ.ok)(a:Arr)(ha:a.ok σ)(hm:σ.arrs.length+1≤100000000):(σ.lay a).ok:=by
 refine⟨h.n1,h.n2,h.v1,h.v2,fun i b hb=>?_,h.buf,by simpa[Sp.lay]using hm,h.bufs⟩;simp only[Sp.lay]at hb;rw[List.getElem?_append]at hb;split at hb
 ·exact arr_ok_of (h.arr i b hb) (fun _=>rfl) (fun i b' hb'=>⟨b',hb'⟩)
 ·cases hj:i-σ.arrs.length with
  |zero=>
   rw[hj]at hb;simp at hb;subst hb;exact arr_ok_of ha (fun _=>rfl) (fun i b' hb'=>⟨b',hb'⟩)
  |succ j=>rw[hj]at hb;simp at hb
theorem nth_rng(a:Int)(k j:Nat)(h:j<k):nth (rng a k) j=a+j:=by
 rw[nth_lt (by rw[rng_length];exact h)];simp[rng]
theorem made_ok{σ:Sp}(h:σ.ok)(kind a:Int)(s:List Int)(f:Nat→Int)(hk:kind=1∨kind=2)(hs:okShape s)(h0:0≤a)(hc:a+(vol s).toNat≤σ.cap kind)(hm:σ.arrs.length+1≤100000000)(hb:σ.bufs.length+1≤100000000):(σ.made kind a s (vol s).toNat f).ok:=by
 have hv:=vol_bd s hs.2.1 hs.1 s.length (Nat.le_refl _);rw[List.take_length]at hv;have h1:=more_ok h ⟨kind,a,((vol s).toNat:Nat)⟩ hk h0 (by show(1:Int)≤(((vol s).toNat:Nat):Int);omega) (by show(((vol s).toNat:Nat):Int)≤3600;have:=hs.2.2;omega) hc hb;have h2:=puts_ok h1 kind a f (vol s).toNat;obtain⟨e1,e2,-⟩:=puts_arrs (σ.more ⟨kind,a,((vol s).toNat:Nat)⟩) kind a f (vol s).toNat;refine lay_ok h2 _ ⟨hk,hs,?_,fun j hj=>?_,⟨⟨kind,a,((vol s).toNat:Nat)⟩,?_⟩⟩ (by rw[e1];exact hm)
 ·show((rng a (vol s).toNat).length:Int)=vol s
  rw[rng_length];omega
 ·have hj':j<(vol s).toNat:=by
   have:(rng a (vol s).toNat).length=(vol s).toNat:=rng_length _ _;rw[←this];exact hj
  show 0≤nth (rng a (vol s).toNat) j∧nth (rng a (vol s).toNat) j<_;rw[nth_rng _ _ _ hj',puts_cap];constructor
  ·omega
  ·show a+j<(σ.cap kind:Int)
   omega
 ·show _=_
  rw[e2];simp[Sp.more]
def Sp.make(σ:Sp)(kind:Int)(s:List Int):Sp×Int×Int:=
 if kind≠1∧kind≠2 then(σ,0,3)
 else if shapeB s=false then(σ,0,4)
 else if 40≤σ.live then(σ,0,7)
 else if σ.place kind (vol s).toNat<0 then(σ,0,8)
 else(σ.made kind (σ.place kind (vol s).toNat) s (vol s).toNat fun _=>0,(σ.arrs.length:Int)+1,0)
theorem ymake_calls{T:Tags}{o:Nat}{w:World}{p:Nat}{σ:Sp}(hy:YRep T o w p σ)(kind:Int)(vs:Value)(s:List Int)(hr:RdI w vs s)(hts:s≠[]→∀b,vs.ownBlock=some b→¬Mut o (T b))(hm:σ.arrs.length+1≤100000000)(hb:σ.bufs.length+1≤100000000):Calls Tryz.prog 106 #[.pointer (some ⟨p,0,none⟩),.int .i64 kind,vs] w fun e w'=>e=.returned (.tuple #[.int .i64 (σ.make kind s).2.1,.int .i64 (σ.make kind s).2.2])∧YStep T o w p (σ.make kind s).1 w':=by
 have HYR:=hid hy;obtain⟨hok,L,hy⟩:=hy;have HY:=hid hy;have HO:=hid hok;have HR:=hid hr;have HT:=hid hts;clear hy hok hr hts;by_cases hk:kind=1∨kind=2
 ·have HK:=hid hk
  have hd:((kind !=1)&&(kind !=2))=false:=by rcases hk with rfl|rfl<;>rfl
  by_cases hs:shapeB s=true
  ·have HS:=hid hs
   by_cases hl:40≤σ.live
   ·have HF:Hid (σ.make kind s=(σ,0,7)):=hid<|by
     unfold Sp.make;rw[if_neg (by omega),if_neg (by simp[hs]),if_pos hl]
    rcases hk with rfl|rfl
    all_goals
     clear hd;go_enter Tryz.func106,Tryz.ntmps106
     go_wp2_with fail
     refine(shape_calls _ _ _ HR.out).mono ?_;rintro e w' ⟨rfl,hw⟩;obtain rfl:=hw.symm
     go_wp2_with fail
     refine(yfresh_many HY.out HO.out _ _ _ hl).mono ?_;rintro e w' ⟨rfl,hw⟩;obtain rfl:=hw.symm;go_wp2
     go_ret2
     rw[HF.out];exact⟨rfl,YStep.same HYR.out (Kp0.refl _)⟩
   ·by_cases hp:σ.place kind (vol s).toNat<0
    ·have HF:Hid (σ.make kind s=(σ,0,8)):=hid<|by
      unfold Sp.make;rw[if_neg (by omega),if_neg (by simp[hs]),if_neg hl,if_pos hp]
     have HP:=hid hp;clear hp;rcases hk with rfl|rfl
     all_goals
      clear hd;go_enter Tryz.func106,Tryz.ntmps106
      go_wp2_with fail
      refine(shape_calls _ _ _ HR.out).mono ?_;rintro e w' ⟨rfl,hw⟩;obtain rfl:=hw.symm
      go_wp2_with fail
      refine(yfresh_full HY.out HO.out _ (by omega) _ _ s ((shapeB_iff s).1 HS.out) HR.out (by omega) HP.out).mono ?_;rintro e w' ⟨rfl,hw⟩;have HW:=hid hw;clear hw;go_wp2
      go_ret2
      rw[HF.out];exact⟨rfl,YStep.same HYR.out HW.out⟩
    ·have HF:Hid (σ.make kind s=(σ.made kind (σ.place kind (vol s).toNat) s (vol s).toNat fun _=>0,(σ.arrs.length:Int)+1,0)):=hid<|by
      unfold Sp.make;rw[if_neg (by omega),if_neg (by simp[hs]),if_neg hl,if_neg hp]
     have HP:=hid hp;clear hp;rcases hk with rfl|rfl
     all_goals
      clear hd;go_enter Tryz.func106,Tryz.ntmps106
      go_wp2_with fail
      refine(shape_calls _ _ _ HR.out).mono ?_;rintro e w' ⟨rfl,hw⟩;obtain rfl:=hw.symm
      go_wp2_with fail
      refine(yfresh_ok HY.out HO.out _ (by omega) _ s ((shapeB_iff s).1 HS.out) HR.out (by omega) hb _ rfl (by have:=HP.out;omega) HT.out).mono ?_;rintro e w' ⟨rfl,hw⟩;have HW:=hid hw;clear hw;go_wp2
      go_ret2
      rw[HF.out];refine⟨rfl,?_⟩;obtain⟨T',L',h1,h2,h3⟩:=HW.out;exact⟨T',h1,⟨made_ok HO.out _ _ s _ (by omega) ((shapeB_iff s).1 HS.out) (by have:=HP.out;omega) (place_bd σ _ _ (by have:=HP.out;omega)) hm hb,L',h2⟩,h3⟩
  ·have hs':shapeB s=false:=by simpa using hs
   have HF:Hid (σ.make kind s=(σ,0,4)):=hid<|by
    unfold Sp.make;rw[if_neg (by omega),if_pos hs']
   clear hs;rcases hk with rfl|rfl
   all_goals
    clear hd;go_enter Tryz.func106,Tryz.ntmps106
    go_wp2_with fail
    refine(shape_calls _ _ _ HR.out).mono ?_;rintro e w' ⟨rfl,hw⟩;obtain rfl:=hw.symm;go_wp2
    go_ret2
    rw[HF.out];exact⟨rfl,YStep.same HYR.out (Kp0.refl _)⟩
 ·have d1:(kind !=1)=true:=by rw[bne_iff_ne];omega
  have d2:(kind !=2)=true:=by rw[bne_iff_ne];omega
  have HF:Hid (σ.make kind s=(σ,0,3)):=hid<|by
   unfold Sp.make;rw[if_pos (by omega)]
  clear hk;go_enter Tryz.func106,Tryz.ntmps106
  go_wp2
  go_ret2
  rw[HF.out];exact⟨rfl,YStep.same HYR.out (Kp0.refl _)⟩
def Sp.free(σ:Sp)(h:Int):Sp×Int:=match σ.find h with
 |none=>(σ,2)
 |some _=>({σ with arrs:=σ.arrs.set (ix h) none},0)
theorem free_ok{σ:Sp}(h:σ.ok)(d:Int):(σ.free d).1.ok:=by
 unfold Sp.free;split
 ·exact h
 ·refine⟨h.n1,h.n2,h.v1,h.v2,fun i b hb=>?_,h.buf,by simpa using h.many,h.bufs⟩
  simp only[List.getElem?_set]at hb;split at hb
  ·split at hb<;>simp at hb
  ·exact arr_ok_of (h.arr i b hb) (fun _=>rfl) (fun i b' hb'=>⟨b',hb'⟩)
theorem YAt.drop{T:Tags}{o:Nat}{w:World}{p:Nat}{L:YL}{σ:Sp}(hy:YAt T o w p L σ)(g cap j:Nat)(hv:L.va=.slice (some ⟨g,0,none⟩) σ.arrs.length cap):YAt T o (w.setCell ⟨g,j,none⟩ (.pointer none)) p {L with ps:=L.ps.set j none} {σ with arrs:=σ.arrs.set j none}∧Kp (fun b=>T b=(o,4)) w (w.setCell ⟨g,j,none⟩ (.pointer none)):=by
 have tg:T g=(o,4):=hy.ta g (by rw[hv];rfl);have hk:Kp (fun b=>T b=(o,4)) w (w.setCell ⟨g,j,none⟩ (.pointer none)):=(Kp.refl _ _).setCell _ _ (fun _=>tg);have no:∀(b t:Nat),t≠4→T b=(o,t)→¬(T b=(o,4)):=by
  intro b t h1 ht h;rw[ht]at h;simp at h;omega
 refine⟨?_,hk⟩;exact{
  blk:=by
   have:=hk.heap hy.blk (no p 1 (by omega) hy.tp);simpa using this
  c1:=hk.heap hy.c1 (no _ 2 (by omega) hy.t1)
  c2:=hk.heap hy.c2 (no _ 3 (by omega) hy.t2)
  va:=by
   have h:=hy.va;rw[hv]at h;have:=h.stored j (.pointer none);rw[List.length_set];show World.ownsRow _ 0 _ 1 L.va _ _;rw[hv];have e:(L.ps.map ptr).set j (.pointer none)=(L.ps.set j none).map ptr:=by rw[List.map_set];rfl
   rw[←e];exact this.1
  vb:=row_kp hy.vb hk (fun b hb=>no b 5 (by omega) (hy.tb b hb))
  len:=by simp[hy.len]
  non:=by
   intro i hi;simp only[List.getElem?_set]at hi⊢;by_cases hj:j=i
   ·subst hj
    simp only[if_true]at hi⊢;rw[hy.len];split at hi
    ·rename_i hlt;rw[if_pos hlt]
    ·simp at hi
   ·simp only[hj,if_false]at hi⊢
    exact hy.non i hi
  som:=by
   intro i a hi;simp only[List.getElem?_set]at hi⊢;by_cases hj:j=i
   ·subst hj
    simp only[if_true]at hi;split at hi<;>simp at hi
   ·simp only[hj,if_false]at hi⊢
    obtain⟨q,vs,vc,h1,h2⟩:=hy.som i a hi;exact⟨q,vs,vc,h1,h2.kp hk (fun b hb=>no b 6 (by omega) hb)⟩
  tp:=hy.tp
  t1:=hy.t1
  t2:=hy.t2
  ta:=hy.ta
  tb:=hy.tb}
theorem yfree_calls{T:Tags}{o:Nat}{w:World}{p:Nat}{σ:Sp}(hy:YRep T o w p σ)(h:Int):Calls Tryz.prog 110 #[.pointer (some ⟨p,0,none⟩),.int .i64 h] w fun e w'=>e=.returned (.int .i64 (σ.free h).2)∧YStep T o w p (σ.free h).1 w':=by
 have HYR:=hid hy;obtain⟨hok,L,hy⟩:=hy;have HO:=hid hok;have HFO:=hid (free_ok hok h);have hm:=hok.many;obtain⟨-,-,-,-,-,q6,-⟩:=hy.cells;rcases hy.find h with⟨hf,hl⟩|⟨a,q,vs,vc,hf,hl,hya,hat,h1⟩
 ·have HF:Hid (σ.free h=(σ,2)):=hid (by unfold Sp.free;rw[hf])
  have HY:=hid hy;have HL:=hid hl;clear hy hok hf hl;go_enter Tryz.func110,Tryz.ntmps110
  go_wp2_with fail
  refine(yfind_calls HY.out HO.out h).mono ?_;rintro e w' ⟨rfl,hw⟩;obtain rfl:=hw.symm;rw[HL.out];simp only[ptr];go_wp2
  go_ret;rw[HF.out];exact⟨rfl,YStep.same HYR.out (Kp0.refl _)⟩
 ·have HF:Hid (σ.free h=({σ with arrs:=σ.arrs.set (ix h) none},0)):=hid (by unfold Sp.free;rw[hf])
  have hlt:ix h<σ.arrs.length:=by
   rcases Nat.lt_or_ge (ix h) σ.arrs.length with h'|h'
   ·exact h'
   ·rw[List.getElem?_eq_none h']at hat;cases hat
  rcases hy.ptrs with⟨hv,hn⟩|⟨g,cap,hv,hc⟩
  ·omega
  ·rw[hv]at q6
   have hcell:=hc (ix h) hlt;have hpp:L.ps.getD (ix h) none=some q:=by
    unfold YL.at at hl;rw[if_pos h1]at hl;exact hl
   rw[hpp]at hcell;simp only[ptr]at hcell;have hfz:w.frozen? ⟨g,h.toNat-1,none⟩=false:=by
    have:=hy.va;rw[hv]at this;exact this.frozenAt _
   have HD:=hid (hy.drop g cap (ix h) hv);have hix:h≤σ.arrs.length:=by unfold ix at hlt;omega
   change w.cell? ⟨g,h.toNat-1,none⟩=_ at hcell;have HY:=hid hy;have HL:=hid hl;clear hy hok hf hl hya hat hc hpp hlt hv;go_enter Tryz.func110,Tryz.ntmps110
   go_wp2_with fail
   refine(yfind_calls HY.out HO.out h).mono ?_;rintro e w' ⟨rfl,hw⟩;obtain rfl:=hw.symm;rw[HL.out];simp only[ptr];go_wp2
   go_ret;have hfo:=HFO.out;rw[HF.out]at hfo⊢;refine⟨rfl,T,fun _ _=>rfl,⟨hfo,_,HD.out.1⟩,HD.out.2.mono (fun i _ e=>by rw[e];simp[Mut])⟩
def Sp.get(σ:Sp)(h:Int)(i:List Int):Int×Int:=match σ.find h with
 |none=>(0,2)
 |some a=>if rank a.shape i<0 then(0,5)else(nth (σ.vals a.kind) (nth a.cells (rank a.shape i).toNat).toNat,0)
theorem YArr.parts{T:Tags}{o:Nat}{w:World}{q:Nat}{vs vc:Value}{a:Arr}(h:YArr T o w q vs vc a):w.cell? ⟨q,0,none⟩=some (.int .i64 a.kind)∧w.cell? ⟨q,1,none⟩=some vs∧w.cell? ⟨q,2,none⟩=some vc∧w.cell? ⟨q,3,none⟩=some (.bool a.ro)∧w.cell? ⟨q,4,none⟩=some (.int .i64 (a.buf:Int)):=by simp[World.cell?,h.blk]
theorem OwI.slice{w:World}{v:Value}{xs:List Int}(h:OwI w v xs)(hne:0<xs.length):∃g cap,v=.slice (some ⟨g,0,none⟩) xs.length cap∧xs.length≤cap∧g<w.heap.size∧(∀j,j<xs.length→w.cell? ⟨g,j,none⟩=some (.int .i64 (nth xs j))):=by
 rcases row_form h with⟨_,h0⟩|⟨g,cap,hv,hn,hg,hc⟩
 ·omega
 ·refine⟨g,cap,hv,hn,hg,fun j hj=>?_⟩
  rw[hc j (by omega)];exact ints_get hj
theorem rank_cases(s i:List Int)(hs:sized s):rank s i= -1∨(0≤rank s i∧rank s i<vol s):=by
 unfold rank;split
 ·rename_i h
  right
  have:=rank_bd s i hs ((inBb_iff s i).1 h).2 s.length (Nat.le_refl _);rw[List.take_length]at this;exact this
 ·exact .inl rfl
theorem find_ok{σ:Sp}(h:σ.ok){d:Int}{a:Arr}(hat:σ.arrs[ix d]? =some (some a)):a.ok σ:=h.arr _ _ hat
theorem yget_calls{T:Tags}{o:Nat}{w:World}{p:Nat}{σ:Sp}(hy:YRep T o w p σ)(h:Int)(vi:Value)(i:List Int)(hr:RdI w vi i):Calls Tryz.prog 108 #[.pointer (some ⟨p,0,none⟩),.int .i64 h,vi] w fun e w'=>e=.returned (.tuple #[.int .i64 (σ.get h i).1,.int .i64 (σ.get h i).2])∧Kp0 w w':=by
 obtain⟨hok,L,hy⟩:=hy;have HO:=hid hok;have HR:=hid hr;rcases hy.find h with⟨hf,hl⟩|⟨a,q,vs,vc,hf,hl,hya,hat,h1⟩
 ·have HF:Hid (σ.get h i=(0,2)):=hid (by unfold Sp.get;rw[hf])
  have HY:=hid hy;have HL:=hid hl;clear hy hok hf hl hr;go_enter Tryz.func108,Tryz.ntmps108
  go_wp2_with fail
  refine(yfind_calls HY.out HO.out h).mono ?_;rintro e w' ⟨rfl,hw⟩;obtain rfl:=hw.symm;rw[HL.out];simp only[ptr];go_wp2
  go_ret2
  rw[HF.out];exact⟨rfl,Kp0.refl _⟩
 ·have hao:=find_ok hok hat
  obtain⟨z0,z1,z2,-,-⟩:=hya.parts;have hsh:=hao.shape;have HRK:=hid (fun(W:World) (k:Kp0 w W)=>rank_calls vs vi a.shape i W (hya.shape.rd.kp0 k) (hr.kp0 k) hsh.2.1 hsh.1);have hlen:=hao.length;have hv:=vol_bd a.shape hsh.2.1 hsh.1 a.shape.length (Nat.le_refl _);rw[List.take_length]at hv;obtain⟨gc,cap,rfl,hcap,hgc,hcc⟩:=hya.cells.slice (by omega);have HY:=hid hy;have HL:=hid hl;rcases rank_cases a.shape i hsh.2.1 with hneg|⟨hr0,hr1⟩
  ·have HF:Hid (σ.get h i=(0,5)):=hid (by unfold Sp.get;rw[hf];simp[hneg])
   have HN:=hid hneg;clear hy hok hf hl hr hao hsh hlen hv hcc hya hat hneg;go_enter Tryz.func108,Tryz.ntmps108
   go_wp2_with fail
   refine(yfind_calls HY.out HO.out h).mono ?_;rintro e w' ⟨rfl,hw⟩;obtain rfl:=hw.symm;rw[HL.out];simp only[ptr]
   go_wp2_with fail
   refine(HRK.out _ (Kp0.refl _)).mono ?_;rintro e w1 ⟨rfl,hk⟩;have HK:=hid hk;clear hk;rw[HN.out];go_wp2
   go_ret2
   rw[HF.out];exact⟨rfl,HK.out⟩
  ·have hc:=hcc (rank a.shape i).toNat (by omega)
   have hin:=hao.inside (rank a.shape i).toNat (by omega);have hkd:=hao.kind;have hvc:=hy.vcell a.kind hkd;have hvt:=hy.vat hok a.kind hkd (nth a.cells (rank a.shape i).toNat).toNat (by omega);have HF:Hid (σ.get h i=(nth (σ.vals a.kind) (nth a.cells (rank a.shape i).toNat).toNat,0)):=hid (by unfold Sp.get;rw[hf];simp only;rw[if_neg (by omega)]);have hkb:1≤a.kind∧a.kind≤2:=by omega
   have hcpm:=hok.cap a.kind;have hrl:rank a.shape i<(a.cells.length:Int):=by omega
   have hrn:rank a.shape i<3601:=by have:=hsh.2.2;omega
   clear hy hok hf hl hr hao hsh hlen hv hcc hya hat hkd;generalize a.cells.length=n at*;generalize hrr:rank a.shape i=r at*;generalize nth a.cells r.toNat=c at*;generalize nth (σ.vals a.kind) c.toNat=x at*;generalize a.kind=kd at*;generalize σ.cap kd=cp at*;clear hrr;go_enter Tryz.func108,Tryz.ntmps108
   go_wp2_with fail
   refine(yfind_calls HY.out HO.out h).mono ?_;rintro e w' ⟨rfl,hw⟩;obtain rfl:=hw.symm;rw[HL.out];simp only[ptr]
   go_wp2_with fail
   refine(HRK.out _ (Kp0.refl _)).mono ?_;rintro e w1 ⟨rfl,hk⟩;have y0:=hk.cell z0;have y2:=hk.cell z2;have yc:=hk.cell hc;have yv:=hk.cell hvc;have yt:=hk.cell hvt;have HK:=hid hk;clear hk z0 z1 z2 hc hvc hvt;go_wp2
   go_quiet (fail)
   go_wp2
   go_ret2
   rw[HF.out];exact⟨rfl,HK.out.trans ((Kp.refl _ _).drewN _)⟩
theorem same_len(a b:Option Addr)(n m c d:Nat)(w:World)(h:n≠m):Calls Tryz.prog 118 #[.slice a n c,.slice b m d] w fun e w'=>e=.returned (.bool false)∧w'=w:=by
 have h1:((n:Int)!=(m:Int))=true:=by rw[bne_iff_ne];omega
 go_enter Tryz.func118,Tryz.ntmps118
 go_wp2
 go_ret;exact⟨rfl,rfl⟩
theorem same_nil(a b:Option Addr)(c d:Nat)(w:World):Calls Tryz.prog 118 #[.slice a 0 c,.slice b 0 d] w fun e w'=>e=.returned (.bool true)∧w'=w:=by
 go_enter Tryz.func118,Tryz.ntmps118
 go_wp2
 refine wp_loop_rounds 1 ?_;rw[rounds_succ];go_wp2
 go_ret;exact⟨rfl,rfl⟩
theorem same_any(a1 o1 c1 a2 o2 c2:Nat)(xs ys:List Int)(w:World)(hlen:xs.length=ys.length)(hbig:xs.length≤1000000000000)(h1:∀j,j<xs.length→w.cell? ⟨a1,o1+j,none⟩=some (.int .i64 (nth xs j)))(h2:∀j,j<ys.length→w.cell? ⟨a2,o2+j,none⟩=some (.int .i64 (nth ys j))):Calls Tryz.prog 118 #[.slice (some ⟨a1,o1,none⟩) xs.length c1,.slice (some ⟨a2,o2,none⟩) ys.length c2] w fun e w'=>e=.returned (.bool (decide (xs=ys)))∧Kp0 w w':=by
 have hl:((xs.length:Int)!=(ys.length:Int))=false:=by rw[hlen];simp
 go_enter Tryz.func118,Tryz.ntmps118
 go_wp2
 go_loopw [5] (fun i w'=>∃k:Nat,k≤xs.length∧i=.int .i64 k∧(∀j,j<k→nth xs j=nth ys j)∧∃n,w'=w.drewN n) (fun i _=>xs.length-(intOf i).toNat)
 case atStart=>exact⟨0,Nat.zero_le _,rfl,by intro j hj;omega,0,rfl⟩
 case round=>
  obtain⟨k,hk,rfl,hpre,n,rfl⟩:=hrel;by_cases hlt:k<xs.length
  ·have q1:=h1 k hlt
   have q2:=h2 k (by omega);have e1:(0:Int)≤(k:Int):=by omega
   by_cases he:nth xs k=nth ys k
   ·have hb:(nth xs k !=nth ys k)=false:=by simp[he]
    go_wp2
    go_quiet (fail)
    go_wp2
    go_roundw
    case rel=>exact⟨k+1,by omega,by go_num,fun j hj=>by rcases Nat.lt_succ_iff_lt_or_eq.1 hj with h|h;exact hpre j h;subst h;exact he,_,rfl⟩
    case measure=>simp[intOf];omega
   ·have hb:(nth xs k !=nth ys k)=true:=by simp[he]
    go_wp2
    go_quiet (fail)
    go_wp2
    go_ret;refine⟨?_,((Kp.refl _ _).drewN _).drewN _⟩;have hd:decide (xs=ys)=false:=decide_eq_false (fun e=>he (by rw[e]));rw[hd];rfl
  ·go_wp2
   go_ret;refine⟨?_,(Kp.refl _ _).drewN n⟩;have hd:decide (xs=ys)=true:=decide_eq_true (ext_nth hlen (fun j hj=>hpre j (by omega)));rw[hd];rfl
theorem same_calls(va vb:Value)(xs ys:List Int)(w:World)(ha:RdI w va xs)(hb:RdI w vb ys)(hbig:xs.length≤1000000000000):Calls Tryz.prog 118 #[va,vb] w fun e w'=>e=.returned (.bool (decide (xs=ys)))∧Kp0 w w':=by
 obtain⟨a,c,rfl,ha⟩:=ha;obtain⟨b,d,rfl,hb⟩:=hb;by_cases hl:xs.length=ys.length
 ·by_cases hx:xs=[]
  ·subst hx
   have hy:ys=[]:=List.length_eq_zero_iff.1 hl.symm;subst hy;refine(same_nil a b c d w).mono ?_;rintro e w' ⟨rfl,rfl⟩;exact⟨rfl,Kp0.refl _⟩
  ·obtain⟨g,o,rfl,ha'⟩:=ha hx
   obtain⟨g',o',rfl,hb'⟩:=hb (fun e=>hx (List.length_eq_zero_iff.1 (by rw[hl,e];rfl)));exact same_any g o c g' o' d xs ys w hl hbig ha' hb'
 ·refine(same_len a b _ _ c d w hl).mono ?_
  rintro e w' ⟨rfl,rfl⟩;exact⟨by rw[decide_eq_false (fun e=>hl (by rw[e]))],Kp0.refl _⟩
theorem run_app_or(w:World)(ty:TypeId)(ao:Option Addr)(n c:Nat)(xs ys:List Int)(vx:Value)(hown:OwI w (.slice ao n c) xs)(hr:RdI w vx ys)(hne:ys≠[])(hb:n+ys.length≤1000000000000):∃ao' c' w',(Builtin.append_ #[26,26] ty #[.slice ao n c,vx]).run Tryz.prog w=.ok (.slice ao' (n+ys.length) c') w'∧OwI w' (.slice ao' (n+ys.length) c') (xs++ys)∧((ao'=ao∧w.grownBy w' (Value.slice ao n c).ownBlock)∨(ao'=some ⟨w.heap.size,0,none⟩∧w.grownBy w' none)):=by
 obtain⟨ao',c',w',h1,h2,h3,h4⟩:=run_app w ty ao n c xs ys vx hown hr hb;refine⟨ao',c',w',h1,h2,?_⟩;obtain⟨i,hi,hz0,hz1,hz2⟩:=info_parts Tryz.infoInt;obtain⟨hn,hnc⟩:=hown.form;obtain⟨a,cap,rfl,hr⟩:=hr;obtain⟨g,o,rfl,hc⟩:=hr hne;have hpos:0<ys.length:=List.length_pos_iff.2 hne;have hnews:∀j u,(ints ys)[j]? =some u→w.cell? ((⟨g,o,none⟩:Addr).add j)=some u:=by
  intro j u hu;have hj:j<ys.length:=by
   rcases Nat.lt_or_ge j ys.length with h|h
   ·exact h
   ·rw[List.getElem?_eq_none (by rw[ints_length];exact h)]at hu;cases hu
  rw[ints_get hj]at hu;have:(⟨g,o,none⟩:Addr).add j=⟨g,o+j,none⟩:=by unfold Addr.add;split<;>simp_all
  rw[this,hc j hj];exact hu
 have hl:(ints ys).length=ys.length*i.size:=by rw[ints_length,hz1,Nat.mul_one]
 have hown':w.ownsRow 0 3 1 (.slice ao n c) n (ints xs):=by rw[hn];rw[hn]at hown;exact hown
 rcases hown'.2 with⟨hv,h0⟩|⟨g',cap',cur,hv,hbg,hg,hnc',hcm,hcs,htake⟩
 ·right
  simp at hv;obtain⟨rfl,rfl,rfl⟩:=hv;have he:=run_append_nil (P:=Tryz.prog) w 26 ty 3 i (.int .i64 0) Tryz.underlying26 hi hz0 ⟨g,o,none⟩ ys.length cap (ints ys) hl hnews hpos (by omega) (by rw[hz2];omega);rw[he]at h1;simp only[Result.ok.injEq,Value.slice.injEq]at h1;obtain⟨⟨e1,_,_⟩,e2⟩:=h1;exact⟨e1.symm,by rw[←e2];exact⟨rfl,rfl,rfl,by simp,fun k hk _=>Below.heap_alloc w.drew _ k hk⟩⟩
 ·simp at hv
  obtain⟨rfl,rfl⟩:=hv;by_cases hroom:n+ys.length≤c
  ·left
   refine⟨?_,h3⟩;have he:=run_append_room (P:=Tryz.prog) w 26 ty 3 i Tryz.underlying26 hi g' n c cur hg ⟨g,o,none⟩ ys.length cap (ints ys) hl hnews (ints_cell ys) hroom (by rw[hz1,ints_length,hcs];omega);rw[he]at h1;simp only[Result.ok.injEq,Value.slice.injEq]at h1;exact h1.1.1.symm
  ·right
   have holds:∀j u,(ints xs)[j]? =some u→w.cell? ((⟨g',0,none⟩:Addr).add j)=some u:=hown'.cells (g:=g') rfl;have he:=run_append_grow (P:=Tryz.prog) w 26 ty 3 i (.int .i64 0) Tryz.underlying26 hi hz0 ⟨g',0,none⟩ n c (ints xs) (by rw[ints_length,hz1,hn,Nat.mul_one]) holds ⟨g,o,none⟩ ys.length cap (ints ys) hl hnews (by omega) (by omega) (growslice_fits (by omega) (by rw[hz2];omega));rw[he]at h1;simp only[Result.ok.injEq,Value.slice.injEq]at h1;obtain⟨⟨e1,_,_⟩,e2⟩:=h1;exact⟨e1.symm,by rw[←e2];exact⟨rfl,rfl,rfl,by simp,fun k hk _=>Below.heap_alloc w.drew _ k hk⟩⟩
theorem wpList_app_or{ops:Array Oper}{rest:List Oper}{o:Oper}{a:Act}{w:World}{Q:Exit→Act→World→Prop}(hgd:o.guard=none)(s x:Operand)(ho:o.op=.call {callee:=.builtin .append,args:= #[s,x],argTypes:= #[26,26]})(ao:Option Addr)(n c:Nat)(xs ys:List Int)(vx:Value)(hs:a.eval s=.slice ao n c)(hx:a.eval x=vx)(hown:OwI w (.slice ao n c) xs)(hr:RdI w vx ys)(hne:ys≠[])(hb:n+ys.length≤1000000000000)(H:Nat)(hH:w.heap.size=H)(h:∀ao' c' w',OwI w' (.slice ao' (n+ys.length) c') (xs++ys)→((ao'=ao∧w.grownBy w' (Value.slice ao n c).ownBlock)∨(ao'=some ⟨H,0,none⟩∧w.grownBy w' none))→wpList Tryz.prog ops Q rest (a.put o.dst (.slice ao' (n+ys.length) c')) w'):wpList Tryz.prog ops Q (o::rest) a w:=
 wpList_plain hgd fun _ hK=>by
  obtain⟨ao',c',w',hrun,h2,h3⟩:=run_app_or w o.type ao n c xs ys vx hown hr hne hb;unfold Oper.wp execOp;simp only[ho,resolve,invoke,builtin,Sem.run_bind,Sem.run_pure,Result.andThen_ok,List.map_toArray,List.map_cons,List.map_nil,hs,hx,hrun];exact hK _ _ (h ao' c' w' h2 (by rw[←hH];exact h3))
def shC(l:List Int):List Value:=[.int .i64 (nth l 0),.int .i64 (nth l 1),.int .i64 (nth l 2),.int .i64 (nth l 3),.int .i64 (l.length:Int)]
theorem new_cell(w:World)(cs:Array Value)(t:TypeId)(r:Nat×Nat)(k:Nat):(w.alloc (.cells cs t r)).cell? ⟨w.heap.size,k,none⟩=cs[k]? :=by rw[cell_of_row _ _ _ _ _ _ (heap_alloc_new w _)]
theorem sh_cells(w:World)(l:List Int)(n:Nat)(t:TypeId)(k:Nat)(h:k<4):(w.alloc (.cells #[.int .i64 (nth l 0),.int .i64 (nth l 1),.int .i64 (nth l 2),.int .i64 (nth l 3),.int .i64 (n:Int)] t)).cell? ⟨w.heap.size,k,none⟩=some (.int .i64 (nth l k)):=by
 rw[new_cell]
 match k,h with
 |0,_=>rfl
 |1,_=>rfl
 |2,_=>rfl
 |3,_=>rfl
theorem xvolume_calls(l:List Int)(w:World)(hs:sized l)(hl:l.length≤4):Calls Tryz.prog 57 #[.agg (shC l).toArray] w fun e w'=>e=.returned (.int .i64 (vol l))∧Kp0 w w':=by
 have HL:=hid hl;have HS:=hid hs;obtain⟨n,hn⟩:∃n,n=l.length:=⟨_,rfl⟩;have hn4:n≤4:=by omega
 unfold shC;rw[←hn];have HN:=hid hn;clear hn hl hs;go_enter Tryz.func57,Tryz.ntmps57
 go_wp2
 have HC:Hid (∀k,k<4→(w.alloc (.cells #[.int .i64 (nth l 0),.int .i64 (nth l 1),.int .i64 (nth l 2),.int .i64 (nth l 3),.int .i64 (n:Int)] 104)).cell? ⟨w.heap.size,k,none⟩=some (.int .i64 (nth l k))):=fun k h=>sh_cells w l n _ k h
 have HK:Hid (Kp0 w (w.alloc (.cells #[.int .i64 (nth l 0),.int .i64 (nth l 1),.int .i64 (nth l 2),.int .i64 (nth l 3),.int .i64 (n:Int)] 104))):=(Kp.refl _ w).alloc _;generalize w.alloc (.cells #[.int .i64 (nth l 0),.int .i64 (nth l 1),.int .i64 (nth l 2),.int .i64 (nth l 3),.int .i64 (n:Int)] 104)=W at HC HK⊢
 go_loop [3,7,4] (fun v i _=>∃k:Nat,k≤n∧i=.int .i64 k∧v=.int .i64 (vol (l.take k))) (fun _ i _=>n-(intOf i).toNat)
 case atStart=>exact⟨0,Nat.zero_le _,rfl,rfl⟩
 case round=>
  obtain⟨k,hk,rfl,rfl⟩:=hrel;by_cases hlt:k<n
  ·have q1:=HC.out k (by omega)
   have b1:=vol_bd l HS.out HL.out k (by have:=HN.out;omega);have b2:=vol_bd l HS.out HL.out (k+1) (by have:=HN.out;omega);have HV:Hid (vol (l.take (k+1))=vol (l.take k)*nth l k):=vol_take l k (by have:=HN.out;omega);rw[vol_take l k (by have:=HN.out;omega)]at b2;have k1:(k:Int)<4:=by omega
   go_wp2
   go_round
   case rel=>exact⟨k+1,by omega,by go_num,by rw[HV.out]⟩
   case measure=>simp[intOf];omega
  ·go_wp2
   go_ret;exact⟨ret_int (by rw[List.take_of_length_le (by have:=HN.out;omega)]),HK.out⟩
abbrev shB(l:List Int)(n:Nat):Obj:=.cells #[.int .i64 (nth l 0),.int .i64 (nth l 1),.int .i64 (nth l 2),.int .i64 (nth l 3),.int .i64 (n:Int)] 104
theorem xhas_len(a:Option Addr)(l:List Int)(m c:Nat)(w:World)(h:l.length≠m):Calls Tryz.prog 103 #[.agg (shC l).toArray,.slice a m c] w fun e w'=>e=.returned (.bool false)∧Kp0 w w':=by
 have h1:((m:Int)!=(l.length:Int))=true:=by rw[bne_iff_ne];omega
 unfold shC;go_enter Tryz.func103,Tryz.ntmps103
 go_wp2
 go_ret;exact⟨rfl,(Kp.refl _ w).alloc _⟩
theorem xhas_nil(a:Option Addr)(c:Nat)(w:World):Calls Tryz.prog 103 #[.agg (shC []).toArray,.slice a 0 c] w fun e w'=>e=.returned (.bool true)∧Kp0 w w':=by
 simp only[shC,List.length_nil];go_enter Tryz.func103,Tryz.ntmps103
 go_wp2
 refine wp_loop_rounds 1 ?_;rw[rounds_succ];go_wp2
 go_ret;exact⟨rfl,(Kp.refl _ w).alloc _⟩
theorem xhas_any(g o c:Nat)(l i:List Int)(n:Nat)(w:World)(HL:Hid (l.length=n))(HI:Hid (i.length=n))(hl:n≤4)(h1:∀j,j<n→w.cell? ⟨g,o+j,none⟩=some (.int .i64 (nth i j))):Calls Tryz.prog 103 #[.agg #[.int .i64 (nth l 0),.int .i64 (nth l 1),.int .i64 (nth l 2),.int .i64 (nth l 3),.int .i64 (n:Int)],.slice (some ⟨g,o,none⟩) n c] w fun e w'=>e=.returned (.bool (inBb l i))∧Kp0 w w':=by
 have HR:Hid (∀j,j<n→(w.alloc (shB l n)).cell? ⟨g,o+j,none⟩=some (.int .i64 (nth i j))):=fun j hj=>Kp0.cell ((Kp.refl _ w).alloc _) (h1 j hj)
 have HC:Hid (∀k,k<4→(w.alloc (shB l n)).cell? ⟨w.heap.size,k,none⟩=some (.int .i64 (nth l k))):=fun k h=>sh_cells w l n _ k h
 have HK:Hid (Kp0 w (w.alloc (shB l n))):=(Kp.refl _ w).alloc _;clear h1;go_enter Tryz.func103,Tryz.ntmps103
 go_wp2
 generalize w.alloc (shB l n)=W at HC HK HR⊢
 go_loopw [5,6,14] (fun _ _ t w'=>∃k:Nat,k≤n∧t=.int .i64 k∧inTo l i k∧w'=W) (fun _ _ t _=>n-(intOf t).toNat)
 case atStart=>exact⟨0,Nat.zero_le _,rfl,fun j hj=>by omega,rfl⟩
 case round=>
  obtain⟨k,hk,rfl,hin,rfl⟩:=hrel;by_cases hlt:k<n
  ·have q1:=HC.out k (by omega)
   have q2:=HR.out k hlt;have k1:(k:Int)<4:=by omega
   by_cases h0:nth i k<0
   ·have d1:decide (nth i k<0)=true:=by simp[h0]
    have HF:Hid (inBb l i=false):=by
     rw[←Bool.not_eq_true];exact fun e=>by have:=((inBb_iff l i).1 e).2 k (by have:=HL.out;omega);omega
    go_wp2
    go_ret;exact⟨ret_bool HF.out.symm,HK.out⟩
   ·have d1:decide (nth i k<0)=false:=by simp[h0]
    by_cases hg:nth l k≤nth i k
    ·have d2:decide (nth l k≤nth i k)=true:=by simp[hg]
     have HF:Hid (inBb l i=false):=by
      rw[←Bool.not_eq_true];exact fun e=>by have:=((inBb_iff l i).1 e).2 k (by have:=HL.out;omega);omega
     go_wp2
     go_ret;exact⟨ret_bool HF.out.symm,HK.out⟩
    ·have d2:decide (nth l k≤nth i k)=false:=by simp[hg]
     have hin':inTo l i (k+1):=fun j hj=>by
      rcases Nat.lt_succ_iff_lt_or_eq.1 hj with h|h
      ·exact hin j h
      ·subst h;omega
     have HS:Hid (inTo l i (k+1)):=hin';clear hin' hin;go_wp2
     go_roundw
     case rel=>exact⟨k+1,by omega,by go_num,HS.out,trivial⟩
     case measure=>simp[intOf];omega
  ·have HF:Hid (inBb l i=true):=(inBb_iff l i).2 ⟨HL.out.trans HI.out.symm,fun j hj=>hin j (by have:=HL.out;omega)⟩
   go_wp2
   go_ret;exact⟨ret_bool HF.out.symm,HK.out⟩
theorem xhas_calls(l i:List Int)(vi:Value)(w:World)(hr:RdI w vi i)(hl:l.length≤4):Calls Tryz.prog 103 #[.agg (shC l).toArray,vi] w fun e w'=>e=.returned (.bool (inBb l i))∧Kp0 w w':=by
 obtain⟨a,c,rfl,ha⟩:=hr;by_cases hle:l.length=i.length
 ·by_cases hx:i=[]
  ·subst hx
   have:l=[]:=List.length_eq_zero_iff.1 hle;subst this;refine(xhas_nil a c w).mono ?_;rintro e w' ⟨rfl,hw⟩;exact⟨ret_bool (by simp[inBb]),hw⟩
  ·obtain⟨g,o,rfl,ha'⟩:=ha hx
   have e:(Value.agg (shC l).toArray)=.agg #[.int .i64 (nth l 0),.int .i64 (nth l 1),.int .i64 (nth l 2),.int .i64 (nth l 3),.int .i64 (i.length:Int)]:=by simp[shC,hle]
   rw[e];exact xhas_any g o c l i i.length w hle rfl (by omega) ha'
 ·have hf:inBb l i=false:=by
   rw[←Bool.not_eq_true];exact fun e=>hle ((inBb_iff l i).1 e).1
  rw[hf];exact xhas_len a l _ c w hle
end Go.Proofs.YticbbncdcannlaaGreat
