import Derived.Deep.RegionWith
import Derived.Deep.QuietTactic
import Derived.BigQuiet
import Derived.Test.YticbbncdcannlaaGreatG43
import Derived.Test.YticbbncdcannlaaGreatG49
set_option maxRecDepth 100000
set_option maxHeartbeats 8000000
namespace Go.Proofs.YticbbncdcannlaaGreat
open Go.RowKit Go.Maps Go.ChangeMaps Go.MapKept
theorem xShared_no(p:Nat)(a b:Int)(w:World)(HA:Hid (∀W vh,Kp0 w W→RdI W vh [a,b]→Calls Tryz.prog 50 #[.pointer (some ⟨p,0,none⟩),vh] W fun e w'=>e=.returned (.tuple #[.slice none 0 0,.int .i64 2])∧Kp0 W w')):Calls Tryz.prog 18 #[.pointer (some ⟨p,0,none⟩),.int .i64 a,.int .i64 b] w fun e w'=>e=.returned (.tuple #[.bool false,.int .i64 2])∧Kp0 w w':=by
 have HK1:Hid (Kp0 w (w.alloc (.cells #[.int .i64 a,.int .i64 b] 3))):=(Kp.refl _ w).alloc _;have HR1:Hid (RdI (w.alloc (.cells #[.int .i64 a,.int .i64 b] 3)) (.slice (some ⟨w.heap.size,0,none⟩) 2 2) [a,b]):=rd_of_blk (heap_alloc_new w _) rfl;go_enter Tryz.func18,Tryz.ntmps18
 go_wp2_with fail
 refine(HA.out _ _ HK1.out HR1.out).mono ?_;rintro e w2 ⟨rfl,hk⟩;have HK2:Hid (Kp0 w w2):=Kp0.trans HK1.out hk;clear hk HK1 HR1 HA;go_wp2
 go_ret2
 exact⟨rfl,HK2.out⟩
theorem xShared_yes(p:Nat)(a b:Int)(w:World)(x y:XA)(mb:Bool)(HA:Hid (∀W vh,Kp0 w W→RdI W vh [a,b]→Calls Tryz.prog 50 #[.pointer (some ⟨p,0,none⟩),vh] W fun e w'=>∃g,e=.returned (.tuple #[.slice (some ⟨g,0,none⟩) 2 2,.int .i64 0])∧Kp0 W w'∧w'.heap[g]? =some (.cells (x.cs++y.cs) 109 (0,0))∧W.heap.size≤g))(HM:Hid (x.kind=y.kind→∀W,Calls Tryz.prog 51 #[.agg (grC x.l x.t x.f).toArray,.agg (grC y.l y.t y.f).toArray] W fun e w'=>e=.returned (.bool mb)∧Kp0 W w'))(HN:Hid (x.kind≠y.kind→mb=false)):Calls Tryz.prog 18 #[.pointer (some ⟨p,0,none⟩),.int .i64 a,.int .i64 b] w fun e w'=>e=.returned (.tuple #[.bool mb,.int .i64 0])∧Kp0 w w':=by
 have HK1:Hid (Kp0 w (w.alloc (.cells #[.int .i64 a,.int .i64 b] 3))):=(Kp.refl _ w).alloc _;have HR1:Hid (RdI (w.alloc (.cells #[.int .i64 a,.int .i64 b] 3)) (.slice (some ⟨w.heap.size,0,none⟩) 2 2) [a,b]):=rd_of_blk (heap_alloc_new w _) rfl;obtain⟨nx,hnx⟩:∃nx,x.l.length=nx:=⟨_,rfl⟩;obtain⟨ny,hny⟩:∃ny,y.l.length=ny:=⟨_,rfl⟩;unfold XA.cs at HA;unfold grC at HM;simp only[hnx,hny,app26]at HA HM;clear hnx hny;by_cases hkk:x.kind=y.kind
 ·have HMM:=hid (HM.out hkk)
  have d1:(x.kind==y.kind)=true:=by simp[hkk]
  clear HM HN hkk;go_enter Tryz.func18,Tryz.ntmps18
  go_wp2_with fail
  refine(HA.out _ _ HK1.out HR1.out).mono ?_;rintro e w2 ⟨g,rfl,hk,hb,hg⟩;have HK2:Hid (Kp0 w w2):=Kp0.trans HK1.out hk;obtain⟨y0,y1,y2,y3,y4,y5,y6,y7,y8,y9,y10,y11,y12⟩:=cells26a hb;obtain⟨z0,z1,z2,z3,z4,z5,z6,z7,z8,z9,z10,z11,z12⟩:=cells26b hb;have HKD:Hid (Kp0 w w2.drew):=HK2.out.drew;clear hk hb hg HK1 HR1 HA;go_wp2
  go_region_with (go_at_call 51;refine(HMM.out _).mono ?_;rintro e w7 ⟨rfl,hw7⟩)
  all_goals
   have HK7:=hid (Kp0.trans HKD.out hw7);clear hw7;go_wp2
   go_ret2
   exact⟨rfl,HK7.out⟩
 ·have d1:(x.kind==y.kind)=false:=by simp[hkk]
  have HMB:=hid (HN.out hkk);rw[HMB.out];clear HM HN hkk HMB;go_enter Tryz.func18,Tryz.ntmps18
  go_wp2_with fail
  refine(HA.out _ _ HK1.out HR1.out).mono ?_;rintro e w2 ⟨g,rfl,hk,hb,hg⟩;have HK2:Hid (Kp0 w w2):=Kp0.trans HK1.out hk;obtain⟨y0,y1,y2,y3,y4,y5,y6,y7,y8,y9,y10,y11,y12⟩:=cells26a hb;obtain⟨z0,z1,z2,z3,z4,z5,z6,z7,z8,z9,z10,z11,z12⟩:=cells26b hb;have HN7:Hid (∀k:Nat,Kp0 w (w2.drewN k)):=hid (fun k=>HK2.out.drewN k);clear hk hb hg HK1 HR1 HA y1 y2 y3 y4 y5 y6 y7 y8 y9 y10 y11 y12 z1 z2 z3 z4 z5 z6 z7 z8 z9 z10 z11 z12;go_wp2
  go_quiet (fail)
  go_wp2
  go_ret2
  exact⟨rfl,HN7.out _⟩
end Go.Proofs.YticbbncdcannlaaGreat
