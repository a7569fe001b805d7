import Derived.Test.YticbbncdcannlaaGreatG46
import Derived.Test.YticbbncdcannlaaGreatG50
set_option maxRecDepth 100000
set_option maxHeartbeats 8000000
namespace Go.Proofs.YticbbncdcannlaaGreat
open Go.RowKit
theorem xc_shared{T:Tags}{o:Nat}{w:World}{p:Nat}{σ:Sp}(fa fb:Int)(hR:XRep T o w p σ):Calls Tryz.prog 18 #[.pointer (some ⟨p,0,none⟩),.int .i64 fa,.int .i64 fb] w fun e w'=>e=.returned (.tuple #[.bool (σ.shared fa fb).1,.int .i64 (σ.shared fa fb).2])∧Step XRep T o w p σ w':=by
 have hR':=hR;obtain⟨hok,L,X,hX,hT⟩:=hR;cases hfa:σ.find fa with
 |none=>
  have hres:σ.shared fa fb=(false,2):=by simp[Sp.shared,hfa]
  rw[hres];refine(xShared_no p fa fb w (hid (fun W vh k hr=>xfindAll2_no0 (hX.kp0 k) fa fb vh hr (hT.non fa hfa)))).mono ?_;rintro e w' ⟨rfl,hk⟩;exact⟨rfl,hR'.stay hk⟩
 |some a=>
  obtain⟨x,hAx,hx⟩:=hT.som fa a hfa;have ha:=kind_of hok hfa;have hkx:x.kind=1∨x.kind=2:=by rw[hx.kind];exact ha.kind
  cases hfb:σ.find fb with
  |none=>
   have hres:σ.shared fa fb=(false,2):=by simp[Sp.shared,hfa,hfb]
   rw[hres];refine(xShared_no p fa fb w (hid (fun W vh k hr=>xfindAll2_no1 (hX.kp0 k) fa fb vh hr x hAx hkx (hT.non fb hfb)))).mono ?_;rintro e w' ⟨rfl,hk⟩;exact⟨rfl,hR'.stay hk⟩
  |some b=>
   obtain⟨y,hAy,hy⟩:=hT.som fb b hfb;have hb:=kind_of hok hfb;have hky:y.kind=1∨y.kind=2:=by rw[hy.kind];exact hb.kind
   have hres:σ.shared fa fb=(a.shares b,0):=by simp[Sp.shared,hfa,hfb]
   rw[hres];refine(xShared_yes p fa fb w x y (a.shares b) (hid (fun W vh k hr=>xfindAll2_yes (hX.kp0 k) fa fb vh hr x hAx hkx y hAy hky)) (hid (fun hkk W=>?_)) (hid (fun hne=>?_))).mono ?_
   ·have hm:meetB (gc x.l x.t x.f x.l.length) (gc y.l y.t y.f y.l.length)=a.shares b:=by
     rw[Bool.eq_iff_iff,meetB_iff,shares_iff,hx.cells,hy.cells];constructor
     ·rintro⟨i,j,h1,h2,h3⟩
      exact⟨i,j,h1,h2,by rw[←hx.kind,←hy.kind];exact hkk,h3⟩
     ·rintro⟨i,j,h1,h2,-,h3⟩
      exact⟨i,j,h1,h2,h3⟩
    rw[←hm];exact xmeets_calls _ _ _ _ _ _ _ _ W hx.g hy.g
   ·rw[←Bool.not_eq_true,shares_iff]
    rintro⟨i,j,h1,h2,h3,h4⟩;exact hne (by rw[hx.kind,hy.kind];exact h3)
   ·rintro e w' ⟨rfl,hk⟩
    exact⟨rfl,hR'.stay hk⟩
end Go.Proofs.YticbbncdcannlaaGreat
