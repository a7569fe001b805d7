import Derived.Test.YticbbncdcannlaaGreatG07
import Derived.Test.YticbbncdcannlaaGreatG38
import Derived.Test.YticbbncdcannlaaGreatG42
set_option maxRecDepth 100000
set_option maxHeartbeats 8000000
namespace Go.Proofs.YticbbncdcannlaaGreat
open Go.ChangeShapes Go.WideShapes Go.ChangeAt Go.RowKit
theorem all_contract{R:Tags→Nat→World→Nat→Sp→Prop}(X:XC3 R)(H:Type)(enc:TypeId×Value→H)(W:World)(base:Nat)(args:Array Value)(ds gs:List (DataW H))(before:List MemPlace)(hval:∀(j:Nat) t v,Tryz.f10.params[j]? =some t→args[j]? =some v→Value.okWide Tryz.prog W .any base t v)(hW:DataW.Whole enc Tryz.prog Tryz.f10.params.toList Rows.allSpec.vars false W args.toList ds gs before)(hk:Rows.uptoSmall H (ds++gs)=true):Calls Tryz.prog 10 args W fun e W'=>∃v,e=.returned v∧Rows.allSpec.post enc Tryz.prog Tryz.f10 false true false false W args v W':=by
 have hW':=hW;obtain⟨p,q,hA0,hV,rfl,hfz,hnd⟩:=hW;have hA:DataW.TrodAll enc Tryz.prog W 0 (fun _=>true) true Tryz.f10.params.toList args.toList ds p:=hA0;rw[Tryz.params10]at hA hval;obtain⟨v0,vs0,d0,ds0,p0,q0,hargs,rfl,rfl,h0,r0⟩:=trodAll_cons hA;obtain⟨v1,vs1,d1,ds1,p1,q1,rfl,rfl,rfl,h1,r1⟩:=trodAll_cons r0;obtain⟨v2,vs2,d2,ds2,p2,q2,rfl,rfl,rfl,h2,r2⟩:=trodAll_cons r1;obtain⟨v3,vs3,d3,ds3,p3,q3,rfl,rfl,rfl,h3,r3⟩:=trodAll_cons r2;obtain⟨v4,vs4,d4,ds4,p4,q4,rfl,rfl,rfl,h4,r4⟩:=trodAll_cons r3;obtain⟨rfl,rfl,rfl⟩:=trodAll_nil r4;obtain rfl:args= #[v0,v1,v2,v3,v4]:=Array.ext' hargs;obtain⟨rfl,rfl⟩:=trodVars_none hV;obtain⟨a0,rfl,rfl,rfl,w0⟩:=open_int Tryz.underlying3 (hval 0 3 v0 rfl rfl) h0;obtain⟨a1,rfl,rfl,rfl,w1⟩:=open_int Tryz.underlying3 (hval 1 3 v1 rfl rfl) h1;obtain⟨a2,rfl,rfl,rfl,w2⟩:=open_int Tryz.underlying3 (hval 2 3 v2 rfl rfl) h2;obtain⟨a3,rfl,rfl,rfl,w3⟩:=open_int Tryz.underlying3 (hval 3 3 v3 rfl rfl) h3;obtain⟨aS,N,cS,rfl⟩:=okWide_slice Tryz.underlying22 (hval 4 22 v4 rfl rfl);have k4:=h4;have lt4:∀x∈p4,x.block<W.heap.size:=by obtain⟨m,hm⟩:=k4;exact DataW.trod_lt m _ _ _ hm
 have hb:Rows.uptoBulk d4≤1048576:=by
  have hk':Rows.uptoBulkAll _≤1048576:=of_decide_eq_true hk;exact Nat.le_trans (bulk_mem (by simp)) hk'
 obtain⟨ops,hN,hNb,hS⟩:=open_script h4 hb;clear hA0;refine(all_calls X W a0 a1 a2 a3 aS N cS ops hN (by omega) hS).mono fun e W' ⟨he,hk0⟩=>?_
 subst he;have bel:=hk0.below;exact⟨_,rfl,_,_,_,[],_,[],hW',trodAll_mk1 (shut_bool Tryz.underlying4 _),(trodAll_cons_mk (shut_int Tryz.underlying3 w0) (trodAll_cons_mk (shut_int Tryz.underlying3 w1) (trodAll_cons_mk (shut_int Tryz.underlying3 w2) (trodAll_cons_mk (shut_int Tryz.underlying3 w3) (trodAll_cons_mk (Below.trod Tryz.laidOutYes (by kernel_rfl) (of_decide_eq_true (by kernel_rfl)) k4 bel lt4) trodAll_mk0))))),rfl,bel.frame _,fun h=>by cases h⟩
theorem all_lifted{R:Tags→Nat→World→Nat→Sp→Prop}(X:XC3 R)(os:Os)(started:os.Started)(H:Type)(enc:TypeId×Value→H)(F:Stop.Interp):ReturnsInHanded {} Tryz.checked os 10 .any ((Rows.OpenSpec.upto Rows.allSpec).pre6 enc Tryz.prog Tryz.f10 Rows.allUptoRow.domain false) (((Rows.OpenSpec.upto Rows.allSpec).at F).post enc Tryz.prog Tryz.f10 false true false false):=by
 refine returnsInHanded_of_cond (C:=Tryz.checked) (s:=Rows.OpenSpec.upto Rows.allSpec) (k:=Rows.uptoSmall) rfl Tryz.ownNone started (by kernel_rfl) Tryz.func10
  (OpenSpec.witness (enc:=enc) (C:=Tryz.checked) (s:=Rows.OpenSpec.upto Rows.allSpec) (k:=Rows.uptoSmall) rfl false ⟨#[],#[.int .i64 0,.int .i64 0,.int .i64 0,.int .i64 0,.slice none 0 0],[]⟩ 8 (by kernel_rfl) (by kernel_rfl) (by kernel_rfl)
   (x:=([.lit (.int .i64 0),.lit (.int .i64 0),.lit (.int .i64 0),.lit (.int .i64 0),.nil],[],[])) (by kernel_rfl) rfl (by kernel_rfl)) ?_
 intro W base args ds gs before hval hW _ hk _;exact all_contract X H enc W base args ds gs before hval hW hk
theorem all_over{R:Tags→Nat→World→Nat→Sp→Prop}(X:XC3 R):Rows.AllUptoSaid:=
 OpenClaim.holds_of_cond 10 Tryz.f10 rfl rfl rfl rfl rfl rfl rfl ⟨rfl,rfl,rfl,rfl,rfl⟩ rfl rfl rfl rfl rfl (by kernel_rfl) Tryz.func10 (by kernel_rfl)
  (of_decide_eq_true (by kernel_rfl)) (by unfold Func.isWrapper;first|(rw[if_pos (by decide+kernel)];kernel_rfl)|(rw[if_neg (by decide+kernel)];exact⟨rfl,rfl⟩))
  (fun os started H enc _ F=>all_lifted X os started H enc F)
end Go.Proofs.YticbbncdcannlaaGreat
namespace Go.Proofs.YticbbncdcannlaaGreat
open Go.RowKit
theorem xc:XC XRep where
 kp:=fun h k hs=>h.kp k hs
 tags:=fun h k=>h.tags k
 newNo:=fun b i w h=>xc_newNo b i w h
 newYes:=fun b i w T o hb hi=>xc_newYes b i w T o hb hi
 make:=fun kind vs s hR hr _ _ hm hb=>xc_make kind vs s hR hr hm hb
 free:=fun h hR=>xc_free h hR
 set:=fun h v vi i hR hr _ _ hv=>xc_set h v vi i hR hr hv
 get:=fun h vi i hR hr _ _=>xc_get h vi i hR hr
 fill:=fun h v hR hv=>xc_fill h v hR hv
 values:=fun h t hR _=>xc_values h t hR
 look:=fun h t hR _=>xc_look h t hR
 store:=fun kind hR=>xc_store kind hR
end Go.Proofs.YticbbncdcannlaaGreat
