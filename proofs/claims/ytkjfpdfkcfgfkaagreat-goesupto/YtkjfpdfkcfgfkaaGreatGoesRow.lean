/- Goes: whatever script comes in, the program answers as the document does, with Count and with going through the solutions: for every input the statement answers true. Condition: what comes in is of bulk at most 1048576. -/
import Derived.Test.YtkjfpdfkcfgfkaaGreatM9
import Derived.Test.YtkjfpdfkcfgfkaaGreatM10
import Derived.Test.YtkjfpdfkcfgfkaaGreatM11
import Derived.JoinedCond
namespace Go.Proofs.YtkjfpdfkcfgfkaaGreat
open Go.ChangeShapes Go.WideShapes Go.ChangeAt Go.RowKit
set_option maxRecDepth 100000 in
theorem JR (os:Os) (started:os.Started) (H:Type) (enc:TypeId×Value->H) (F:Stop.Interp):
  ReturnsInHanded {} Tryz.checked os 5 .any ((Rows.OpenSpec.upto Rows.goesSpec).pre6 enc Tryz.prog Tryz.f5 Rows.goesUptoRow.domain false) (((Rows.OpenSpec.upto Rows.goesSpec).at F).post enc Tryz.prog Tryz.f5 false true false false):=by
 refine returnsInHanded_of_cond (C:=Tryz.checked) (s:=Rows.OpenSpec.upto Rows.goesSpec) (k:=Rows.uptoSmall) rfl Tryz.agd started (by kernel_rfl) Tryz.func5
  (OpenSpec.witness (enc:=enc) (C:=Tryz.checked) (s:=Rows.OpenSpec.upto Rows.goesSpec) (k:=Rows.uptoSmall) rfl false ⟨#[],#[.slice none 0 0,.slice none 0 0],[]⟩ 8 (by kernel_rfl) (by kernel_rfl) (by kernel_rfl)
   (x:=([.nil,.nil],[],[])) (by kernel_rfl) rfl (by kernel_rfl)) ?_
 intro W base args ds gs before hval0 hW _ hk _;have hval:∀(j:Nat) t v,Tryz.f5.params[j]? = some t->args[j]? = some v->Value.okWide Tryz.prog W .any base t v:=hval0
 have hW':=hW;obtain⟨p,q,hA0,hV,rfl,_,_⟩:=hW;have hA:DataW.TrodAll enc Tryz.prog W 0 (fun _=>true) true Tryz.f5.params.toList args.toList ds p:=hA0
 rw[Tryz.params5] at hA hval;obtain⟨v0,vs0,d0,ds0,p0,q0,hargs,rfl,rfl,h0,r0⟩:=trodAll_cons hA;obtain⟨v1,vs1,d1,ds1,p1,q1,rfl,rfl,rfl,h1,r1⟩:=trodAll_cons r0;obtain⟨rfl,rfl,rfl⟩:=trodAll_nil r1;obtain rfl:args=#[v0,v1]:=by cases args;simp_all
 obtain⟨rfl,rfl⟩:=trodVars_none hV;obtain⟨a0,len0,cap0,rfl⟩:=okWide_slice Tryz.underlying22 (hval 0 22 v0 rfl rfl);obtain⟨a1,len1,cap1,rfl⟩:=okWide_slice Tryz.underlying23 (hval 1 23 v1 rfl rfl);have lt0:∀x∈p0,x.block<W.heap.size:=by obtain⟨m,hm⟩:=h0;exact DataW.trod_lt m _ _ _ hm
 have lt1:∀x∈p1,x.block<W.heap.size:=by obtain⟨m,hm⟩:=h1;exact DataW.trod_lt m _ _ _ hm
 have aec:Rows.uptoBulkAll ([d0,d1]++[])<=1048576:=of_decide_eq_true hk;simp only[List.append_nil,Rows.uptoBulkAll] at aec;obtain⟨f0,g0⟩:=h0;obtain⟨f1,g1⟩:=h1;obtain⟨b0,c0,xs,e0,hx,hbx⟩:=Gh g0;obtain⟨b1,c1,ns,e1,ho,hn,hbo⟩:=Nk g1 (by show Rows.uptoBulk d1<=_;omega)
 have ahM:xs.length+1<=Rows.uptoBulk d0:=hbx;have ahN:jf ns<=2*Rows.uptoBulk d1:=hbo;rw[e0,e1];refine(Q5 VK VZ b0 b1 c0 c1 xs ns W (by omega) hx ho hn (by omega)).mono fun e W' ⟨he,hnw⟩=>?_
 have bel:=hnw.below;subst he;rw[<-e0,<-e1];exact⟨_,rfl,_,_,_,[],_,[],hW',trodAll_mk1 (shut_bool Tryz.underlying4 _),(trodAll_cons_mk (Below.trod Tryz.Y7 (by kernel_rfl) (of_decide_eq_true (by kernel_rfl)) ⟨f0,g0⟩ bel lt0) (trodAll_cons_mk (Below.trod Tryz.Y7 (by kernel_rfl) (of_decide_eq_true (by kernel_rfl)) ⟨f1,g1⟩ bel lt1) trodAll_mk0)),rfl,bel.frame _,fun h=>by cases h⟩
theorem goes_holds:Rows.GoesUptoSaid:=
 OpenClaim.holds_of_cond 5 Tryz.f5 rfl rfl rfl rfl rfl rfl rfl ⟨rfl,rfl,rfl,rfl,rfl⟩ rfl rfl rfl rfl rfl (by kernel_rfl) Tryz.func5 (by kernel_rfl)
  (of_decide_eq_true (by kernel_rfl)) (by unfold Func.isWrapper;first | (rw[if_pos (by decide +kernel)];kernel_rfl) | (rw[if_neg (by decide +kernel)];exact⟨rfl,rfl⟩))
  (fun os started H enc _ F=>JR os started H enc F)
end Go.Proofs.YtkjfpdfkcfgfkaaGreat
