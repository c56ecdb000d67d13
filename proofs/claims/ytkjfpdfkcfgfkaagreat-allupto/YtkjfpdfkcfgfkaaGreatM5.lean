/- Parts of the proof, number 5: contracts of the functions that the statement calls. -/
import Derived.Test.YtkjfpdfkcfgfkaaGreatM4
import Derived.Test.YtkjfpdfkcfgfkaaGreatM0
import Derived.Test.YtkjfpdfkcfgfkaaGreatM3
set_option maxHeartbeats 6400000
namespace Go.Proofs.YtkjfpdfkcfgfkaaGreat
open Go.RowKit
def postOf (zs:List Int) (s:WS) (vars:List Int) (rows:List (List Int)) (way:Int):Int:=
 if bK zs vars rows way=false then 1 else if s.ts.length=12 then 2 else if s.sk.length≠0 then 4 else if s.d.getD 0 0=0 then 3 else 0
theorem gB {w:World} {l:Rest} {sk:List (Nat×List Nat×List TS)} {xs:List Value} (h:mP w l (bY sk) xs):∃so sc,l.starts= .slice so sk.length sc:=by
 obtain⟨so,sc,hf,_⟩:=h.starts.form;exact⟨so,sc,by rw[hf];simp[bY]⟩
set_option maxRecDepth 1000000 in
theorem Xl (X:Nat) (vo ro:Option Addr) (ak au:Nat) (zs:List Int) (s:WS) (vars:List Int) (rows:List (List Int)) (nt:Bool) (way:Int) (w:World) (h:iM w X zs s) (hbz:s.l.busy=false)
  (hl:vars.length*8<=140737488355328) (hrl:rows.length*24<=140737488355328) (nY:vars.length<=ak) (hvs:ax w vo vars) (hrs:dW w ro rows) (hno:postOf zs s vars rows way≠0):
  Calls Tryz.prog 11 #[.pointer (some ⟨X,0,none⟩),.agg #[.slice vo vars.length ak,.slice ro rows.length au,.bool nt,.int .i64 way]] w fun e w'=>e= .returned (.int .i64 (postOf zs s vars rows way))/\Nw w w':=by
 have hd8:s.d.length=8:=h.good.dm.len;obtain⟨sa,scap,mQ,_⟩:=h.mem.sz.form;simp only[List.length_map] at mQ;obtain⟨W,hW⟩:∃W,W=w.alloc (.cells #[.slice vo vars.length ak,.slice ro rows.length au,.bool nt,.int .i64 way] 41):=⟨_,rfl⟩;have dM:Nw w W:=by rw[hW];exact(Fr.refl _ w).alloc _
 have pU:af W w.heap.size #[.slice vo vars.length ak,.slice ro rows.length au,.bool nt,.int .i64 way] 41:=by rw[hW];exact af.new _ _ _
 have t0:W.cell? ⟨w.heap.size,0,none⟩=some (.slice vo vars.length ak):=pU.cell 0
 have t1:W.cell? ⟨w.heap.size,1,none⟩=some (.slice ro rows.length au):=pU.cell 1
 have t2:W.cell? ⟨w.heap.size,2,none⟩=some (.bool nt):=pU.cell 2
 have t3:W.cell? ⟨w.heap.size,3,none⟩=some (.int .i64 way):=pU.cell 3
 have hM:=h.mem.nw dM;have hcs:W.cell? ⟨X,0,none⟩=some (.slice sa zs.length scap):=(hM.blk.cell 0).trans ((iC ..).trans (by rw[mQ]))
 have hcb:W.cell? ⟨X,12,none⟩=some (.bool false):=(hM.blk.cell 12).trans ((bu _ _ _ _ hd8).trans (by rw[hbz]))
 have HsR:Hid (Row W (.slice sa zs.length scap) 3 (zs.map (Value.int .i64))):=by rw[<-mQ];exact hM.sz
 have HM:=hd hM;have zV:=hd (hvs.nw dM);have DZ:=hd (hrs.nw dM);have HW:=hd hW;have KQ:=hd dM;have h12:=h.mem.t12;obtain⟨so',sc',hst⟩:=gB h.mem.tr;have yV:=hd hst;obtain⟨r,hr⟩:∃r,postOf zs s vars rows way=r:=⟨_,rfl⟩;rw[hr] at hno ⊢;have Hr:=hd hr;clear h hM hvs hrs pU hW dM mQ hst hr;go_enter Tryz.func11,Tryz.ntmps11
 go_upto_region 1 with fail
 rw[<-HW.out];go_upto_region 2 with fail
 go_still_tail 5,(by kernel_rfl)
 go_wp2_with fail
 refine(DL vo ro sa ak au scap vars rows nt way zs _ hl hrl nY zV.out.drew DZ.out.drew (HsR.out.drew.oC)).mono ?_
 cases hok:bK zs vars rows way with
 | false=>
  have hr1:r=1:=by rw[<-Hr.out];unfold postOf;rw[if_pos hok]
  subst hr1;rintro e w1 ⟨rfl,hf1⟩
  have Hf1:Hid (Nw w w1):=KQ.out.trans hf1.gW (fun i h=>h.elim)
  clear hf1 hok t0 t1 t2 t3 hcs hcb;go_wp2
  go_ret
  exact⟨rfl,Hf1.out⟩
 | true=>
  rintro e w1 ⟨rfl,hf1⟩
  have hM1:=HM.out.nw hf1.gW;have Hf1:Hid (Nw w w1):=KQ.out.trans hf1.gW (fun i h=>h.elim)
  have hct:w1.cell? ⟨X,9,none⟩=some (.slice s.so s.ts.length s.aI):=(hM1.blk.cell 9).trans (dV _ _ _ _ hd8)
  have hcl:w1.cell? ⟨X,11,none⟩=some (.slice so' s.sk.length sc'):=(hM1.blk.cell 11).trans ((aO _ _ _ _ hd8).trans (by rw[yV.out]))
  have uA:=hd hM1;have hok':¬bK zs vars rows way=false:=by rw[hok];simp
  clear hf1 hM1 t0 t1 t2 t3 hcs hcb HM;by_cases h1:s.ts.length=12
  ·have hr1:r=2:=by rw[<-Hr.out];unfold postOf;rw[if_neg hok',if_pos h1]
   subst hr1;rw[h1] at hct;clear hok hok';go_wp2
   go_ret
   exact⟨rfl,Hf1.out⟩
  ·have h1':((s.ts.length:Int)==12)=false:=by simp;omega
   by_cases h2:s.sk.length≠0
   ·have hr1:r=4:=by rw[<-Hr.out];unfold postOf;rw[if_neg hok',if_neg h1,if_pos h2]
    subst hr1;have h2':((s.sk.length:Int) != 0)=true:=by simp;simpa using h2
    clear hok hok';go_wp2_with (go_at_call 24;refine(iq X so' s.sk.length sc' _ hcl).mono ?_;rintro e w' ⟨rfl,rfl⟩)
    go_ret
    exact⟨rfl,Hf1.out⟩
   ·have h2':((s.sk.length:Int) != 0)=false:=by simp;simpa using h2
    have h3:s.d.getD 0 0=0:=by
     refine Classical.byContradiction fun hc=>hno ?_
     rw[<-Hr.out];unfold postOf;rw[if_neg hok',if_neg h1,if_neg h2,if_neg hc]
    have hr1:r=3:=by rw[<-Hr.out];unfold postOf;rw[if_neg hok',if_neg h1,if_neg h2,if_pos h3]
    subst hr1;have h3':(s.d.getD 0 0==0)=true:=by simpa using h3
    have H3:=hd h3';clear hok hok' h3 h3';go_wp2_with (first
     | (go_at_call 24;refine(iq X so' s.sk.length sc' _ hcl).mono ?_;rintro e w' ⟨rfl,rfl⟩)
     | (go_at_call 25;refine(nD X _ s.d _ s.l _ uA.out.blk hd8).mono ?_;rw[H3.out];rintro e w' ⟨rfl,rfl⟩))
    go_ret
    exact⟨rfl,Hf1.out⟩
theorem IG {zs:List Int} {s:WS} {vars:List Int} {rows:List (List Int)} {way:Int} (h:postOf zs s vars rows way=0):bK zs vars rows way=true/\s.ts.length≠12/\s.sk=[]/\s.d.getD 0 0≠0:=by
 unfold postOf at h;by_cases h1:bK zs vars rows way=false
 ·rw[if_pos h1] at h;omega
 ·rw[if_neg h1] at h;by_cases h2:s.ts.length=12
  ·rw[if_pos h2] at h;omega
  ·rw[if_neg h2] at h;by_cases h3:s.sk.length≠0
   ·rw[if_pos h3] at h;omega
   ·rw[if_neg h3] at h;by_cases h4:s.d.getD 0 0=0
    ·rw[if_pos h4] at h;omega
    ·exact⟨by simpa using h1,h2,by simpa using h3,h4⟩
set_option maxRecDepth 1000000 in
theorem II (X:Nat) (vo ro:Option Addr) (ak au:Nat) (zs:List Int) (s:WS) (vars:List Int) (rows:List (List Int)) (nt:Bool) (way:Int) (w:World) (h:iM w X zs s) (hbz:s.l.busy=false)
  (nY:vars.length<=ak) (hvs:ax w vo vars) (hrs:dW w ro rows) (hyes:postOf zs s vars rows way=0):
  Calls Tryz.prog 11 #[.pointer (some ⟨X,0,none⟩),.agg #[.slice vo vars.length ak,.slice ro rows.length au,.bool nt,.int .i64 way]] w fun e w'=>e= .returned (.int .i64 0)/\∃so aI x d' bv ts us,Closure zs.length (s.bs++[⟨vars,rows,nt⟩]) s.d d'/\Dm d' /\
   iM w' X zs ((s.more so aI x ⟨vars,rows,nt⟩).set d' bv ts us)/\gq w w' X s ((s.more so aI x ⟨vars,rows,nt⟩).set d' bv ts us):=by
 obtain⟨hz0,hzl⟩:=aF h.mem.lJ;have hd8:s.d.length=8:=h.good.dm.len;obtain⟨hok,ae3,hsk,Ua⟩:=IG hyes;have h12:s.ts.length<12:=by have:=h.mem.t12;omega
 have hus:s.us=[]:=by
  have:=h.sk
  rw[hsk] at this;exact this
 obtain⟨qg,hv1,IJ,LH,hvn,hrl⟩:=lM hok hzl;have YI:(⟨vars,rows,nt⟩:Tb).Ok:=⟨LH,hrl,hv1⟩;obtain⟨b,o,hvo,_,_⟩:=hvs 0 hv1;subst hvo;obtain⟨sa,scap,mQ,_⟩:=h.mem.sz.form;simp only[List.length_map] at mQ;obtain⟨v0,v1,v2,v3,v4,v5,v6,v7,hdv⟩:=iV hd8;obtain⟨⟨x0,rfl⟩,⟨x1,rfl⟩,⟨x2,rfl⟩,⟨x3,rfl⟩,⟨x4,rfl⟩,⟨x5,rfl⟩,⟨x6,rfl⟩,⟨x7,rfl⟩⟩:=iO s.d hdv;obtain⟨W,hW⟩:∃W,W=w.alloc (.cells #[.slice (some ⟨b,o,none⟩) vars.length ak,.slice ro rows.length au,.bool nt,.int .i64 way] 41):=⟨_,rfl⟩;have dM:Nw w W:=by rw[hW];exact(Fr.refl _ w).alloc _
 have pU:af W w.heap.size #[.slice (some ⟨b,o,none⟩) vars.length ak,.slice ro rows.length au,.bool nt,.int .i64 way] 41:=by rw[hW];exact af.new _ _ _
 have t0:W.cell? ⟨w.heap.size,0,none⟩=some (.slice (some ⟨b,o,none⟩) vars.length ak):=pU.cell 0
 have t1:W.cell? ⟨w.heap.size,1,none⟩=some (.slice ro rows.length au):=pU.cell 1
 have t2:W.cell? ⟨w.heap.size,2,none⟩=some (.bool nt):=pU.cell 2
 have t3:W.cell? ⟨w.heap.size,3,none⟩=some (.int .i64 way):=pU.cell 3
 have hM:=h.mem.nw dM;have hcs:W.cell? ⟨X,0,none⟩=some (.slice sa zs.length scap):=(hM.blk.cell 0).trans ((iC ..).trans (by rw[mQ]))
 have hcb:W.cell? ⟨X,12,none⟩=some (.bool false):=(hM.blk.cell 12).trans ((bu _ _ _ _ hd8).trans (by rw[hbz]))
 have HsR:Hid (Row W (.slice sa zs.length scap) 3 (zs.map (Value.int .i64))):=by rw[<-mQ];exact hM.sz
 have hXlt:=h.mem.blk.lt;have HM:=hd hM;have HH:=hd h;have zV:=hd (hvs.nw dM);have DZ:=hd (hrs.nw dM);have rM:=hd pU;have HW:=hd hW;have KQ:=hd dM;have Hdv:=hd hdv;have ae4:(s.ts.length:Int)<12:=by omega
 have Ub:((s.ts.length:Int)==12)=false:=by simp;omega
 obtain⟨so',sc',hst⟩:=gB h.mem.tr;rw[hsk] at hst;have Xm:s.l.starts= .slice so' 0 sc':=hst;have yV:=hd Xm;have ZW:=hd hsk;have Hus:=hd hus;have qU:=hd hok;have Hal:Hid ((s.d.getD 0 0==0)=false):=by show (s.d.getD 0 0==0)=false;simpa using Ua
 have Wp:=hd LH;have HTb:=hd YI;have Hrl:=hd hrl;have Hvn:=hd hvn;clear h hM hvs hrs pU hW dM mQ hst Xm hsk hus hok Ua LH YI hrl hvn hdv hyes ae3;go_enter Tryz.func11,Tryz.ntmps11
 go_upto_region 1 with fail
 rw[<-HW.out];go_upto_region 2 with fail
 go_still_tail 5,(by kernel_rfl)
 go_wp2_with fail
 refine(DL (some ⟨b,o,none⟩) ro sa ak au scap vars rows nt way zs _ (by have:=Wp.out.four;omega) (by omega) nY zV.out.drew DZ.out.drew (HsR.out.drew.oC)).mono ?_
 rw[qU.out];rintro e w1 ⟨rfl,hf1⟩
 have dQ:Nw W w1:=hf1.gW;have hM1:=HM.out.nw dQ;have hct:w1.cell? ⟨X,9,none⟩=some (.slice s.so s.ts.length s.aI):=(hM1.blk.cell 9).trans (dV _ _ _ _ hd8)
 have hcl:w1.cell? ⟨X,11,none⟩=some (.slice so' 0 sc'):=(hM1.blk.cell 11).trans ((aO _ _ _ _ hd8).trans (by rw[yV.out]))
 have uA:=hd hM1;have acn:=hd (zV.out.nw dQ);have aco:=hd (DZ.out.nw dQ);have ZX:=hd (rM.out.nw dQ);have hs1:w.heap.size+1<=w1.heap.size:=by have:=ZX.out.lt;omega
 have Hf1:Hid (Nw w w1):=KQ.out.trans dQ (fun i h=>h.elim)
 clear hf1 dQ hM1 HM zV DZ rM t0 t1 t2 t3 hcs hcb KQ HW HsR;go_upto_region 12 with (first
  | (go_at_call 24;refine(iq X so' 0 sc' _ hcl).mono ?_;rintro e w' ⟨rfl,rfl⟩)
  | (go_at_call 25;refine(nD X _ s.d _ s.l _ uA.out.blk hd8).mono ?_;rw[Hal.out];rintro e w' ⟨rfl,rfl⟩))
 obtain⟨V,hV⟩:∃V,V=w'.alloc (.cells (jq fG) 71):=⟨_,rfl⟩;have fA:Nw w' V:=by rw[hV];exact(Fr.refl _ w').alloc _
 have Dl:af V w'.heap.size (jq fG) 71:=by rw[hV];exact af.new _ _ _
 rw[show w'.alloc (Obj.cells #[Value.bool false,Value.bool false,Value.bool false,Value.bool false,Value.bool false,Value.bool false,Value.bool false,Value.bool false,Value.bool false,Value.bool false,Value.bool false,Value.bool false] 71)=V from hV.symm]
 clear hV hct hcl;have hct:V.cell? ⟨X,9,none⟩=some (.slice s.so s.ts.length s.aI):=((uA.out.nw fA).blk.cell 9).trans (dV _ _ _ _ hd8)
 have hcM:V.cell? ⟨w'.heap.size,s.ts.length,none⟩=some (.bool (fG.getD s.ts.length false)):=(Dl.cell _).trans (Bl _ _ (by show s.ts.length<12;exact h12))
 have hfM:=Dl.free s.ts.length;have P6:=hd Dl;clear Dl;go_upto_region 13 with fail
 obtain⟨U,hU⟩:∃U,U=V.setCell ⟨w'.heap.size,s.ts.length,none⟩ (.bool true):=⟨_,rfl⟩;have iR:Nw w' U:=by rw[hU];exact fA.setCell _ _ (.inr (Nat.le_refl _))
 have Dl:af U w'.heap.size (jq (fG.set s.ts.length true)) 71:=by
  have h5:=P6.out.set s.ts.length (.bool true);have e6:jq (fG.set s.ts.length true)=(jq fG).setIfInBounds s.ts.length (.bool true):=by simp[jq,List.map_set]
  rw[hU,e6];exact h5
 rw[<-hU];have Gt:=Dl.lt;clear hU hct hcM hfM P6 fA;have Xh:=uA.out.nw iR;have FB:=Xh.blk;have Rl:=ZX.out.nw iR;have TK:Hid (Nw w U):=Hf1.out.trans iR (fun i h=>h.elim)
 have HvU:=hd (acn.out.nw iR);have HrU:=hd (aco.out.nw iR);have HMU:=hd Xh;have P6:=hd Dl;obtain⟨xs,hxs⟩:∃xs,s.ts.map Tab.val=xs:=⟨_,rfl⟩;have hxl:s.ts.length=xs.length:=by rw[<-hxs];simp
 have hrU:Row U (.slice s.so xs.length s.aI) 73 xs:=by
  have:=Xh.tabs.row
  rw[hxs,hxl] at this;exact this
 have HrT:=hd hrU;have Hxs:=hd hxs;have ZY:=hd hxl;rw[hxl] at FB;rw[hxl] at h12 ae4;clear Dl acn aco ZX Hf1 iR Xh uA hrU hxs hxl Ub;obtain⟨az,mQ⟩:∃az,s.az=az:=⟨_,rfl⟩;have hK0:af U.drew X (ah s.az s.d (.slice s.so xs.length s.aI) s.l) 66/\af U.drew w.heap.size #[.slice (some ⟨b,o,none⟩) vars.length ak,.slice ro rows.length au,.bool nt,.int .i64 way] 41:=⟨FB.drew,Rl.drew⟩;refine vY (S:=fun w''=>af w'' X (ah s.az s.d (.slice s.so xs.length s.aI) s.l) 66/\af w'' w.heap.size #[.slice (some ⟨b,o,none⟩) vars.length ak,.slice ro rows.length au,.bool nt,.int .i64 way] 41) 15 (by kernel_rfl) ?_
 refine bH (i:=0) (v:=.pointer (some ⟨X,0,none⟩)) (by kernel_rfl) rfl (by kernel_rfl) (by kernel_rfl) (by kernel_rfl) (fun _ _ _ h=>h) (.inl ⟨by kernel_rfl,fun w'' hS=>by kernel_rfl⟩) hK0 ?_
 refine bH (i:=1) (v:=.pointer (some ⟨X,0,none⟩)) (by kernel_rfl) rfl (by kernel_rfl) (by kernel_rfl) (by kernel_rfl) (fun _ _ _ h=>h) (.inl ⟨by kernel_rfl,fun w'' hS=>by kernel_rfl⟩) hK0 ?_
 refine bH (i:=2) (v:=.pointer (some ⟨X,0,none⟩)) (by kernel_rfl) rfl (by kernel_rfl) (by kernel_rfl) (by kernel_rfl) (fun _ _ _ h=>h) (.inl ⟨by kernel_rfl,fun w'' hS=>by kernel_rfl⟩) hK0 ?_
 refine bH (i:=3) (v:=.pointer (some ⟨X,9,none⟩)) (by kernel_rfl) rfl (by kernel_rfl) (by kernel_rfl) (by kernel_rfl) (fun _ _ _ h=>h) (.inl ⟨by kernel_rfl,fun w'' hS=>by kernel_rfl⟩) hK0 ?_
 refine bH (i:=4) (v:=.slice s.so xs.length s.aI) (by kernel_rfl) rfl (by kernel_rfl) (by kernel_rfl) (by kernel_rfl) (fun _ _ _ h=>h) (.inl ⟨by kernel_rfl,fun w'' hS=>?_⟩) hK0 ?_
 ·have hc:=(hS.1.cell 9).trans (dV _ _ _ _ hd8);clear hS hK0 FB Rl mQ;simp only[Act.put,bQ,bW,bU,eH,eY,fC];go_simp
 refine bH (i:=5) (v:=.agg #[.slice (some ⟨b,o,none⟩) vars.length ak,.slice ro rows.length au,.bool nt,.int .i64 way]) (by kernel_rfl) rfl (by kernel_rfl) (by kernel_rfl) (by kernel_rfl) (fun _ _ _ h=>h) (.inl ⟨by kernel_rfl,fun w'' hS=>?_⟩) hK0 ?_
 ·have q0:w''.cell? ⟨w.heap.size,0,none⟩=some (.slice (some ⟨b,o,none⟩) vars.length ak):=hS.2.cell 0
  have q1:w''.cell? ⟨w.heap.size,1,none⟩=some (.slice ro rows.length au):=hS.2.cell 1
  have q2:w''.cell? ⟨w.heap.size,2,none⟩=some (.bool nt):=hS.2.cell 2
  have q3:w''.cell? ⟨w.heap.size,3,none⟩=some (.int .i64 way):=hS.2.cell 3
  clear hS hK0 FB Rl mQ;simp only[Act.put,bQ,bW,bU,eH,eY,fC];go_simp
 refine bH (i:=6) (v:=.pointer (some ⟨X,0,none⟩)) (by kernel_rfl) rfl (by kernel_rfl) (by kernel_rfl) (by kernel_rfl) (fun _ _ _ h=>h) (.inl ⟨by kernel_rfl,fun w'' hS=>by kernel_rfl⟩) hK0 ?_
 refine bH (i:=7) (v:=.pointer (some ⟨X,0,none⟩)) (by kernel_rfl) rfl (by kernel_rfl) (by kernel_rfl) (by kernel_rfl) (fun _ _ _ h=>h) (.inl ⟨by kernel_rfl,fun w'' hS=>by kernel_rfl⟩) hK0 ?_
 refine bH (i:=8) (v:=.pointer (some ⟨X,1,none⟩)) (by kernel_rfl) rfl (by kernel_rfl) (by kernel_rfl) (by kernel_rfl) (fun _ _ _ h=>h) (.inl ⟨by kernel_rfl,fun w'' hS=>by kernel_rfl⟩) hK0 ?_
 refine bH (i:=9) (v:=.agg (ay s.d)) (by kernel_rfl) rfl (by kernel_rfl) (by kernel_rfl) (by kernel_rfl) (fun _ _ _ h=>h) (.inl ⟨by kernel_rfl,fun w'' hS=>?_⟩) hK0 ?_
 ·obtain⟨k0,k1,k2,k3,k4,k5,k6,k7⟩:=vX hS.1 Hdv.out;clear hS hK0 FB Rl mQ;rw[Hdv.out];simp only[Act.put,bQ,bW,bU,eH,eY,fC];go_simp
 refine fF (i:=10) (by kernel_rfl) ?_
 refine dF (f:=26) (args:=#[.agg #[.slice (some ⟨b,o,none⟩) vars.length ak,.slice ro rows.length au,.bool nt,.int .i64 way],.agg (ay s.d)]) (w':=U.drew) rfl (by kernel_rfl) (by kernel_rfl) ?_
 refine(PD b o ro ak au vars rows nt way qg s.d _ hd8 hv1 Wp.out.four Wp.out.ok HH.out.good.dm.lt IJ Hrl.out HvU.out.drew HrU.out.drew).mono ?_
 rintro e w2 ⟨G,g,cap,t,rfl,hf2,Uc,hT2,hnew⟩
 have nX:Nw U w2:=hf2.gW;obtain⟨ty,hty⟩:∃ty,t.ty=ty:=⟨_,rfl⟩;rw[hty];refine⟨_,rfl,fun _=>⟨FB.nw nX,Rl.nw nX⟩,?_⟩
 refine fF (i:=11) (by kernel_rfl) ?_
 refine aA (v:=.slice (some ⟨w2.heap.size,0,none⟩) 1 1) (w':=w2.alloc (.cells #[.iface ty (.pointer (some ⟨G,0,none⟩))] 73)) rfl (by kernel_rfl) ?_ ⟨fun _=>⟨(FB.nw nX).alloc _,(Rl.nw nX).alloc _⟩,?_⟩
 ·kernel_rfl
 obtain⟨i0,hi0,hz0',hz1,hz2⟩:=info_parts Tryz.Ec;obtain⟨v',w3,hr,hown,hgrow,_,hat⟩:=run_append_own_at (P:=Tryz.prog) (w2.alloc (.cells #[.iface ty (.pointer (some ⟨G,0,none⟩))] 73)) 0 61 61 73 i0 .nilIface 1 16 Tryz.underlying61 hi0 hz0' hz1 hz2 rfl (by decide) (.slice s.so xs.length s.aI) xs.length xs (Row.alloc (HrT.out.nw nX) _) ⟨w2.heap.size,0,none⟩ 1 1 [.iface ty (.pointer (some ⟨G,0,none⟩))] rfl (cell_one_new _ _ _) (by simp[Value.oneCell']) (by unfold maxLen;omega) (by omega) (Nat.zero_le _)
 obtain⟨tb,aI,rfl,hr3,hf3,AA,hlt3⟩:=app1 hown hgrow hat;clear hown hgrow hat;have o3:Only w2 (fun k=>(Value.slice s.so xs.length s.aI).ownBlock=some k) [73]:=Only.row (HrT.out.nw nX)
 have rO:=(FB.nw nX).jr hf3 o3 (by decide)
 have NS:=(Rl.nw nX).jr hf3 o3 (by decide)
 refine fF (i:=12) (by kernel_rfl) ?_
 refine aA (v:=.slice (some ⟨tb,0,none⟩) (xs.length+1) aI) (w':=w3) rfl (by kernel_rfl) ?_ ⟨fun _=>⟨rO,NS⟩,?_⟩
 ·simp only[Act.put,bQ,bW,bU,eH,eY,fC];unfold execOp;simp only[resolve,invoke,builtin,Sem.run_bind,Sem.run_pure,Result.andThen_ok,List.map_toArray,List.map_cons,List.map_nil,Act.eval];erw [hr]
  rfl
 refine fF (i:=13) (by kernel_rfl) ?_
 refine aA (v:=.pointer (some ⟨X,0,none⟩)) (w':=w3) rfl (by kernel_rfl) (by kernel_rfl) ⟨fun _=>⟨rO,NS⟩,?_⟩
 refine fF (i:=14) (by kernel_rfl) ?_
 refine aA (v:=.pointer (some ⟨X,9,none⟩)) (w':=w3) rfl (by kernel_rfl) (by kernel_rfl) ⟨fun _=>⟨rO,NS⟩,?_⟩
 refine fF (i:=15) (by kernel_rfl) ?_
 have hc9:=(rO.cell 9).trans (dV _ _ _ _ hd8);have hf9:=rO.free 9;refine dw (w':=w3.setCell ⟨X,9,none⟩ (.slice (some ⟨tb,0,none⟩) (xs.length+1) aI)) rfl (by kernel_rfl) ?_ ⟨fun h=>absurd rfl h,pg (by kernel_rfl) ?_ _⟩
 ·clear hK0 FB Rl rO NS hf3 hr hr3 hf2 nX hT2 Uc hnew o3 mQ AA;simp only[Act.put,bQ,bW,bU,eH,eY,fC];go_simp
 simp only[Act.put,bQ,bW,bU,eH,eY,fC];obtain⟨Z,hZ⟩:∃Z,Z=w3.setCell ⟨X,9,none⟩ (.slice (some ⟨tb,0,none⟩) (xs.length+1) aI):=⟨_,rfl⟩;have qm:Fr (fun k=>k=X) w3 Z:=by rw[hZ];exact(Fr.refl _ w3).setCell _ _ (.inl rfl)
 have hXZ:af Z X (ah s.az s.d (.slice (some ⟨tb,0,none⟩) (xs.length+1) aI) s.l) 66:=by
  rw[hZ,<-wQ _ _ _ _ _ hd8];exact rO.set 9 _
 rw[<-hZ];clear hZ;have oX:Only w3 (fun k=>k=X) [66]:=Only.one rO
 have hTZ:=(hT2.jr hf3 o3 (by decide)).jr qm oX (by decide)
 have hrZ:=hr3.jr qm oX (by decide)
 have hUZ:Fr (fun k=>k=X\/(Value.slice s.so xs.length s.aI).ownBlock=some k) U Z:=((nX.mono (S':=fun k=>k=X\/(Value.slice s.so xs.length s.aI).ownBlock=some k) (fun i h=>h.elim)).trans hf3 (fun i h=>.inl (.inr h))).trans qm (fun i h=>.inl (.inl h))
 have G6:Fr (fun k=>k=X\/(Value.slice s.so xs.length s.aI).ownBlock=some k) w Z:=(TK.out.mono (fun i h=>h.elim)).trans hUZ (fun i h=>.inl h)
 have hrw:Row w (.slice s.so xs.length s.aI) 73 xs:=by
  have:=HH.out.mem.tabs.row
  rw[Hxs.out,ZY.out] at this;exact this
 have oZ:Only w (fun k=>k=X\/(Value.slice s.so xs.length s.aI).ownBlock=some k) [66,73]:=(Only.one HH.out.mem.blk).or (Only.row hrw)
 have hGn:w.heap.size<=G:=by
  have h1:U.heap.size<=G:=hnew G (.inl rfl);have:=TK.out.size
  omega
 have hgn:w.heap.size<=g:=by
  have h1:U.heap.size<=g:=hnew g (.inr (.inl rfl));have:=TK.out.size
  omega
 have hMZ:=jB.more (x:=⟨G,g,cap,vars,t⟩) (b:=⟨vars,rows,nt⟩) HH.out.mem Hus.out G6 oZ (by rw[ZY.out];exact hXZ) (by rw[ZY.out,Hxs.out];show Row Z _ _ (xs++[Value.iface t.ty _]);rw[hty];exact hrZ) hTZ hGn hgn (by rw[ZY.out];exact h12) rfl HTb.out Hvn.out
 have hSt:gq w Z X s (s.more (some ⟨tb,0,none⟩) aI ⟨G,g,cap,vars,t⟩ ⟨vars,rows,nt⟩):=gq.more G6 (fun k hk=>hk.elim (fun e=>.inl e) (fun e=>.inr (.inr (.inl (by rw[ZY.out];exact e))))) (fun k hk=>by
  rw[ZY.out];have e:tb=k:=by cases hk;rfl
  subst e;rcases AA with h1 | h1
  ·exact .inl h1
  ·have:=TK.out.size
   have:=nX.size
   exact .inr (by omega)) hGn hgn
 have hSI:=HH.out.good.more (so:=some ⟨tb,0,none⟩) (aI:=aI) (x:=⟨G,g,cap,vars,t⟩) (b:=⟨vars,rows,nt⟩) HH.out.mem.fits (by rw[ZY.out];exact h12) (Tq HTb.out HH.out.good.dm Uc)
 have uY:=P6.out.jr hUZ ((Only.one FB).or (Only.row HrT.out)) (by decide)
 have Hmc:Hid (jq (fG.set s.ts.length true)=jq (fG.set s.ts.length true)):=rfl;obtain⟨mk,hmk⟩:∃mk,fG.set s.ts.length true=mk:=⟨_,rfl⟩;have hml:mk.length=12:=by rw[<-hmk];simp[fG]
 obtain⟨b0,b1,b2,b3,b4,b5,b6,b7,b8,b9,b10,b11,hmb⟩:=TV hml;have hmv:jq mk=#[.bool b0,.bool b1,.bool b2,.bool b3,.bool b4,.bool b5,.bool b6,.bool b7,.bool b8,.bool b9,.bool b10,.bool b11]:=by rw[hmb];rfl
 rw[hmk] at hSI uY;have hoff:∀k,s.ts.length+1<=k->mk.getD k false=false:=fun k hk=>by
  rw[<-hmk,pK,if_neg (fun e=>by omega)]
  exact zu k
 have hmc:marksOf mk<=12:=by have:=Bj mk;omega
 have hbm:=wX s.d;obtain⟨c0,c1,c2,c3,c4,c5,c6,c7⟩:=vX hXZ Hdv.out;rw[hmv] at uY;have r0:Z.cell? ⟨w'.heap.size,0,none⟩=some (.bool b0):=uY.cell 0
 have r1:Z.cell? ⟨w'.heap.size,1,none⟩=some (.bool b1):=uY.cell 1
 have r2:Z.cell? ⟨w'.heap.size,2,none⟩=some (.bool b2):=uY.cell 2
 have r3:Z.cell? ⟨w'.heap.size,3,none⟩=some (.bool b3):=uY.cell 3
 have r4:Z.cell? ⟨w'.heap.size,4,none⟩=some (.bool b4):=uY.cell 4
 have r5:Z.cell? ⟨w'.heap.size,5,none⟩=some (.bool b5):=uY.cell 5
 have r6:Z.cell? ⟨w'.heap.size,6,none⟩=some (.bool b6):=uY.cell 6
 have r7:Z.cell? ⟨w'.heap.size,7,none⟩=some (.bool b7):=uY.cell 7
 have r8:Z.cell? ⟨w'.heap.size,8,none⟩=some (.bool b8):=uY.cell 8
 have r9:Z.cell? ⟨w'.heap.size,9,none⟩=some (.bool b9):=uY.cell 9
 have r10:Z.cell? ⟨w'.heap.size,10,none⟩=some (.bool b10):=uY.cell 10
 have r11:Z.cell? ⟨w'.heap.size,11,none⟩=some (.bool b11):=uY.cell 11
 have HMZ:=hd hMZ;have Ud:=hd hSt;have HSI:=hd hSI;have Dp:=hd hoff;have C9:=hd hmv;have hlen1:(s.more (some ⟨tb,0,none⟩) aI ⟨G,g,cap,vars,t⟩ ⟨vars,rows,nt⟩).ts.length=s.ts.length+1:=by simp[WS.more]
 have acp:=hd hlen1;clear hMZ hSt hSI hoff hmv hmb hmk Hmc uY hXZ rO NS hc9 hf9 hr hr3 hf3 AA hlt3 hf2 nX Uc hT2 hnew hK0 FB Rl o3 oX oZ hTZ hrZ hUZ G6 hrw qm hGn hgn HvU HrU HMU P6 HrT hty mQ hlen1;simp only[Exit.then]
 go_upto_region 14 with fail
 go_still_tail 6,(by kernel_rfl)
 go_wp2_with fail
 rw[<-Hdv.out,<-C9.out];have zq:=HMZ.out.nw ((Fr.refl _ Z).drew);refine(Bz ((s.more (some ⟨tb,0,none⟩) aI ⟨G,g,cap,vars,t⟩ ⟨vars,rows,nt⟩).ctx X zs s.d) s.d mk _ zq.blk zq.sz hz0 hzl hd8 HH.out.good.dm.mem zq.tabs zq.inj zq.t12 hml (fun k hk=>Dp.out k (by rw[<-acp.out];exact hk)) zq.tr (by show (s.us.map Un.val).length+_<=900000;rw[Hus.out];simp;omega) HSI.out zq.yI zq.fits).mono ?_
 rintro e w4 ⟨rfl,d',bv,ts,us,hset⟩
 obtain⟨hA,hB⟩:=zq.settled (by show lI zs _ s.us _ s.sk;rw[ZW.out,Hus.out];rfl) HH.out.good.wW HH.out.good.dm (dN.refl _) (by show s.us.length+900*bitsOf s.d<=_;rw[Hus.out];simp;omega) (by omega) (fun _ hc=>absurd ZW.out hc) (by show s.sk.length<=20;rw[ZW.out];simp) hset
 have hB':gq Z w4 X (s.more (some ⟨tb,0,none⟩) aI ⟨G,g,cap,vars,t⟩ ⟨vars,rows,nt⟩) _:=⟨hB.fr.gW,hB.grow⟩;have HA:=hd hA;have HB:=hd (Ud.out.trans hB');have ae5:=hd hset.clo;have Hdm:=hd hset.dm;clear hset hA hB hB' zq c0 c1 c2 c3 c4 c5 c6 c7 r0 r1 r2 r3 r4 r5 r6 r7 r8 r9 r10 r11;go_wp2_with fail
 go_ret
 exact⟨rfl,_,_,_,d',bv,ts,us,ae5.out,Hdm.out,HA.out,HB.out⟩
end Go.Proofs.YtkjfpdfkcfgfkaaGreat
namespace Go.Proofs.YtkjfpdfkcfgfkaaGreat
open Go.RowKit Go.Shelf
attribute [local go_sem] Oper.semAt_some
def BRd (Bx:Nat) (ao:Option Addr) (cap:Nat) (xs:List Value) (W:World):Prop:=W.cell? ⟨Bx,0,none⟩=some (.slice ao xs.length cap)/\∀i,i<xs.length->∃b o,ao=some ⟨b,o,none⟩/\W.cell? ⟨b,o+i,none⟩=some (xs.getD i undef)
theorem Ue (n l Bx:Nat) (ao:Option Addr) (cap:Nat) (xs:List Value) (hxl:xs.length<=1000000) (J:Nat->World->Prop) (W:World) (h0:J xs.length W) (hR:∀i W,J i W->BRd Bx ao cap xs W)
  (hY:∀(i:Nat) (W1:World),i<xs.length->J (i+1) W1->YieldAt Fence.wide (n-1) Tryz.prog l #[.int .i64 (i:Int),xs.getD i undef] W1 fun e W'=>e= .returned (.bool true)/\J i W'):
  CallsIn Fence.wide n Tryz.prog 99 #[.func (.yield l) #[] #[],.pointer (some ⟨Bx,0,none⟩)] W fun e W'=>(∃v,e= .returned v)/\J 0 W':=by
 refine callsIn_of_wp Tryz.func99 rfl trivial ?_ rfl
 simp only[Tryz.ntmps99,List.size_toArray,List.length_cons,List.length_nil,Nat.reduceAdd,Nat.reduceSub,Array.replicate_succ,Array.replicate_zero,List.push_toArray,List.append_toArray,List.nil_append,List.cons_append];have hc0:=(hR _ _ h0).1;gi_wp2
 gi_loopw [3] (fun p wr=>∃i:Nat,i<=xs.length/\p= .int .i64 ((i:Int)-1)/\J i wr) (fun p _=>(intOf p+1).toNat)
 case atStart=>exact⟨xs.length,Nat.le_refl _,by go_num,h0⟩
 case round=>
  obtain⟨i,hi,rfl,hJ⟩:=hrel;clear hc0;cases i with
  | zero=>
   gi_wp2
   go_end0
   exact⟨⟨_,rfl⟩,hJ⟩
  | succ i=>
   obtain⟨hc,hx⟩:=hR _ _ hJ;obtain⟨b,o,hao,hcx⟩:=hx i (by omega)
   subst hao;obtain⟨fn,tmps,assign,body,hy,hRd⟩:=hY i wr (by omega) hJ
   obtain⟨v,hv⟩:∃v,xs.getD i undef=v:=⟨_,rfl⟩;rw[hv] at hcx hy;have e1:((i+1:Nat):Int)-1=(i:Int):=by omega
   rw[e1];have hil:(i:Int)<xs.length:=by omega
   have hi0:(0:Int)<=i:=by omega
   clear hx;gi_wp2_with fail
   refine⟨(fun h=>by cases h),?_⟩
   refine hRd.mono ?_
   rintro e W3 ⟨rfl,hJ3⟩
   gi_wp2
   exact⟨⟨i,by omega,by go_num,hJ3⟩,by simp[intOf]⟩
theorem Uf {n Bx:Nat} {ao:Option Addr} {cap:Nat} {xs:List Value} (hxl:xs.length<=1000000) {g:Operand} {t0 t d:Tmp} {Ym:Nat} {ty:TypeId} {pos:String} {body:Code} {Q:Exit->Act->World->Prop} {a:Act} {w:World}
  (hg:a.eval g= .func (.func 99) #[] #[.pointer (some ⟨Bx,0,none⟩)]) (ht:t<a.tmps.size) (I:Nat->World->Prop) (hI:∀i A B,I i A->Bk w.heap.size A B->I i B) (hR:∀i W,I i W->BRd Bx ao cap xs W) (h0:I xs.length w)
  (pY:∀(l:Nat) (i:Nat) (W:World),i<xs.length->I (i+1) W ->
   body.wpIn (Fence.wide.inRound l) (n-1-1) Tryz.prog (Gz (I i) W) {tmps:=((a.tmps.setIfInBounds t0 (.int .i64 (i:Int))).setIfInBounds t (xs.getD i undef)).setIfInBounds d (xs.getD i undef),defers:=[]} W)
  (hdone:∀(D:Nat) (W:World),w.heap.size<=D->I 0 W->W.heap[D]? = some (.deferred (some []))->Q .normal {a with defers:=mark D::a.defers} W):
  (Code.rangeFunc g #[t0,t] (Code.region Ym #[{dst:=some d,op:=.assign (.tmp t),type:=ty,pos:=pos,after:=#[],guard:=none}] false) body).wpIn Fence.wide n Tryz.prog Q a w:=by
 generalize hA:Code.region Ym #[{dst:=some d,op:=Op.assign (.tmp t),type:=ty,pos:=pos,after:=#[],guard:=none}] false=assign
 have hassign:∀(l:Nat) (i:Nat) (v:Value) (W:World) (K:Act->World->Prop),K {tmps:=((a.tmps.setIfInBounds t0 (.int .i64 (i:Int))).setIfInBounds t v).setIfInBounds d v,defers:=[]} W ->
   assign.wpIn (Fence.wide.inRound l) (n-1-1) Tryz.prog (Exit.then K (fun _ _ _=>False)) {tmps:=(a.tmps.setIfInBounds t0 (.int .i64 (i:Int))).setIfInBounds t v,defers:=[]} W:=by
  intro l i v W K hK;subst hA;have hget:((a.tmps.setIfInBounds t0 (.int .i64 (i:Int))).setIfInBounds t v).getD t undef=v:=by
   simp[ht]
  gi_wp2
  exact hK
 refine wpIn_rangeFunc ?_
 intro fn hfn;obtain⟨rec,hrec⟩:∃rec:LoopState->Option Code->Loop,rec=fun st pe=>{state:=st,pending:=pe,fn,tmps:=a.tmps,params:=#[t0,t],assign,body,defers:=w.heap.size}:=⟨_,rfl⟩
 obtain⟨W1,hW1⟩:∃W1,(w.alloc (.deferred (some []))).alloc (.loop (rec .ready none))=W1:=⟨_,rfl⟩;have hL1:W1.heap[w.heap.size+1]? = some (.loop (rec .ready none)):=by
  rw[<-hW1];have:=heap_alloc_new (w.alloc (.deferred (some []))) (.loop (rec .ready none))
  simpa using this
 have hK1:W1.heap[w.heap.size]? = some (.deferred (some [])):=by
  rw[<-hW1];exact(Below.heap_alloc _ _ _ (by simp)).trans (heap_alloc_new w _)
 have hI1:I xs.length W1:=by rw[<-hW1];exact hI _ _ _ (hI _ _ _ h0 (Bk.alloc _ _ _)) (Bk.alloc _ _ _)
 refine⟨w.heap.size+1,[mark w.heap.size],W1,{target:=.fn (.func 99) #[.pointer (some ⟨Bx,0,none⟩)],args:=#[.func (.yield (w.heap.size+1)) #[] #[]]},W1,99,
  #[.func (.yield (w.heap.size+1)) #[] #[],.pointer (some ⟨Bx,0,none⟩)],W1,?_,?_,?_,?_,(fun h=>by cases h),?_⟩
 ·rw[<-hW1,hrec];exact run_enterLoop_outer _ _ _ _ _
 ·simp only[resolve,hg];simp[go_sem]
 ·intro f' _;trivial
 ·simp[invoke,go_sem]
 ·refine(Ue (n-1) (w.heap.size+1) Bx ao cap xs hxl
   (fun i W=>I i W/\W.heap[w.heap.size+1]? = some (.loop (rec .ready none))/\W.heap[w.heap.size]? = some (.deferred (some []))) W1 ⟨hI1,hL1,hK1⟩ (fun i W h=>hR i W h.1) ?_).mono ?_
  ·rintro i W hpre ⟨hi,hl,hk⟩
   have hlt:w.heap.size+1<W.heap.size:=(Array.getElem?_eq_some_iff.1 hl).1
   have hy:=run_yield (P:=Tryz.prog) (args:=#[.int .i64 (i:Int),xs.getD i undef]) hl (by rw[hrec];rfl)
   rw[hrec] at hy;dsimp only at hy
   have hfold:((#[t0,t]:Array Tmp).zip #[Value.int .i64 (i:Int),xs.getD i undef]).foldl (fun tmps (x:Tmp×Value)=>match x with | (t,a)=>tmps.setIfInBounds t a) a.tmps=(a.tmps.setIfInBounds t0 (.int .i64 (i:Int))).setIfInBounds t (xs.getD i undef):=by simp
   rw[hfold] at hy;have hl2:(W.putObj (w.heap.size+1) (.loop {rec .ready none with state:=.busy})).heap[w.heap.size+1]? = some (.loop {rec .ready none with state:=.busy}):=World.putObj_heap_same hlt
   have hk2:(W.putObj (w.heap.size+1) (.loop {rec .ready none with state:=.busy})).heap[w.heap.size]? = some (.deferred (some [])):=(World.putObj_heap_other (by omega)).trans hk
   have hbody:=pY (w.heap.size+1) i _ hpre (hI _ _ _ hi (Bk.put (.loop {rec .ready none with state:=.busy}) (by omega) hl rfl))
   refine⟨fn,_,assign,body,hy,roundIn_of_wpIn hfn ?_⟩
   refine hassign _ i _ W _ ?_
   refine⟨_,run_beginRound hl (by rw[hrec]),?_⟩
   refine wpIn_mono hbody ?_
   rintro e a3 W3 hp
   cases e with
   | normal=>
    obtain⟨hk3,hi3⟩:=hp;have hl3:=hk3.same _ _ hl2 rfl;have hend:=run_endRound (P:=Tryz.prog) none hl3;refine⟨_,_,hend,rfl,hI _ _ _ hi3 (Bk.put _ (by omega) hl3 rfl),?_,(World.putObj_heap_other (by omega)).trans (hk3.same _ _ hk2 rfl)⟩
    rw[World.putObj_heap_same (Array.getElem?_eq_some_iff.1 hl3).1,hrec]
    rfl
   | ret=>exact hp.elim
   | exit id=>exact hp.elim
   | goto t=>exact hp.elim
   | panic ch=>exact hp.elim
   | outgrown=>exact hp.elim
  ·rintro e W2 ⟨⟨v,rfl⟩,hi,hl,hk⟩
   refine⟨none,_,?_,hdone w.heap.size _ (Nat.le_refl _) (hI _ _ _ hi (Bk.put (.loop {rec .ready none with state:=.exhausted}) (by omega) hl rfl)) ((World.putObj_heap_other (by omega)).trans hk)⟩
   have:=run_endLoop (P:=Tryz.prog) hl (by rw[hrec];simp)
   rw[hrec] at this ⊢;exact this
theorem FH (ao:Option Addr) (n cap:Nat) (w:World):
  Calls Tryz.prog 96 #[.slice ao n cap] w fun e w'=>e= .returned (.func (.func 99) #[] #[.pointer (some ⟨w.heap.size,0,none⟩)])/\w'=w.alloc (.cells #[.slice ao n cap] 62):=by
 have hmf:∀(fn:Fn) (first cap:Array Value) (w:World),(Instr.makeFunc fn first cap).run Tryz.prog w= .ok (.func fn first cap) w:=fun _ _ _ _=>rfl
 go_enter Tryz.func96,Tryz.ntmps96
 go_wp2
 go_ret
 exact⟨rfl,rfl⟩
end Go.Proofs.YtkjfpdfkcfgfkaaGreat
namespace Go.Proofs.YtkjfpdfkcfgfkaaGreat
open Go.RowKit
theorem Row.take {w:World} {ao:Option Addr} {m cap:Nat} {e:TypeId} {xs:List Value} (h:Row w (.slice ao m cap) e xs) (n:Nat) (hn:n<=xs.length):Row w (.slice ao n cap) e (xs.take n):=by
 have hl:(xs.take n).length=n:=by simp;omega
 refine⟨by rw[hl];simp,?_⟩
 rcases h.2 with ⟨he,h0⟩ | ⟨g,cap',cur,he,hb,hg,hc,hm,hs,ht⟩
 ·have hn0:n=0:=by omega
  subst hn0;have e2:(Value.slice ao 0 cap)= .slice none 0 0:=by
   injection he with e1 e2 e3
   rw[e1,e3]
  exact .inl ⟨by rw[e2],by simp⟩
 ·injection he with e1 e2 e3
  subst e1 e3;refine .inr ⟨g,cap,cur,by rw[hl],hb,hg,by rw[hl];omega,hm,hs,?_⟩
  rw[hl,<-ht,List.take_take];congr 1
  omega
theorem Row.FI {w:World} {ao:Option Addr} {m cap:Nat} {e:TypeId} {xs:List Value} (h:Row w (.slice ao m cap) e xs) (n:Nat):sliced ao 0 n cap 1= .slice ao n cap:=by
 unfold sliced;rcases h.2 with ⟨he,h0⟩ | ⟨g,cap',cur,he,_⟩
 ·injection he with e1 e2 e3
  subst e1 e3;simp
 ·injection he with e1 e2 e3
  subst e1;split
  ·simp
  ·simp[Addr.add]
theorem Row.tail {w:World} {ao:Option Addr} {m cap:Nat} {e:TypeId} {xs:List Value} (h:Row w (.slice ao m cap) e xs) (n:Nat) (hn:n<=xs.length):∃ao',sliced ao n m cap 1= .slice ao' (xs.drop n).length (cap-n)/\((∃g,ao=some ⟨g,0,none⟩/\n<xs.length/\ao'=some ⟨g,n,none⟩)\/n=xs.length):=by
 have hm:m=xs.length:=by
  rcases h.2 with ⟨he,h0⟩ | ⟨g,cap',cur,he,_⟩
  ·injection he with e1 e2 e3
   omega
  ·injection he with e1 e2 e3
 subst hm;unfold sliced;by_cases e1:n=xs.length
 ·exact⟨if cap=n then ao else Option.map (fun x=>x.add (n*1)) ao,by simp,.inr e1⟩
 ·have hlt:n<xs.length:=by omega
  rcases h.2 with ⟨he,h0⟩ | ⟨g,cap',cur,he,_,_,hc,_⟩
  ·omega
  ·injection he with e2 e3 e4
   subst e2 e4;have hne:¬cap=n:=by omega
   refine⟨some ⟨g,n,none⟩,?_,.inl ⟨g,rfl,hlt,rfl⟩⟩
   rw[if_neg hne];simp[Addr.add]
   exact fun h=>h.symm
theorem Fr.setRow {S:Nat->Prop} {a b:World} (h:Fr S a b) (g:Nat) (c:Array Value) (hg:S g\/a.heap.size<=g):Fr S a (b.setRow g c):=
 ⟨h.os,h.tape,h.output,by rw[setRow_size];exact h.size,fun k hk hn=>(setRow_other _ _ _ _ (fun e=>by subst e;exact hg.elim hn (fun h'=>by omega))).trans (h.block k hk hn)⟩
theorem Tryz.Ug (w:World):(zeroValue 1).run Tryz.prog w= .ok .nilFunc w:=by kernel_rfl
theorem LK {w:World} {ao:Option Addr} {m cap:Nat} {xs:List Value} (ty:TypeId) (h:Row w (.slice ao m cap) 1 xs) (n:Nat) (hn:n<=xs.length) {ao':Option Addr} {k cap':Nat} (hs:sliced ao n m cap 1= .slice ao' k cap'):
  ∃w',(Builtin.clear_ #[62] ty #[.slice ao' k cap']).run Tryz.prog w= .ok (.tuple #[]) w'/\Fr (fun k=>(Value.slice ao m cap).ownBlock=some k) w w'/\Row w' (.slice ao n cap) 1 (xs.take n):=by
 obtain⟨ao2,he,hc⟩:=h.tail n hn;rw[hs] at he;injection he with e1 e2 e3
 subst e1 e2;have hu:Tryz.prog.underlying 62=some (.slice 1):=by kernel_rfl
 rcases hc with ⟨g,rfl,hlt,rfl⟩ | rfl
 ·rcases h.2 with ⟨he,h0⟩ | ⟨g',cap2,cur,he,hb,hg,hc,hm,hsz,ht⟩
  ·cases he
  ·injection he with e1 e2 e3
   cases e1;subst e2 e3;have hk0:(xs.drop n).length≠0:=by rw[List.length_drop];omega
   obtain⟨k',hk'⟩:∃k',(xs.drop n).length=k'+1:=⟨(xs.drop n).length-1,by omega⟩
   have hzl:(Builtin.zeroCells (Value.nilFunc).cells (k'+1)).toList=List.replicate (k'+1) Value.nilFunc:=by
    refine List.ext_getElem (by simp[Builtin.zeroCells,Value.cells]) (fun i h1 h2=>?_)
    simp[Builtin.zeroCells,Value.cells,Nat.mod_one]
   have hst:=run_storeCells_at (P:=Tryz.prog) g n 1 (List.replicate (k'+1) Value.nilFunc) 0 cur w hg (by rw[List.length_replicate,<-hk',List.length_drop];simp at hsz;omega) (fun v hv=>by
    rw[List.eq_of_mem_replicate hv];rfl)
   refine⟨w.setRow g (cur.toList.take (n+0)++List.replicate (k'+1) Value.nilFunc++cur.toList.drop (n+0+(List.replicate (k'+1) Value.nilFunc).length)).toArray,?_,(Fr.refl _ w).setRow g _ (.inl rfl),?_⟩
   ·rw[hk'];simp only[Builtin.clear_,Sem.run_bind,run_underlying hu,Tryz.Ug,Result.andThen_ok,hzl,hst,Sem.run_pure,List.getElem?_toArray,List.getElem?_cons_zero]
   ·have hl:(xs.take n).length=n:=by simp;omega
    refine⟨by rw[hl];simp,.inr ⟨g,cap,_,by rw[hl],Nat.zero_le _,setRow_heap w g cur _ _ _ hg,by rw[hl];omega,hm,?_,?_⟩⟩
    ·simp only[Nat.add_zero,List.size_toArray,List.length_append,List.length_take,List.length_drop,List.length_replicate,Array.length_toList];rw[<-hk',List.length_drop];simp at hsz
     omega
    ·rw[hl];simp only[Nat.add_zero,Nat.mul_one,List.append_assoc];have h9:=congrArg (List.take n) ht;rw[List.take_take,Nat.mul_one,Nat.min_eq_left hn] at h9;rw[<-h9,List.take_append_of_le_length (by simp;simp at hsz;omega),List.take_take,Nat.min_self]
 ·have hk0:(xs.drop xs.length).length=0:=by simp
  refine⟨w,?_,Fr.refl _ _,h.take _ (Nat.le_refl _)⟩
  rw[hk0];cases ao' with
  | none=>
   simp only[Builtin.clear_,Sem.run_bind,run_underlying hu,Result.andThen_ok,Sem.run_pure,List.getElem?_toArray,List.getElem?_cons_zero]
  | some a=>
   simp only[Builtin.clear_,Sem.run_bind,run_underlying hu,Result.andThen_ok,Sem.run_pure,List.getElem?_toArray,List.getElem?_cons_zero]
theorem Un.call (u:Un):∃fn cs,u.val= .func (.func fn) #[] cs/\∀a W,(callFunc fn a).run Tryz.prog W= .ok (.enter fn a) W:=by
 cases u with
 | n T S k t0=>exact⟨_,_,rfl,fun a W=>by kernel_rfl⟩
 | r T D d0=>exact⟨_,_,rfl,fun a W=>by kernel_rfl⟩
def noS:Nat->Prop:=fun _=>False
theorem jB.uX {W:World} {X:Nat} {zs:List Int} {s:WS} (h:jB W X zs s) (hd8:s.d.length=8) {u:Un} (hu:u∈s.us) {fn:FuncId} {cs:Array Value} (hv:u.val= .func (.func fn) #[] cs):
  Calls Tryz.prog fn cs W fun e W'=>e= .returned (.tuple #[])/\Fr (Xg X s.ts (.slice none 0 0)) W W'/\∃d ts,u.uX (s.d,s.ts.map Tab.t)=(d,ts.map Tab.t)/\gV s.ts ts/\d.length=8/\jB W' X zs {s with d:=d,ts:=ts}:=by
 cases u with
 | n T S k t0=>
  obtain⟨hk,hT,hS,hW⟩:=h.un _ hu;have hv':NR T S= .func (.func fn) #[] cs:=hv;injection hv' with e1 e2 e3
  injection e1 with e1
  subst e1 e3;refine(PX T S _ _ _ _ _ t0 W (h.tabs.at_ k hk) hW hW.form hT hS).mono ?_
  rintro e W' ⟨rfl,f,hA⟩
  have hs:=gV.set hk hW.acg;obtain⟨cG,eG,Gu,yf⟩:=(h.tabs.at_ k hk).YF;have o:Only W (fun q=>q=(s.ts.getD k aH).G) [131,125]:=(Only.one Gu).mono (fun _ x=>x) (by rcases yf with rfl | rfl <;> decide)
  refine⟨rfl,f.mono (fun i hi=>.inl (.inr (.inl ⟨k,hk,hi⟩))),s.d,s.ts.set k {s.ts.getD k aH with t:=t0},?_,hs,hd8,⟨?_,h.sz.jr f o (by decide),h.lJ,?_,hs.inj h.inj,by rw[hs.len];exact h.t12,hs.fits h.fits,h.yI,h.tr.jr f o (by decide),fun u hu=>((h.un u hu).jr f o (by decide) (.inr (by decide))).same hs,fun k' hk'=>⟨(h.apart k' hk').1,fun i hi=>by rw[(hs.at_ i (by rw[<-hs.len];exact hi)).2.1];exact(h.apart k' hk').2 i (by rw[<-hs.len];exact hi)⟩⟩⟩
  ·simp only[Un.uX,List.map_set]
  ·show af W' X (ah s.az s.d (.slice s.so (s.ts.set k _).length s.aI) s.l) _
   rw[hs.len];exact h.blk.jr f o (by decide)
  ·exact h.tabs.step (S:=noS) h.inj hk (Only.none W) (f.mono (fun i hi=>.inl (.inl hi))) (fun _ _=>List.not_mem_nil) hW.acg hA
 | r T D d0=>
  obtain⟨hT,hD,h8,h64⟩:=h.un _ hu;have hv':NT T D= .func (.func fn) #[] cs:=hv;injection hv' with e1 e2 e3
  injection e1 with e1
  subst e1 e3;refine(PW X T D s.az d0 s.d _ s.l W h.blk h8 hd8 hT hD).mono ?_
  rintro e W' ⟨rfl,f,hB⟩
  have o:Only W (fun k=>k=X) [66]:=Only.one h.blk
  exact⟨rfl,f.mono (fun i hi=>.inl (.inl hi)),d0,s.ts,rfl,gV.refl _,h8,⟨hB,h.sz.jr f o (by decide),h.lJ,h.tabs.jr f o (by decide),h.inj,h.t12,h.fits,h.yI,h.tr.jr f o (by decide),fun u hu=>(h.un u hu).jr f o (by decide) (.inr (by decide)),h.apart⟩⟩
theorem jB.bk {lo:Nat} {A B:World} {X:Nat} {zs:List Int} {s:WS} (h:jB A X zs s) (hb:Bk lo A B):jB B X zs s:=by
 obtain⟨row,hg,hr⟩:=hb;have key:∀k cur e,row=some k->¬af A k cur e:=by
  intro k cur e hk hB;obtain⟨_,o,ho,hc⟩:=hr k hk;have h':A.heap[k]? = some (.cells cur e (0,0)):=hB
  rw[h'] at ho;cases ho;cases hc
 refine h.fr (S:=fun k=>row=some k) ((Fr.refl _ A).grown hg (fun k hk=>.inl hk)) (fun k hk hs=>?_) (es:=[]) (fun k cur e hs hB=>absurd hB (key k cur e hs)) (by decide)
 obtain⟨cur,e,hB,_⟩:=h.ty hk;exact key k cur e hs hB
end Go.Proofs.YtkjfpdfkcfgfkaaGreat
namespace Go.Proofs.YtkjfpdfkcfgfkaaGreat
open Go.RowKit Go.Shelf
attribute [local go_sem] Oper.semAt_some
def ae6 (w:World) (X:Nat) (zs:List Int) (s:WS) (n Bx:Nat) (sv:Value) (i:Nat) (W:World):Prop:=∃d ts,(s.us.drop (n+i)).foldr Un.uX (s.d,s.ts.map Tab.t)=(d,ts.map Tab.t)/\gV s.ts ts/\d.length=8/\jB W X zs {s with d:=d,ts:=ts}/\Fr (Xg X s.ts (.slice none 0 0)) w W/\af W Bx #[sv] 62
theorem P8 (ao:Option Addr) (m cap n:Nat) (hn:n<=m) (W:World):(Instr.sliceAt 62 (.slice ao m cap) (some (.int .i64 (n:Int))) none none).run Tryz.prog W= .ok (sliced ao n m cap 1) W:=by
 have hu:Tryz.prog.underlying 62=some (.slice (Tryz.prog.elem 62)):=by kernel_rfl
 have he:Tryz.prog.elem 62=1:=by kernel_rfl
 have hz:(sizeOf 1).run Tryz.prog W= .ok 1 W:=by kernel_rfl
 rw[run_sliceAt_slice _ _ _ _ _ _ hu];rw[run_slice_l _ _ _ _ _ hu _ _ (by omega) (by omega),he,hz]
 simp[Result.andThen]
theorem IK (ao:Option Addr) (m cap n:Nat) (hn:n<=cap) (W:World):(Instr.sliceAt 62 (.slice ao m cap) none (some (.int .i64 (n:Int))) none).run Tryz.prog W= .ok (sliced ao 0 n cap 1) W:=by
 have hu:Tryz.prog.underlying 62=some (.slice (Tryz.prog.elem 62)):=by kernel_rfl
 have he:Tryz.prog.elem 62=1:=by kernel_rfl
 have hz:(sizeOf 1).run Tryz.prog W= .ok 1 W:=by kernel_rfl
 rw[run_sliceAt_slice _ _ _ _ _ _ hu];rw[run_slice_h _ _ _ _ _ hu _ _ (by omega) (by omega),he,hz]
 simp[Result.andThen]
theorem rX (ao:Option Addr) (m cap n:Nat) (hn:n<=cap) (W:World):(Instr.sliceAt 22 (.slice ao m cap) none (some (.int .i64 (n:Int))) none).run Tryz.prog W= .ok (sliced ao 0 n cap 1) W:=by
 have hu:Tryz.prog.underlying 22=some (.slice (Tryz.prog.elem 22)):=by kernel_rfl
 have he:Tryz.prog.elem 22=3:=by kernel_rfl
 have hz:(sizeOf 3).run Tryz.prog W= .ok 1 W:=by kernel_rfl
 rw[run_sliceAt_slice _ _ _ _ _ _ hu];rw[run_slice_h _ _ _ _ _ hu _ _ (by omega) (by omega),he,hz]
 simp[Result.andThen]
theorem Row.ZZ {w:World} {ao:Option Addr} {m cap:Nat} {e:TypeId} {xs:List Value} (h:Row w (.slice ao m cap) e xs):xs.length<=cap:=by
 rcases h.2 with ⟨he,h0⟩ | ⟨g,cap',cur,he,_,_,hc,_⟩
 ·omega
 ·injection he with e1 e2 e3
  omega
theorem oQ (n:Nat) (p:List Nat×List TS) (r:List (Nat×List Nat×List TS)):bY ((n,p)::r)=bY r++[.int .i64 (n:Int)]:=by simp[bY]
theorem wZ (r:List (Nat×List Nat×List TS)):(bY r).length=r.length:=by simp[bY]
set_option maxRecDepth 1000000 in
theorem Uh (X:Nat) (zs:List Int) (s:WS) (n:Nat) (p:List Nat×List TS) (r:List (Nat×List Nat×List TS)) (w:World) (h:jB w X zs s) (hd8:s.d.length=8) (hus:s.us.length<=1000000) (hrl:r.length<=100) (hsk:s.sk=(n,p)::r) (hn:n<=s.us.length)
  (he:(s.us.drop n).foldr Un.uX (s.d,s.ts.map Tab.t)=p):
  Calls Tryz.prog 83 #[.pointer (some ⟨X,10,none⟩)] w fun e w'=>e= .returned (.tuple #[])/\∃ts bv sv,gV s.ts ts/\ts.map Tab.t=p.2/\p.1.length=8 /\
   jB w' X zs {s with d:=p.1,ts:=ts,l:=⟨bv,sv,s.l.busy⟩,us:=s.us.take n,sk:=r}/\Fr (Xg X s.ts s.l.bC) w w'/\bv.ownBlock=s.l.bC.ownBlock/\sv.ownBlock=s.l.starts.ownBlock:=by
 obtain⟨bo,fO,hbk,_⟩:=h.tr.bC.form;rw[List.length_map] at hbk;obtain⟨so',sc,hst⟩:=gB h.tr;rw[hsk,List.length_cons] at hst;have hrb:Row w (.slice bo s.us.length fO) 1 (s.us.map Un.val):=hbk▸h.tr.bC;have hrs:Row w (.slice so' (r.length+1) sc) 3 (bY r++[.int .i64 (n:Int)]):=by
  have:=h.tr.starts
  rw[hst,hsk,oQ] at this;exact this
 obtain⟨ao',hsl,htail⟩:=hrb.tail n (by rw[List.length_map];exact hn)
 obtain⟨m,hm⟩:∃m,((s.us.map Un.val).drop n).length=m:=⟨_,rfl⟩;have hml:m=s.us.length-n:=by rw[<-hm];simp
 have Wn:=hd hml;clear hml;have acr:=hrb.ZZ;rw[List.length_map] at acr;have YJ:=hrs.ZZ;rw[List.length_append,wZ] at YJ;simp only[List.length_singleton] at YJ;have hcb:w.cell? ⟨X,10,none⟩=some (.slice bo s.us.length fO):=(h.blk.cell 10).trans ((fU _ _ _ _ hd8).trans (by rw[hbk]))
 have hcl:w.cell? ⟨X,11,none⟩=some (.slice so' (r.length+1) sc):=(h.blk.cell 11).trans ((aO _ _ _ _ hd8).trans (by rw[hst]))
 obtain⟨sb,sc2,hso,_,hci,_⟩:=hrs.cell r.length (by simp[bY])
 have ae7:so'=some ⟨sb,0,none⟩:=by injection hso
 subst ae7;have hcN:w.cell? ⟨sb,r.length,none⟩=some (.int .i64 (n:Int)):=by
  rw[hci];congr 1
  rw[List.getElem_append_right (by simp[bY])]
  simp[bY]
 have hsl2:=fun W=>(P8 bo s.us.length fO n hn W).trans (by rw[hsl,hm])
 have hmf:∀(fn:Fn) (first cap:Array Value) (w:World),(Instr.makeFunc fn first cap).run Tryz.prog w= .ok (.func fn first cap) w:=fun _ _ _ _=>rfl
 have qN:((r.length+1:Nat):Int)-1=(r.length:Int):=by omega
 have hne0:(((r.length+1:Nat):Int)==0)=false:=by simp;omega
 have HH:=hd h;have P9:=hd hbk;have yV:=hd hst;have ZW:=hd hsk;have He:=hd he;have Hsl:=hd hsl;have acs:=hd htail;have Hm:=hd hm;have Hrb:=hd hrb;have DZ:=hd hrs;clear h hbk hst hsk he hsl htail hm hrb hrs hso hci;refine(callsIn_wide (n:=9)).1 ?_
 refine callsIn_of_wp_marks Tryz.func83 rfl trivial ?_ rfl
 simp only[Tryz.ntmps83,List.size_toArray,List.length_cons,List.length_nil,Nat.reduceAdd,Nat.reduceSub,Array.replicate_succ,Array.replicate_zero,List.push_toArray,List.append_toArray,List.nil_append,List.cons_append];gi_wp2_with (first
  | (refine⟨trivial,?_⟩;gi_at_call 24;refine(callsIn_wide.2 (iq X _ (r.length+1) sc _ hcl)).mono ?_;rintro e w' ⟨rfl,rfl⟩)
  | (refine⟨trivial,?_⟩;gi_at_call 96;refine(callsIn_wide.2 (FH _ _ _ _)).mono ?_;rintro e w1 ⟨rfl,rfl⟩))
 have hal:Nw w' (w'.alloc (.cells #[.slice ao' m (fO-n)] 62)):=(Fr.refl _ w').alloc _;refine Uf (Bx:=w'.heap.size) (ao:=ao') (cap:=fO-n) (xs:=(s.us.map Un.val).drop n) (by rw[Hm.out,Wn.out];omega) rfl (by simp) (ae6 w' X zs s n w'.heap.size (.slice ao' m (fO-n))) ?bk ?rd ?start ?round ?done
 case bk=>
  rintro i A B ⟨d,ts,h1,h2,h3,h4,h5,h6⟩ hb
  exact⟨d,ts,h1,h2,h3,h4.bk hb,h5.bk hb (by simp),h6.bk hb⟩
 case rd=>
  rintro i W ⟨d,ts,h1,h2,h3,h4,h5,h6⟩
  refine⟨by rw[Hm.out];exact h6.cell 0,fun j hj=>?_⟩
  have hrow:=h4.tr.bC;have hrow2:Row W (.slice bo s.us.length fO) 1 (s.us.map Un.val):=by rw[<-P9.out];exact hrow
  have hj2:j<s.us.length-n:=by simpa using hj
  rcases acs.out with ⟨g,hg1,hg2,hg3⟩ | hg
  ·subst hg1;refine⟨g,n,hg3,?_⟩
   have hlt:n+j<s.us.length:=by omega
   rw[(hrow2.at_ (n+j) (by simp;omega)).1]
   simp[List.getD,List.getElem?_drop,hlt]
  ·rw[List.length_map] at hg;omega
 case start=>
  have h1:n+((s.us.map Un.val).drop n).length=s.us.length:=by rw[Hm.out,Wn.out];omega
  refine⟨s.d,s.ts,?_,gV.refl _,hd8,HH.out.nw hal,hal.mono (fun i h=>h.elim),af.new _ _ _⟩
  rw[h1,List.drop_length];rfl
 case round=>
  rintro l i W hi ⟨d,ts,h1,h2,h3,h4,h5,h6⟩
  have hi2:n+i<s.us.length:=by simp at hi;omega
  obtain⟨u,hu⟩:∃u,s.us[n+i]=u:=⟨_,rfl⟩;have hmem:u∈s.us:=by rw[<-hu];exact List.getElem_mem hi2
  have hval:((s.us.map Un.val).drop n).getD i undef=u.val:=by simp[List.getD,List.getElem?_drop,hi2,hu]
  obtain⟨fn,cs,hv,hcall⟩:=u.call;rw[hval,hv];have Ui:=h4.uX h3 (u:=u) hmem hv;have hdrop:s.us.drop (n+i)=u::s.us.drop (n+(i+1)):=by
   rw[List.drop_eq_getElem_cons hi2,hu];rfl
  have Z4:=hd Ui;have acu:=hd hdrop;have H1:=hd h1;have H2:=hd h2;have H4:=hd h4;have H5:=hd h5;have H6:=hd h6;have hWB:=h5.size;clear Ui hdrop h1 h2 h4 h5 h6 hval hu hmem hv;gi_wp2_with fail
  refine⟨trivial,?_⟩
  refine(CallsIn.inRound l (callsIn_wide.2 Z4.out)).mono ?_
  rintro e W' ⟨rfl,hf,d',ts',he',hs',hd',hM'⟩
  gi_wp2
  have o:=H4.out.YH;have o2:Only W (Xg X ts (.slice none 0 0)) [66,131,125,1]:=o.mono (fun k hk=>hk.elim .inl (fun h=>h.elim (fun h=>.inr (.inl h)) (fun h=>by cases h))) (fun _ h=>h)
  refine⟨hf.keeps (fun k hk=>?_),d',ts',?_,H2.out.trans hs',hd',hM',H5.out.trans hf (fun k hk=>?_),H6.out.jr hf o2 (by decide)⟩
  ·rcases hk with rfl | ⟨j,hj,rfl⟩ | hk
   ·exact⟨_,_,H4.out.blk⟩
   ·obtain⟨cur,e,hb,_⟩:=(H4.out.tabs.at_ j hj).YF;exact⟨_,_,hb⟩
   ·cases hk
  ·rw[acu.out,List.foldr_cons,H1.out];exact he'
  ·rcases hk with rfl | ⟨j,hj,rfl⟩ | hk
   ·exact .inl (.inl rfl)
   ·have hj':j<s.ts.length:=by rw[<-H2.out.len];exact hj
    exact .inl (.inr (.inl ⟨j,hj',(H2.out.at_ j hj').1⟩))
   ·cases hk
 case done=>
  rintro D W hD ⟨d,ts,h1,h2,h3,h4,h5,h6⟩ hK
  have hp:p=(d,ts.map Tab.t):=by
   rw[<-He.out,<-h1];rfl
  have hcb2:W.cell? ⟨X,10,none⟩=some (.slice bo s.us.length fO):=(h4.blk.cell 10).trans ((fU _ _ _ _ h3).trans (by rw[<-P9.out]))
  have hrow2:Row W (.slice bo s.us.length fO) 1 (s.us.map Un.val):=by rw[<-P9.out];exact h4.tr.bC
  have acv:=fun ty=>LK ty hrow2 n (by rw[List.length_map];exact hn) (Hsl.out.trans (by rw[Hm.out]))
  obtain⟨W2,acw,hf2,hr2⟩:=acv 0;have qO:∀ty,(Builtin.clear_ #[62] ty #[.slice ao' m (fO-n)]).run Tryz.prog W= .ok (.tuple #[]) W2:=fun ty=>acw
  have H1:=hd h1;have H2:=hd h2;have H4:=hd h4;have H5:=hd h5;have HK:=hd hK;have Hp:=hd hp;have yG:=hd hf2;have Hr2:=hd hr2;have Uj:=hd hrow2;clear h1 h2 h4 h5 h6 hK hp hf2 hr2 hrow2 acw acv hcb hcl hcN;gi_upto_region 7 with fail
  have hblk2:af W2 X (ah s.az d (.slice s.so ts.length s.aI) s.l) 66:=H4.out.blk.jr yG.out (Only.row Uj.out) (by decide)
  have uf:W2.cell? ⟨X,10,none⟩=some (.slice bo s.us.length fO):=(hblk2.cell 10).trans ((fU _ _ _ _ h3).trans (by rw[<-P9.out]))
  have uU:W2.cell? ⟨X,11,none⟩=some (.slice (some ⟨sb,0,none⟩) (r.length+1) sc):=(hblk2.cell 11).trans ((aO _ _ _ _ h3).trans (by rw[<-yV.out]))
  have hfz:=hblk2.free;have IL:=fun W=>(IK bo s.us.length fO n (by omega) W).trans (by rw[Hr2.out.FI n])
  have hsI:=fun W=>(rX (some ⟨sb,0,none⟩) (r.length+1) sc r.length (by omega) W).trans (by rw[DZ.out.FI r.length])
  obtain⟨bv,hbv⟩:∃bv,Value.slice bo n fO=bv:=⟨_,rfl⟩;obtain⟨sv,hsv⟩:∃sv,Value.slice (some ⟨sb,0,none⟩) r.length sc=sv:=⟨_,rfl⟩;have EN:Fr (fun k=>k=X) W2 ((W2.drew.setCell ⟨X,10,none⟩ (.slice bo n fO)).setCell ⟨X,11,none⟩ (.slice (some ⟨sb,0,none⟩) r.length sc)):=(((Fr.refl (fun k=>k=X) W2).drew).setCell _ _ (.inl rfl)).setCell _ _ (.inl rfl)
  have hoX:Only W2 (fun k=>k=X) [66]:=Only.one hblk2
  have hoB:Only W (fun k=>(Value.slice bo s.us.length fO).ownBlock=some k) [1]:=Only.row Uj.out
  have hBZ:af ((W2.drew.setCell ⟨X,10,none⟩ (.slice bo n fO)).setCell ⟨X,11,none⟩ (.slice (some ⟨sb,0,none⟩) r.length sc)) X (ah s.az d (.slice s.so ts.length s.aI) ⟨.slice bo n fO,.slice (some ⟨sb,0,none⟩) r.length sc,s.l.busy⟩) 66:=by
   have h5:=(hblk2.drew.set 10 (.slice bo n fO)).set 11 (.slice (some ⟨sb,0,none⟩) r.length sc);rw[jd _ _ _ _ h3,mY _ _ _ _ h3] at h5;exact h5
  have hMZ:jB ((W2.drew.setCell ⟨X,10,none⟩ (.slice bo n fO)).setCell ⟨X,11,none⟩ (.slice (some ⟨sb,0,none⟩) r.length sc)) X zs {s with d:=d,ts:=ts,l:=⟨.slice bo n fO,.slice (some ⟨sb,0,none⟩) r.length sc,s.l.busy⟩,us:=s.us.take n,sk:=r}:=by
   refine⟨hBZ,(H4.out.sz.jr yG.out hoB (by decide)).jr EN hoX (by decide),H4.out.lJ,(H4.out.tabs.jr yG.out hoB (by decide)).jr EN hoX (by decide),H4.out.inj,H4.out.t12,H4.out.fits,H4.out.yI,⟨?_,?_⟩,fun u hu=>((H4.out.un u (List.mem_of_mem_take hu)).jr yG.out hoB (by decide) (.inr (by decide))).jr EN hoX (by decide) (.inr (by decide)),fun k hk=>H4.out.apart k (by show s.l.starts.ownBlock=some k;rw[yV.out];exact hk)⟩
   ·have h6:Row W (.slice (some ⟨sb,0,none⟩) (r.length+1) sc) 3 (bY r++[.int .i64 (n:Int)]):=by
     have:=H4.out.tr.starts
     have e1:s.l.starts= .slice (some ⟨sb,0,none⟩) (r.length+1) sc:=yV.out;have e2:bY s.sk=bY r++[.int .i64 (n:Int)]:=by rw[ZW.out,oQ]
     simp only at this
     rw[e1,e2] at this;exact this
    have h7:=((h6.jr yG.out hoB (by decide)).jr EN hoX (by decide)).take r.length (by simp[bY])
    rw[List.take_append_of_le_length (by simp[bY]),List.take_of_length_le (by simp[bY])] at h7
    exact h7
   ·have h7:=Hr2.out.jr EN hoX (by decide)
    rw[<-List.map_take] at h7;exact h7
  have YC:=lt_of_block HK.out;have Z5:W2.heap[D]? = some (.deferred (some [])):=(yG.out.block D YC (fun hs=>by
   obtain⟨cur,hb,_⟩:=Uj.out.blk hs;have h':W.heap[D]? = some (.cells cur 1 (0,0)):=hb
   rw[HK.out] at h';cases h')).trans HK.out
  have hKZ:((W2.drew.setCell ⟨X,10,none⟩ (.slice bo n fO)).setCell ⟨X,11,none⟩ (.slice (some ⟨sb,0,none⟩) r.length sc)).heap[D]? = some (.deferred (some [])):=(EN.block D (by have:=yG.out.size;omega) (fun hs=>by
   subst hs;have h':W2.heap[D]? = some (.cells _ 66 (0,0)):=hblk2
   rw[Z5] at h';cases h')).trans Z5
  have hDl:w'.heap.size<=D:=by have:=hal.size;omega
  have HKZ:=hd hKZ;have fQ:Hid (Ending.returned (.tuple #[])=Ending.returned (.tuple #[])/\∃ts bv sv,gV s.ts ts/\ts.map Tab.t=p.2/\p.1.length=8 /\
    jB (((W2.drew.setCell ⟨X,10,none⟩ (.slice bo n fO)).setCell ⟨X,11,none⟩ (.slice (some ⟨sb,0,none⟩) r.length sc)).putObj D (.deferred none)) X zs {s with d:=p.1,ts:=ts,l:=⟨bv,sv,s.l.busy⟩,us:=s.us.take n,sk:=r}/\Fr (Xg X s.ts s.l.bC) w' (((W2.drew.setCell ⟨X,10,none⟩ (.slice bo n fO)).setCell ⟨X,11,none⟩ (.slice (some ⟨sb,0,none⟩) r.length sc)).putObj D (.deferred none))/\bv.ownBlock=s.l.bC.ownBlock/\sv.ownBlock=s.l.starts.ownBlock):=by
   refine⟨rfl,ts,.slice bo n fO,.slice (some ⟨sb,0,none⟩) r.length sc,H2.out,by rw[Hp.out],by rw[Hp.out];exact h3,?_,?_,by rw[P9.out];cases bo <;> rfl,by rw[yV.out];rfl⟩
   ·rw[Hp.out];exact hMZ.bk (Bk.put (.deferred none) hDl hKZ rfl)
   ·refine Fr.bk (lo:=w'.heap.size) ?_ (Bk.put (.deferred none) hDl hKZ rfl) (Nat.le_refl _)
    refine((H5.out.mono ?_).trans yG.out ?_).trans EN ?_
    ·rintro k (rfl | hk | hk)
     ·exact .inl (.inl rfl)
     ·exact .inl (.inr (.inl hk))
     ·cases hk
    ·intro k hk;exact .inl (.inr (.inr (by rw[P9.out];exact hk)))
    ·rintro k rfl
     exact .inl (.inl rfl)
  clear hMZ hKZ hBZ EN hoX hoB Z5 YC;have oH:=hd hblk2;clear hblk2;refine wpIn_wide.2 ?_
  refine wp_region_noPanic ?_
  refine wp_region_held (S:=fun _=>True) (by kernel_rfl) ?_
  refine wpAnyH_take (i:=0) (v:=.pointer (some ⟨X,10,none⟩)) rfl (by kernel_rfl) (by kernel_rfl) (by kernel_rfl) (fun _ _ _ h=>h) (.inl ⟨by kernel_rfl,fun w'' hS=>by kernel_rfl⟩) trivial ?_
  refine wpAnyH_take (i:=1) (v:=.pointer (some ⟨X,10,none⟩)) rfl (by kernel_rfl) (by kernel_rfl) (by kernel_rfl) (fun _ _ _ h=>h) (.inl ⟨by kernel_rfl,fun w'' hS=>by kernel_rfl⟩) trivial ?_
  refine wpAnyH_take (i:=2) (v:=.pointer (some ⟨X,10,none⟩)) rfl (by kernel_rfl) (by kernel_rfl) (by kernel_rfl) (fun _ _ _ h=>h) (.inl ⟨by kernel_rfl,fun w'' hS=>by kernel_rfl⟩) trivial ?_
  refine wpAnyH_take (i:=3) (v:=.pointer (some ⟨X,10,none⟩)) rfl (by kernel_rfl) (by kernel_rfl) (by kernel_rfl) (fun _ _ _ h=>h) (.inl ⟨by kernel_rfl,fun w'' hS=>by kernel_rfl⟩) trivial ?_
  refine wpAnyH_take (i:=4) (v:=.pointer (some ⟨X,10,none⟩)) rfl (by kernel_rfl) (by kernel_rfl) (by kernel_rfl) (fun _ _ _ h=>h) (.inl ⟨by kernel_rfl,fun w'' hS=>by kernel_rfl⟩) trivial ?_
  refine wpAnyH_take (i:=6) (v:=.int .i64 (n:Int)) rfl (by kernel_rfl) (by kernel_rfl) (by kernel_rfl) (fun _ _ _ h=>h) (.inl ⟨by kernel_rfl,fun w'' hS=>by kernel_rfl⟩) trivial ?_
  refine wpAnyH_take (i:=8) (v:=.pointer (some ⟨X,10,none⟩)) rfl (by kernel_rfl) (by kernel_rfl) (by kernel_rfl) (fun _ _ _ h=>h) (.inl ⟨by kernel_rfl,fun w'' hS=>by kernel_rfl⟩) trivial ?_
  refine wpAnyH_take (i:=9) (v:=.pointer (some ⟨X,10,none⟩)) rfl (by kernel_rfl) (by kernel_rfl) (by kernel_rfl) (fun _ _ _ h=>h) (.inl ⟨by kernel_rfl,fun w'' hS=>by kernel_rfl⟩) trivial ?_
  refine wpAnyH_take (i:=10) (v:=.pointer (some ⟨X,11,none⟩)) rfl (by kernel_rfl) (by kernel_rfl) (by kernel_rfl) (fun _ _ _ h=>h) (.inl ⟨by kernel_rfl,fun w'' hS=>by kernel_rfl⟩) trivial ?_
  refine wpAnyH_take (i:=12) (v:=.int .i64 (r.length:Int)) rfl (by kernel_rfl) (by kernel_rfl) (by kernel_rfl) (fun _ _ _ h=>h) (.inl ⟨by kernel_rfl,fun w'' hS=>by kernel_rfl⟩) trivial ?_
  refine wpAnyH_all (rs:=[5,11]) (by kernel_rfl) (by simp) (fun i hi=>?_)
  rcases List.mem_cons.1 hi with rfl | hi
  ·refine aA (v:=.slice bo s.us.length fO) (w':=W2.drew) rfl (by kernel_rfl) ?_ ⟨trivial,?_⟩
   ·have hc:W2.drew.cell? ⟨X,10,none⟩=some (.slice bo s.us.length fO):=uf
    clear oH hcb2 qO hbv hsv hD hsl2 hmf qN hne0 uf uU hfz IL hsI;simp only[Act.put,bQ,bW,bU,eH,eY,fC];go_simp
   refine wpAnyH_take (i:=7) (v:=.slice bo n fO) rfl (by kernel_rfl) (by kernel_rfl) (by kernel_rfl) (fun _ _ _ h=>h) (.inl ⟨by kernel_rfl,fun w'' hS=>?_⟩) trivial ?_
   ·have hh:=IL w'';clear oH hcb2 qO hbv hsv hD hsl2 hmf qN hne0 uf uU hfz IL hsI;simp only[Act.put,bQ,bW,bU,eH,eY,fC];go_simp
   refine wpAnyH_all (rs:=[11]) (by kernel_rfl) (by simp) (fun i hi=>?_)
   obtain rfl:i=11:=by simpa using hi
   refine aA (v:=.slice (some ⟨sb,0,none⟩) (r.length+1) sc) (w':=W2.drew) rfl (by kernel_rfl) ?_ ⟨trivial,?_⟩
   ·have hc:W2.drew.cell? ⟨X,11,none⟩=some (.slice (some ⟨sb,0,none⟩) (r.length+1) sc):=uU
    clear oH hcb2 qO hbv hsv hD hsl2 hmf qN hne0 uf uU hfz IL hsI;simp only[Act.put,bQ,bW,bU,eH,eY,fC];go_simp
   refine wpAnyH_take (i:=13) (v:=.slice (some ⟨sb,0,none⟩) r.length sc) rfl (by kernel_rfl) (by kernel_rfl) (by kernel_rfl) (fun _ _ _ h=>h) (.inl ⟨by kernel_rfl,fun w'' hS=>?_⟩) trivial ?_
   ·have hh:=hsI w'';clear oH hcb2 qO hbv hsv hD hsl2 hmf qN hne0 uf uU hfz IL hsI;simp only[Act.put,bQ,bW,bU,eH,eY,fC];go_simp
   refine wpAnyH_all (rs:=[14]) (by kernel_rfl) (by simp) (fun i hi=>?_)
   obtain rfl:i=14:=by simpa using hi
   refine aA (v:=.pointer (some ⟨X,10,none⟩)) (w':=W2.drew) rfl (by kernel_rfl) (by kernel_rfl) ⟨trivial,?_⟩
   refine wpAnyH_all (rs:=[15]) (by kernel_rfl) (by simp) (fun i hi=>?_)
   obtain rfl:i=15:=by simpa using hi
   refine aA (v:=.pointer (some ⟨X,10,none⟩)) (w':=W2.drew) rfl (by kernel_rfl) (by kernel_rfl) ⟨trivial,?_⟩
   refine wpAnyH_all (rs:=[16]) (by kernel_rfl) (by simp) (fun i hi=>?_)
   obtain rfl:i=16:=by simpa using hi
   refine dw (w':=(W2.drew.setCell ⟨X,10,none⟩ (.slice bo n fO))) rfl (by kernel_rfl) ?_ ⟨trivial,?_⟩
   ·have hc:W2.drew.cell? ⟨X,10,none⟩=some (.slice bo s.us.length fO):=uf
    have hz:W2.drew.frozen? ⟨X,10,none⟩=false:=hfz 10
    clear oH hcb2 qO hbv hsv hD hsl2 hmf qN hne0 uf uU hfz IL hsI;simp only[Act.put,bQ,bW,bU,eH,eY,fC];go_simp
   refine wpAnyH_all (rs:=[17]) (by kernel_rfl) (by simp) (fun i hi=>?_)
   obtain rfl:i=17:=by simpa using hi
   refine aA (v:=.pointer (some ⟨X,10,none⟩)) (w':=(W2.drew.setCell ⟨X,10,none⟩ (.slice bo n fO))) rfl (by kernel_rfl) (by kernel_rfl) ⟨trivial,?_⟩
   refine wpAnyH_all (rs:=[18]) (by kernel_rfl) (by simp) (fun i hi=>?_)
   obtain rfl:i=18:=by simpa using hi
   refine aA (v:=.pointer (some ⟨X,11,none⟩)) (w':=(W2.drew.setCell ⟨X,10,none⟩ (.slice bo n fO))) rfl (by kernel_rfl) (by kernel_rfl) ⟨trivial,?_⟩
   refine wpAnyH_all (rs:=[19]) (by kernel_rfl) (by simp) (fun i hi=>?_)
   obtain rfl:i=19:=by simpa using hi
   have hB1:af (W2.drew.setCell ⟨X,10,none⟩ (.slice bo n fO)) X _ 66:=oH.out.drew.set 10 (.slice bo n fO);have hc19:(W2.drew.setCell ⟨X,10,none⟩ (.slice bo n fO)).cell? ⟨X,11,none⟩=some (.slice (some ⟨sb,0,none⟩) (r.length+1) sc):=(hB1.cell 11).trans (by rw[jd _ _ _ _ h3];exact(aO _ _ _ _ h3).trans (by rw[<-yV.out]))
   have Z7:=hB1.free 11;have ae8:=hfz 11;refine dw (w':=((W2.drew.setCell ⟨X,10,none⟩ (.slice bo n fO)).setCell ⟨X,11,none⟩ (.slice (some ⟨sb,0,none⟩) r.length sc))) rfl (by kernel_rfl) ?_ ⟨trivial,wpAnyH_done (by kernel_rfl) ?_ _⟩
   ·clear oH hcb2 qO hbv hsv hD hsl2 hmf qN hne0 uf hfz IL hsI hB1 hc19 Z7;simp only[Act.put,bQ,bW,bU,eH,eY,fC];go_simp
   simp only[Act.put,bQ,bW,bU,eH,eY,fC];exact NoPanic.normal ⟨by simp,.inl ⟨_,_,rfl,run_takeDeferred HKZ.out,⟨_,results_none rfl _ _ _,fQ.out⟩⟩⟩
  ·obtain rfl:i=11:=by simpa using hi
   refine aA (v:=.slice (some ⟨sb,0,none⟩) (r.length+1) sc) (w':=W2.drew) rfl (by kernel_rfl) ?_ ⟨trivial,?_⟩
   ·have hc:W2.drew.cell? ⟨X,11,none⟩=some (.slice (some ⟨sb,0,none⟩) (r.length+1) sc):=uU
    clear oH hcb2 qO hbv hsv hD hsl2 hmf qN hne0 uf uU hfz IL hsI;simp only[Act.put,bQ,bW,bU,eH,eY,fC];go_simp
   refine wpAnyH_take (i:=13) (v:=.slice (some ⟨sb,0,none⟩) r.length sc) rfl (by kernel_rfl) (by kernel_rfl) (by kernel_rfl) (fun _ _ _ h=>h) (.inl ⟨by kernel_rfl,fun w'' hS=>?_⟩) trivial ?_
   ·have hh:=hsI w'';clear oH hcb2 qO hbv hsv hD hsl2 hmf qN hne0 uf uU hfz IL hsI;simp only[Act.put,bQ,bW,bU,eH,eY,fC];go_simp
   refine wpAnyH_all (rs:=[5]) (by kernel_rfl) (by simp) (fun i hi=>?_)
   obtain rfl:i=5:=by simpa using hi
   refine aA (v:=.slice bo s.us.length fO) (w':=W2.drew) rfl (by kernel_rfl) ?_ ⟨trivial,?_⟩
   ·have hc:W2.drew.cell? ⟨X,10,none⟩=some (.slice bo s.us.length fO):=uf
    clear oH hcb2 qO hbv hsv hD hsl2 hmf qN hne0 uf uU hfz IL hsI;simp only[Act.put,bQ,bW,bU,eH,eY,fC];go_simp
   refine wpAnyH_take (i:=7) (v:=.slice bo n fO) rfl (by kernel_rfl) (by kernel_rfl) (by kernel_rfl) (fun _ _ _ h=>h) (.inl ⟨by kernel_rfl,fun w'' hS=>?_⟩) trivial ?_
   ·have hh:=IL w'';clear oH hcb2 qO hbv hsv hD hsl2 hmf qN hne0 uf uU hfz IL hsI;simp only[Act.put,bQ,bW,bU,eH,eY,fC];go_simp
   refine wpAnyH_all (rs:=[14]) (by kernel_rfl) (by simp) (fun i hi=>?_)
   obtain rfl:i=14:=by simpa using hi
   refine aA (v:=.pointer (some ⟨X,10,none⟩)) (w':=W2.drew) rfl (by kernel_rfl) (by kernel_rfl) ⟨trivial,?_⟩
   refine wpAnyH_all (rs:=[15]) (by kernel_rfl) (by simp) (fun i hi=>?_)
   obtain rfl:i=15:=by simpa using hi
   refine aA (v:=.pointer (some ⟨X,10,none⟩)) (w':=W2.drew) rfl (by kernel_rfl) (by kernel_rfl) ⟨trivial,?_⟩
   refine wpAnyH_all (rs:=[16]) (by kernel_rfl) (by simp) (fun i hi=>?_)
   obtain rfl:i=16:=by simpa using hi
   refine dw (w':=(W2.drew.setCell ⟨X,10,none⟩ (.slice bo n fO))) rfl (by kernel_rfl) ?_ ⟨trivial,?_⟩
   ·have hc:W2.drew.cell? ⟨X,10,none⟩=some (.slice bo s.us.length fO):=uf
    have hz:W2.drew.frozen? ⟨X,10,none⟩=false:=hfz 10
    clear oH hcb2 qO hbv hsv hD hsl2 hmf qN hne0 uf uU hfz IL hsI;simp only[Act.put,bQ,bW,bU,eH,eY,fC];go_simp
   refine wpAnyH_all (rs:=[17]) (by kernel_rfl) (by simp) (fun i hi=>?_)
   obtain rfl:i=17:=by simpa using hi
   refine aA (v:=.pointer (some ⟨X,10,none⟩)) (w':=(W2.drew.setCell ⟨X,10,none⟩ (.slice bo n fO))) rfl (by kernel_rfl) (by kernel_rfl) ⟨trivial,?_⟩
   refine wpAnyH_all (rs:=[18]) (by kernel_rfl) (by simp) (fun i hi=>?_)
   obtain rfl:i=18:=by simpa using hi
   refine aA (v:=.pointer (some ⟨X,11,none⟩)) (w':=(W2.drew.setCell ⟨X,10,none⟩ (.slice bo n fO))) rfl (by kernel_rfl) (by kernel_rfl) ⟨trivial,?_⟩
   refine wpAnyH_all (rs:=[19]) (by kernel_rfl) (by simp) (fun i hi=>?_)
   obtain rfl:i=19:=by simpa using hi
   have hB1:af (W2.drew.setCell ⟨X,10,none⟩ (.slice bo n fO)) X _ 66:=oH.out.drew.set 10 (.slice bo n fO);have hc19:(W2.drew.setCell ⟨X,10,none⟩ (.slice bo n fO)).cell? ⟨X,11,none⟩=some (.slice (some ⟨sb,0,none⟩) (r.length+1) sc):=(hB1.cell 11).trans (by rw[jd _ _ _ _ h3];exact(aO _ _ _ _ h3).trans (by rw[<-yV.out]))
   have Z7:=hB1.free 11;have ae8:=hfz 11;refine dw (w':=((W2.drew.setCell ⟨X,10,none⟩ (.slice bo n fO)).setCell ⟨X,11,none⟩ (.slice (some ⟨sb,0,none⟩) r.length sc))) rfl (by kernel_rfl) ?_ ⟨trivial,wpAnyH_done (by kernel_rfl) ?_ _⟩
   ·clear oH hcb2 qO hbv hsv hD hsl2 hmf qN hne0 uf hfz IL hsI hB1 hc19 Z7;simp only[Act.put,bQ,bW,bU,eH,eY,fC];go_simp
   simp only[Act.put,bQ,bW,bU,eH,eY,fC];exact NoPanic.normal ⟨by simp,.inl ⟨_,_,rfl,run_takeDeferred HKZ.out,⟨_,results_none rfl _ _ _,fQ.out⟩⟩⟩
end Go.Proofs.YtkjfpdfkcfgfkaaGreat
namespace Go.Proofs.YtkjfpdfkcfgfkaaGreat
open Go.RowKit
set_option maxRecDepth 1000000 in
theorem Uk (X:Nat) (zs:List Int) (s:WS) (w:World) (h:iM w X zs s) (hbz:s.l.busy=false) (h20:s.sk.length=20):
  Calls Tryz.prog 61 #[.pointer (some ⟨X,0,none⟩)] w fun e w'=>e= .returned (.int .i64 2)/\w'=w:=by
 have hd8:s.d.length=8:=h.good.dm.len;obtain⟨so',sc,hst⟩:=gB h.mem.tr;rw[h20] at hst;have hcb:w.cell? ⟨X,12,none⟩=some (.bool false):=(h.mem.blk.cell 12).trans ((bu _ _ _ _ hd8).trans (by rw[hbz]))
 have hcl:w.cell? ⟨X,11,none⟩=some (.slice so' 20 sc):=(h.mem.blk.cell 11).trans ((aO _ _ _ _ hd8).trans (by rw[hst]))
 clear h hst;go_enter Tryz.func61,Tryz.ntmps61
 go_wp2_with (go_at_call 24;refine(iq X so' 20 sc _ hcl).mono ?_;rintro e w' ⟨rfl,rfl⟩)
 go_ret
 exact⟨rfl,rfl⟩
def WS.push (s:WS) (sv:Value):WS:={s with l:=⟨s.l.bC,sv,s.l.busy⟩,sk:=(s.us.length,s.d,s.ts.map Tab.t)::s.sk}
set_option maxRecDepth 1000000 in
theorem Qa (X:Nat) (zs:List Int) (s:WS) (w:World) (h:iM w X zs s) (hbz:s.l.busy=false) (h20:s.sk.length<20):
  Calls Tryz.prog 61 #[.pointer (some ⟨X,0,none⟩)] w fun e w'=>e= .returned (.int .i64 0)/\∃sv,iM w' X zs (s.push sv)/\gq w w' X s (s.push sv):=by
 have hd8:s.d.length=8:=h.good.dm.len;obtain⟨so',sc,hst⟩:=gB h.mem.tr;obtain⟨bo,fO,hbk,_⟩:=h.mem.tr.bC.form;rw[List.length_map] at hbk;have hcb:w.cell? ⟨X,12,none⟩=some (.bool false):=(h.mem.blk.cell 12).trans ((bu _ _ _ _ hd8).trans (by rw[hbz]))
 have hcl:w.cell? ⟨X,11,none⟩=some (.slice so' s.sk.length sc):=(h.mem.blk.cell 11).trans ((aO _ _ _ _ hd8).trans (by rw[hst]))
 have hne:((s.sk.length:Int)==20)=false:=by simp;omega
 have HH:=hd h;have P9:=hd hbk;clear h hst hbk;go_enter Tryz.func61,Tryz.ntmps61
 go_wp2_with (first
  | (go_at_call 24;refine(iq X so' s.sk.length sc _ hcl).mono ?_;rintro e w' ⟨rfl,rfl⟩)
  | (go_at_call 82;refine(push_any X s.az s.d _ s.l bo s.us.length fO (bY s.sk) _ HH.out.mem.blk hd8 P9.out HH.out.mem.tr.starts (by rw[wZ];omega)).mono ?_;rintro e w2 ⟨rfl,sv,hr,hf,hB,ho⟩))
 go_ret
 have o:Only w' (fun k=>k=X\/s.l.starts.ownBlock=some k) [66,3]:=(Only.one HH.out.mem.blk).or (Only.row HH.out.mem.tr.starts)
 refine⟨rfl,sv,⟨⟨hB,?_,HH.out.mem.lJ,?_,HH.out.mem.inj,HH.out.mem.t12,HH.out.mem.fits,HH.out.mem.yI,⟨?_,?_⟩,?_,?_⟩,HH.out.good,HH.out.cnt,?_,?_⟩,?_,?_⟩
 ·refine HH.out.mem.sz.fr hf (fun k hk=>?_)
  rintro(rfl | h)
  ·exact HH.out.mem.sz.ne HH.out.mem.blk (by decide) hk
  ·exact(HH.out.mem.apart k h).1 hk
 ·refine⟨HH.out.mem.tabs.row.jr hf o (by decide),fun i hi=>(HH.out.mem.tabs.at_ i hi).fr hf ?_,HH.out.mem.tabs.four,HH.out.mem.tabs.ok⟩
  rintro k (hk | hk | hk) hs
  ·obtain⟨cur,e,hb,he⟩:=(HH.out.mem.tabs.at_ i hi).YF;rw[<-hk] at hb;have:=o k cur e hs hb
   rcases he with rfl | rfl <;> (revert this;decide)
  ·rcases hs with rfl | hs
   ·obtain⟨cur,hb⟩:=(HH.out.mem.tabs.at_ i hi).tyg;rw[<-hk] at hb;have:=(hb.inj HH.out.mem.blk).2
    revert this
    decide
   ·exact(HH.out.mem.apart k hs).2 i hi hk.symm
  ·obtain⟨cur,hb⟩:=(HH.out.mem.tabs.at_ i hi).tyn hk;have:=o k cur _ hs hb
   revert this
   decide
 ·show Row w2 sv 3 (bY ((s.us.length,s.d,s.ts.map Tab.t)::s.sk))
  rw[oQ];exact hr
 ·exact HH.out.mem.tr.bC.jr hf o (by decide)
 ·exact fun u hu=>(HH.out.mem.un u hu).jr hf o (by decide) (.inr (by decide))
 ·intro k hk;rcases ho k hk with h | h
  ·exact HH.out.mem.apart k h
  ·refine⟨fun h'=>?_,fun i hi h'=>?_⟩
   ·have:=HH.out.mem.sz.lt h'
    omega
   ·have:=(HH.out.mem.tabs.at_ i hi).lt (.inr (.inl rfl))
    have h2:(s.ts.getD i aH).g=k:=h';omega
 ·refine⟨Nat.le_refl _,?_,HH.out.good,HH.out.cnt,?_⟩
  ·show (s.us.drop s.us.length).foldr _ _=_
   rw[List.drop_length];rfl
  ·show lI zs s.bs (s.us.take s.us.length) _ _
   rw[List.take_length];exact HH.out.sk
 ·show s.sk.length+1<=20
  omega
 ·exact hf.mono (fun k hk=>.inl (hk.elim .inl (fun h=>.inr (.inr (.inr (.inr (.inr (.inl h))))))))
 ·rintro k (rfl | hk' | hk' | hk' | hk' | hk' | hk')
  ·exact .inl (.inl rfl)
  ·exact .inl (.inr (.inl hk'))
  ·exact .inl (.inr (.inr (.inl hk')))
  ·exact .inl (.inr (.inr (.inr (.inl hk'))))
  ·exact .inl (.inr (.inr (.inr (.inr (.inl hk')))))
  ·exact(ho k hk').imp (fun h=>.inr (.inr (.inr (.inr (.inr (.inl h)))))) id
  ·exact .inl (.inr (.inr (.inr (.inr (.inr (.inr hk'))))))
set_option maxRecDepth 1000000 in
theorem Xn (X:Nat) (zs:List Int) (s:WS) (w:World) (h:iM w X zs s) (hbz:s.l.busy=false) (h0:s.sk=[]):
  Calls Tryz.prog 62 #[.pointer (some ⟨X,0,none⟩)] w fun e w'=>e= .returned (.int .i64 4)/\w'=w:=by
 have hd8:s.d.length=8:=h.good.dm.len;obtain⟨so',sc,hst⟩:=gB h.mem.tr;rw[h0] at hst;have hst2:s.l.starts= .slice so' 0 sc:=hst;have hcb:w.cell? ⟨X,12,none⟩=some (.bool false):=(h.mem.blk.cell 12).trans ((bu _ _ _ _ hd8).trans (by rw[hbz]))
 have hcl:w.cell? ⟨X,11,none⟩=some (.slice so' 0 sc):=(h.mem.blk.cell 11).trans ((aO _ _ _ _ hd8).trans (by rw[hst2]))
 clear h hst hst2;go_enter Tryz.func62,Tryz.ntmps62
 go_wp2_with (go_at_call 24;refine(iq X so' 0 sc _ hcl).mono ?_;rintro e w' ⟨rfl,rfl⟩)
 go_ret
 exact⟨rfl,rfl⟩
def WS.pop (s:WS) (n:Nat) (d:List Nat) (r:List (Nat×List Nat×List TS)) (ts:List Tab) (bv sv:Value):WS:={s with d:=d,ts:=ts,l:=⟨bv,sv,s.l.busy⟩,us:=s.us.take n,sk:=r}
set_option maxRecDepth 1000000 in
theorem Ul (X:Nat) (zs:List Int) (s:WS) (n:Nat) (p:List Nat×List TS) (r:List (Nat×List Nat×List TS)) (w:World) (h:iM w X zs s) (hbz:s.l.busy=false) (hsk:s.sk=(n,p)::r):
  Calls Tryz.prog 62 #[.pointer (some ⟨X,0,none⟩)] w fun e w'=>e= .returned (.int .i64 0)/\∃ts bv sv,gV s.ts ts/\ts.map Tab.t=p.2/\iM w' X zs (s.pop n p.1 r ts bv sv)/\gq w w' X s (s.pop n p.1 r ts bv sv):=by
 have hd8:s.d.length=8:=h.good.dm.len;obtain⟨so',sc,hst⟩:=gB h.mem.tr;rw[hsk,List.length_cons] at hst;have hcb:w.cell? ⟨X,12,none⟩=some (.bool false):=(h.mem.blk.cell 12).trans ((bu _ _ _ _ hd8).trans (by rw[hbz]))
 have hcl:w.cell? ⟨X,11,none⟩=some (.slice so' (r.length+1) sc):=(h.mem.blk.cell 11).trans ((aO _ _ _ _ hd8).trans (by rw[hst]))
 have hne:(((r.length+1:Nat):Int)==0)=false:=by simp;omega
 have acy:=h.sk;rw[hsk] at acy;obtain⟨hn,he,hg,hc,hr⟩:=acy;have hl:=h.uz;rw[hsk,List.length_cons] at hl;have hcn:=h.cnt;have HH:=hd h;have He:=hd he;have Hg:=hd hg;have Hr:=hd hr;have ZW:=hd hsk;clear h hst he hg hr hsk;go_enter Tryz.func62,Tryz.ntmps62
 go_wp2_with (first
  | (go_at_call 24;refine(iq X so' (r.length+1) sc _ hcl).mono ?_;rintro e w' ⟨rfl,rfl⟩)
  | (go_at_call 83;refine(Uh X zs s n p r _ HH.out.mem hd8 (by omega) (by omega) ZW.out hn He.out).mono ?_;rintro e w2 ⟨rfl,ts,bv,sv,h1,h2,h3,h4,h5,h6,h7⟩))
 go_ret
 refine⟨rfl,ts,bv,sv,h1,h2,⟨h4,?_,?_,?_,?_⟩,?_,?_⟩
 ·show Good zs s.bs p.1 (ts.map Tab.t)
  rw[h2];exact Hg.out
 ·show (s.us.take n).length+900*bitsOf p.1<=57600
  rw[List.length_take,Nat.min_eq_left hn];exact hc
 ·show lI zs s.bs (s.us.take n) (p.1,ts.map Tab.t) r
  rw[h2];exact Hr.out
 ·show r.length<=20
  omega
 ·refine h5.mono ?_
  rintro i (rfl | ⟨j,hj,rfl⟩ | hi)
  ·exact .inl (.inl rfl)
  ·exact .inl (.inr (.inr (.inr (.inl ⟨j,hj,.inl rfl⟩))))
  ·exact .inl (.inr (.inr (.inr (.inr (.inl hi)))))
 ·rintro k (rfl | hk' | hk' | ⟨i,hi,hk'⟩ | hk' | hk' | ⟨u,hu,hk'⟩)
  ·exact .inl (.inl rfl)
  ·exact .inl (.inr (.inl hk'))
  ·refine .inl (.inr (.inr (.inl ?_)))
   have hk2:(Value.slice s.so ts.length s.aI).ownBlock=some k:=hk';rw[h1.len] at hk2;exact hk2
  ·have hi':i<s.ts.length:=by rw[<-h1.len];exact hi
   have hk2:k=(ts.getD i aH).G\/k=(ts.getD i aH).g:=hk';rw[(h1.at_ i hi').1,(h1.at_ i hi').2.1] at hk2;exact .inl (.inr (.inr (.inr (.inl ⟨i,hi',hk2⟩))))
  ·exact .inl (.inr (.inr (.inr (.inr (.inl (h6▸hk'))))))
  ·exact .inl (.inr (.inr (.inr (.inr (.inr (.inl (h7▸hk')))))))
  ·exact .inl (.inr (.inr (.inr (.inr (.inr (.inr ⟨u,List.mem_of_mem_take hu,hk'⟩))))))
def jQ (d:List Nat) (k:Nat):Nat:=((List.range k).map (fun q=>pop (d.getD q 0))).foldl (· + ·) 0
def lZ (d:List Nat) (k:Nat):Nat:=((List.range k).filter (fun q=>pop (d.getD q 0)==1)).length
theorem oI (d:List Nat) (k:Nat):jQ d (k+1)=jQ d k+pop (d.getD k 0):=by simp[jQ,List.range_succ]
theorem uZ (d:List Nat) (k:Nat):lZ d (k+1)=lZ d k+if pop (d.getD k 0)=1 then 1 else 0:=by
 simp only[lZ,List.range_succ,List.filter_append,List.length_append];by_cases h:pop (d.getD k 0)=1
 ·rw[if_pos h,List.filter_cons_of_pos (by simpa using h)]
  simp
 ·rw[if_neg h,List.filter_cons_of_neg (by simpa using h)]
  simp
theorem NY (s:Nat):pop s<=8:=by unfold pop;exact Nat.le_trans (List.length_filter_le _ _) (by simp)
theorem Ei (d:List Nat):∀k,jQ d k<=8*k
 | 0=>by simp[jQ]
 | k+1=>by
  rw[oI];have:=Ei d k
  have:=NY (d.getD k 0)
  omega
theorem Um (d:List Nat) (k:Nat):lZ d k<=k:=by
 unfold lZ;have:=List.length_filter_le (fun q=>pop (d.getD q 0)==1) (List.range k)
 simpa using this
theorem Z8 (d:List Nat) (h8:d.length=8) (k:Nat) (hk:k<8) (W:World):(Instr.index 60 (.agg (ay d)) (.int .i64 (k:Int))).run Tryz.prog W= .ok (.int .u8 ((d.getD k 0:Nat):Int)) W:=by
 obtain⟨d0,d1,d2,d3,d4,d5,d6,d7,rfl⟩:=nZ h8;have hc:k=0\/k=1\/k=2\/k=3\/k=4\/k=5\/k=6\/k=7:=by omega
 rcases hc with rfl | rfl | rfl | rfl | rfl | rfl | rfl | rfl <;> (show (Instr.index _ _ _).run Tryz.prog W=_;kernel_rfl)
def Uo (zs:List Int) (s:WS):Array Value:=#[.int .i64 (zs.length:Int),.int .i64 (s.ts.length:Int),.int .i64 (s.sk.length:Int),.bool (s.d.getD 0 0==0),.int .i64 (jQ s.d 8:Int),.int .i64 (lZ s.d 8:Int)]
def BF:Array Value:=#[.int .i64 0,.int .i64 0,.int .i64 0,.bool false,.int .i64 0,.int .i64 0]
set_option maxRecDepth 1000000 in
theorem Ur (X:Nat) (zs:List Int) (s:WS) (w:World) (h:iM w X zs s) (hbz:s.l.busy=false):
  Calls Tryz.prog 59 #[.pointer (some ⟨X,0,none⟩)] w fun e w'=>e= .returned (.agg (Uo zs s))/\Nw w w':=by
 obtain⟨hz0,hzl⟩:=aF h.mem.lJ;have hd8:s.d.length=8:=h.good.dm.len;obtain⟨v0,v1,v2,v3,v4,v5,v6,v7,hdv⟩:=iV hd8;obtain⟨⟨x0,rfl⟩,⟨x1,rfl⟩,⟨x2,rfl⟩,⟨x3,rfl⟩,⟨x4,rfl⟩,⟨x5,rfl⟩,⟨x6,rfl⟩,⟨x7,rfl⟩⟩:=iO s.d hdv;obtain⟨so',sc,hst⟩:=gB h.mem.tr;obtain⟨sa,scap,mQ,_⟩:=h.mem.sz.form;simp only[List.length_map] at mQ;obtain⟨W,hW⟩:∃W,W=w.alloc (.cells BF 110):=⟨_,rfl⟩;have dM:Nw w W:=by rw[hW];exact(Fr.refl _ w).alloc _
 have hbR:af W w.heap.size BF 110:=by rw[hW];exact af.new _ _ _
 have hM:=h.mem.nw dM;have hcb:W.cell? ⟨X,12,none⟩=some (.bool false):=(hM.blk.cell 12).trans ((bu _ _ _ _ hd8).trans (by rw[hbz]))
 have hXlt:=h.mem.blk.lt;have HM:=hd hM;have HH:=hd h;have Hdv:=hd hdv;have yV:=hd hst;have ae9:=hd mQ;have HW:=hd hW;have KQ:=hd dM;have NC:=hd hbR;clear h hdv hst mQ hW dM hbR hM;obtain⟨dead,Ej⟩:∃b,(s.d.getD 0 0==0)=b:=⟨_,rfl⟩;have Em:=hd Ej;clear Ej;go_enter Tryz.func59,Tryz.ntmps59
 go_upto_region 1 with fail
 rw[show w.alloc (Obj.cells #[Value.int .i64 0,.int .i64 0,.int .i64 0,.bool false,.int .i64 0,.int .i64 0] 110)=W from HW.out.symm]
 go_upto_region 3 with fail
 go_cut [3] (fun p wx=>∃L,p= .pointer (some ⟨L,0,none⟩)/\Hid (af wx L #[.int .i64 (zs.length:Int),.int .i64 (s.ts.length:Int),.int .i64 (s.sk.length:Int),.bool dead,.int .i64 0,.int .i64 0] 110)/\Hid (Nw W wx)/\w.heap.size<L)
 case first=>
  have zq:Hid (jB W.drew X zs s):=HM.out.nw ((Fr.refl _ W).drew);have hK0:jB W.drew X zs s:=zq.out;refine wp_region_held (S:=fun w'=>jB w' X zs s) (by kernel_rfl) ?_
  refine wpAnyH_take (i:=0) (v:=.pointer (some ⟨X,0,none⟩)) rfl (by kernel_rfl) (by kernel_rfl) (by kernel_rfl) (fun _ _ _ h=>h) (.inl ⟨by kernel_rfl,fun w'' hS=>by kernel_rfl⟩) hK0 ?_
  refine wpAnyH_take (i:=1) (v:=.pointer (some ⟨X,0,none⟩)) rfl (by kernel_rfl) (by kernel_rfl) (by kernel_rfl) (fun _ _ _ h=>h) (.inl ⟨by kernel_rfl,fun w'' hS=>by kernel_rfl⟩) hK0 ?_
  refine wpAnyH_take (i:=2) (v:=.pointer (some ⟨X,0,none⟩)) rfl (by kernel_rfl) (by kernel_rfl) (by kernel_rfl) (fun _ _ _ h=>h) (.inl ⟨by kernel_rfl,fun w'' hS=>by kernel_rfl⟩) hK0 ?_
  refine wpAnyH_take (i:=3) (v:=.slice sa zs.length scap) rfl (by kernel_rfl) (by kernel_rfl) (by kernel_rfl) (fun _ _ _ h=>h) (.inl ⟨by kernel_rfl,fun w'' hS=>?_⟩) hK0 ?_
  ·have hc:w''.cell? ⟨X,0,none⟩=some (.slice sa zs.length scap):=(hS.blk.cell 0).trans ((iC ..).trans (by rw[ae9.out]))
   clear hS hK0 hcb;simp only[Act.put,bQ,bW,bU,eH,eY,fC];go_simp
  refine wpAnyH_take (i:=4) (v:=.int .i64 (zs.length:Int)) rfl (by kernel_rfl) (by kernel_rfl) (by kernel_rfl) (fun _ _ _ h=>h) (.inl ⟨by kernel_rfl,fun w'' hS=>?_⟩) hK0 ?_
  ·skip
   clear hS hK0 hcb;simp only[Act.put,bQ,bW,bU,eH,eY,fC];go_simp
  refine wpAnyH_take (i:=5) (v:=.pointer (some ⟨X,0,none⟩)) rfl (by kernel_rfl) (by kernel_rfl) (by kernel_rfl) (fun _ _ _ h=>h) (.inl ⟨by kernel_rfl,fun w'' hS=>by kernel_rfl⟩) hK0 ?_
  refine wpAnyH_take (i:=6) (v:=.pointer (some ⟨X,0,none⟩)) rfl (by kernel_rfl) (by kernel_rfl) (by kernel_rfl) (fun _ _ _ h=>h) (.inl ⟨by kernel_rfl,fun w'' hS=>by kernel_rfl⟩) hK0 ?_
  refine wpAnyH_take (i:=7) (v:=.pointer (some ⟨X,9,none⟩)) rfl (by kernel_rfl) (by kernel_rfl) (by kernel_rfl) (fun _ _ _ h=>h) (.inl ⟨by kernel_rfl,fun w'' hS=>by kernel_rfl⟩) hK0 ?_
  refine wpAnyH_take (i:=8) (v:=.slice s.so s.ts.length s.aI) rfl (by kernel_rfl) (by kernel_rfl) (by kernel_rfl) (fun _ _ _ h=>h) (.inl ⟨by kernel_rfl,fun w'' hS=>?_⟩) hK0 ?_
  ·have hc:w''.cell? ⟨X,9,none⟩=some (.slice s.so s.ts.length s.aI):=(hS.blk.cell 9).trans (dV _ _ _ _ hd8)
   clear hS hK0 hcb;simp only[Act.put,bQ,bW,bU,eH,eY,fC];go_simp
  refine wpAnyH_take (i:=9) (v:=.int .i64 (s.ts.length:Int)) rfl (by kernel_rfl) (by kernel_rfl) (by kernel_rfl) (fun _ _ _ h=>h) (.inl ⟨by kernel_rfl,fun w'' hS=>?_⟩) hK0 ?_
  ·skip
   clear hS hK0 hcb;simp only[Act.put,bQ,bW,bU,eH,eY,fC];go_simp
  refine wpAnyH_take (i:=10) (v:=.pointer (some ⟨X,0,none⟩)) rfl (by kernel_rfl) (by kernel_rfl) (by kernel_rfl) (fun _ _ _ h=>h) (.inl ⟨by kernel_rfl,fun w'' hS=>by kernel_rfl⟩) hK0 ?_
  refine wpAnyH_take (i:=11) (v:=.pointer (some ⟨X,0,none⟩)) rfl (by kernel_rfl) (by kernel_rfl) (by kernel_rfl) (fun _ _ _ h=>h) (.inl ⟨by kernel_rfl,fun w'' hS=>by kernel_rfl⟩) hK0 ?_
  refine wpAnyH_take (i:=12) (v:=.pointer (some ⟨X,10,none⟩)) rfl (by kernel_rfl) (by kernel_rfl) (by kernel_rfl) (fun _ _ _ h=>h) (.inl ⟨by kernel_rfl,fun w'' hS=>by kernel_rfl⟩) hK0 ?_
  refine wpAnyH_take (i:=14) (v:=.pointer (some ⟨X,0,none⟩)) rfl (by kernel_rfl) (by kernel_rfl) (by kernel_rfl) (fun _ _ _ h=>h) (.inl ⟨by kernel_rfl,fun w'' hS=>by kernel_rfl⟩) hK0 ?_
  obtain⟨Y,hY⟩:∃Y,Y=W.drew.alloc (.cells BF 110):=⟨_,rfl⟩;have rG:Nw W Y:=by rw[hY];exact((Fr.refl _ W).drew).alloc _
  have hZ:af Y W.heap.size BF 110:=by rw[hY];exact af.new _ _ _
  have HY:=hd hY;have Us:=hd (HM.out.nw rG);have tV:Nw W ((((((Y.setCell ⟨W.heap.size,0,none⟩ (.int .i64 (zs.length:Int))).setCell ⟨W.heap.size,1,none⟩ (.int .i64 (s.ts.length:Int))).setCell ⟨W.heap.size,2,none⟩ (.int .i64 (s.sk.length:Int))).setCell ⟨W.heap.size,3,none⟩ (.bool dead)).setCell ⟨W.heap.size,4,none⟩ (.int .i64 0)).setCell ⟨W.heap.size,5,none⟩ (.int .i64 0)):=(((((rG.setCell _ _ (.inr (Nat.le_refl _))).setCell _ _ (.inr (Nat.le_refl _))).setCell _ _ (.inr (Nat.le_refl _))).setCell _ _ (.inr (Nat.le_refl _))).setCell _ _ (.inr (Nat.le_refl _))).setCell _ _ (.inr (Nat.le_refl _));have HF8:=hd tV;have HM8:=hd (HM.out.nw tV);have HB8:Hid (af ((((((Y.setCell ⟨W.heap.size,0,none⟩ (.int .i64 (zs.length:Int))).setCell ⟨W.heap.size,1,none⟩ (.int .i64 (s.ts.length:Int))).setCell ⟨W.heap.size,2,none⟩ (.int .i64 (s.sk.length:Int))).setCell ⟨W.heap.size,3,none⟩ (.bool dead)).setCell ⟨W.heap.size,4,none⟩ (.int .i64 0)).setCell ⟨W.heap.size,5,none⟩ (.int .i64 0)) W.heap.size #[.int .i64 (zs.length:Int),.int .i64 (s.ts.length:Int),.int .i64 (s.sk.length:Int),.bool dead,.int .i64 0,.int .i64 0] 110):=(((((hZ.set 0 _).set 1 _).set 2 _).set 3 _).set 4 _).set 5 _;have q0:Y.cell? ⟨W.heap.size,0,none⟩=some (.int .i64 0):=hZ.cell 0
  have q1:Y.cell? ⟨W.heap.size,1,none⟩=some (.int .i64 0):=hZ.cell 1
  have q2:Y.cell? ⟨W.heap.size,2,none⟩=some (.int .i64 0):=hZ.cell 2
  have q3:Y.cell? ⟨W.heap.size,3,none⟩=some (.bool false):=hZ.cell 3
  have q4:Y.cell? ⟨W.heap.size,4,none⟩=some (.int .i64 0):=hZ.cell 4
  have q5:Y.cell? ⟨W.heap.size,5,none⟩=some (.int .i64 0):=hZ.cell 5
  have hfz:=hZ.free;clear hY rG hZ tV;refine wpAnyH_all (rs:=[13,17]) (by kernel_rfl) (by simp) (fun i hi=>?_)
  rcases List.mem_cons.1 hi with rfl | hi
  ·refine dF (f:=24) (args:=#[.pointer (some ⟨X,10,none⟩)]) (w':=W.drew) rfl (by kernel_rfl) (by kernel_rfl) ?_
   refine(iq X so' s.sk.length sc _ ((zq.out.blk.cell 11).trans ((aO _ _ _ _ hd8).trans (by rw[yV.out])))).mono ?_
   rintro e w' ⟨rfl,rfl⟩
   refine⟨_,rfl,zq.out,?_⟩
   refine wpAnyH_all (rs:=[15,17]) (by kernel_rfl) (by simp) (fun i hi=>?_)
   rcases List.mem_cons.1 hi with rfl | hi
   ·refine dF (f:=25) (args:=#[.pointer (some ⟨X,0,none⟩)]) (w':=W.drew) rfl (by kernel_rfl) (by kernel_rfl) ?_
    refine(nD X _ s.d _ s.l _ zq.out.blk hd8).mono ?_
    rw[Em.out];rintro e w' ⟨rfl,rfl⟩
    refine⟨_,rfl,zq.out,?_⟩
    refine wpAnyH_take (i:=16) (v:=.agg #[.int .i64 (zs.length:Int),.int .i64 (s.ts.length:Int),.int .i64 (s.sk.length:Int),.bool dead,.int .i64 0,.int .i64 0]) rfl (by kernel_rfl) (by kernel_rfl) (by kernel_rfl) (fun _ _ _ h=>h) (.inl ⟨by kernel_rfl,fun w'' hS=>by kernel_rfl⟩) zq.out ?_
    refine wpAnyH_all (rs:=[17]) (by kernel_rfl) (by simp) (fun i hi=>?_)
    obtain rfl:i=17:=by simpa using hi
    refine aA (v:=.pointer (some ⟨W.heap.size,0,none⟩)) (w':=Y) rfl (by kernel_rfl) ?_ ⟨Us.out,?_⟩
    ·rw[HY.out];kernel_rfl
    refine wpAnyH_all (rs:=[18]) (by kernel_rfl) (by simp) (fun i hi=>?_)
    obtain rfl:i=18:=by simpa using hi
    refine dw (w':=_) rfl (by kernel_rfl) ?_ ⟨HM8.out,wpAnyH_done (by kernel_rfl) ?_ _⟩
    ·clear hK0 hcb;simp only[Act.put,bQ,bW,bU,eH,eY,fC];go_simp
    simp only[Act.put,bQ,bW,bU,eH,eY,fC];go_wp2_with fail
    go_meet
    case rel=>exact⟨W.heap.size,rfl,HB8.out,HF8.out,by have:=NC.out.lt;omega⟩
   ·obtain rfl:i=17:=by simpa using hi
    refine aA (v:=.pointer (some ⟨W.heap.size,0,none⟩)) (w':=Y) rfl (by kernel_rfl) ?_ ⟨Us.out,?_⟩
    ·rw[HY.out];kernel_rfl
    refine wpAnyH_all (rs:=[15]) (by kernel_rfl) (by simp) (fun i hi=>?_)
    obtain rfl:i=15:=by simpa using hi
    refine dF (f:=25) (args:=#[.pointer (some ⟨X,0,none⟩)]) (w':=Y) rfl (by kernel_rfl) (by kernel_rfl) ?_
    refine(nD X _ s.d _ s.l _ Us.out.blk hd8).mono ?_
    rw[Em.out];rintro e w' ⟨rfl,hw'⟩
    rw[hw'];refine⟨_,rfl,Us.out,?_⟩
    refine wpAnyH_take (i:=16) (v:=.agg #[.int .i64 (zs.length:Int),.int .i64 (s.ts.length:Int),.int .i64 (s.sk.length:Int),.bool dead,.int .i64 0,.int .i64 0]) rfl (by kernel_rfl) (by kernel_rfl) (by kernel_rfl) (fun _ _ _ h=>h) (.inl ⟨by kernel_rfl,fun w'' hS=>by kernel_rfl⟩) Us.out ?_
    refine wpAnyH_all (rs:=[18]) (by kernel_rfl) (by simp) (fun i hi=>?_)
    obtain rfl:i=18:=by simpa using hi
    refine dw (w':=_) rfl (by kernel_rfl) ?_ ⟨HM8.out,wpAnyH_done (by kernel_rfl) ?_ _⟩
    ·clear hK0 hcb;simp only[Act.put,bQ,bW,bU,eH,eY,fC];go_simp
    simp only[Act.put,bQ,bW,bU,eH,eY,fC];go_wp2_with fail
    go_meet
    case rel=>exact⟨W.heap.size,rfl,HB8.out,HF8.out,by have:=NC.out.lt;omega⟩
  ·obtain rfl:i=17:=by simpa using hi
   refine aA (v:=.pointer (some ⟨W.heap.size,0,none⟩)) (w':=Y) rfl (by kernel_rfl) ?_ ⟨Us.out,?_⟩
   ·rw[HY.out];kernel_rfl
   refine wpAnyH_all (rs:=[13]) (by kernel_rfl) (by simp) (fun i hi=>?_)
   obtain rfl:i=13:=by simpa using hi
   refine dF (f:=24) (args:=#[.pointer (some ⟨X,10,none⟩)]) (w':=Y) rfl (by kernel_rfl) (by kernel_rfl) ?_
   refine(iq X so' s.sk.length sc _ ((Us.out.blk.cell 11).trans ((aO _ _ _ _ hd8).trans (by rw[yV.out])))).mono ?_
   rintro e w' ⟨rfl,hw'⟩
   rw[hw'];refine⟨_,rfl,Us.out,?_⟩
   refine wpAnyH_all (rs:=[15]) (by kernel_rfl) (by simp) (fun i hi=>?_)
   obtain rfl:i=15:=by simpa using hi
   refine dF (f:=25) (args:=#[.pointer (some ⟨X,0,none⟩)]) (w':=Y) rfl (by kernel_rfl) (by kernel_rfl) ?_
   refine(nD X _ s.d _ s.l _ Us.out.blk hd8).mono ?_
   rw[Em.out];rintro e w' ⟨rfl,hw'⟩
   rw[hw'];refine⟨_,rfl,Us.out,?_⟩
   refine wpAnyH_take (i:=16) (v:=.agg #[.int .i64 (zs.length:Int),.int .i64 (s.ts.length:Int),.int .i64 (s.sk.length:Int),.bool dead,.int .i64 0,.int .i64 0]) rfl (by kernel_rfl) (by kernel_rfl) (by kernel_rfl) (fun _ _ _ h=>h) (.inl ⟨by kernel_rfl,fun w'' hS=>by kernel_rfl⟩) Us.out ?_
   refine wpAnyH_all (rs:=[18]) (by kernel_rfl) (by simp) (fun i hi=>?_)
   obtain rfl:i=18:=by simpa using hi
   refine dw (w':=_) rfl (by kernel_rfl) ?_ ⟨HM8.out,wpAnyH_done (by kernel_rfl) ?_ _⟩
   ·clear hK0 hcb;simp only[Act.put,bQ,bW,bU,eH,eY,fC];go_simp
   simp only[Act.put,bQ,bW,bU,eH,eY,fC];go_wp2_with fail
   go_meet
   case rel=>exact⟨W.heap.size,rfl,HB8.out,HF8.out,by have:=NC.out.lt;omega⟩
 case rest=>
  obtain⟨L,rfl,HB,HF,hL⟩:=hcut;have hMc:=HM.out.nw HF.out;obtain⟨c0,c1,c2,c3,c4,c5,c6,c7⟩:=vX hMc.blk Hdv.out;have HMc:=hd hMc;have HRc:=hd (NC.out.nw HF.out);clear hMc hcb;go_wp2_with fail
  rw[<-Hdv.out];have hL0:w.heap.size≠L:=by omega
  clear c0 c1 c2 c3 c4 c5 c6 c7;go_loopw [32] (fun i wr=>∃k:Nat,k<=8/\i= .int .i64 k/\Hid (af wr L #[.int .i64 (zs.length:Int),.int .i64 (s.ts.length:Int),.int .i64 (s.sk.length:Int),.bool dead,.int .i64 (jQ s.d k:Int),.int .i64 (lZ s.d k:Int)] 110)/\Hid (Fr (fun k=>k=L) wc wr)) (fun i _=>8-(intOf i).toNat)
  case atStart=>exact⟨0,by omega,rfl,HB.out,Fr.refl _ _⟩
  case round=>
   obtain⟨k,hk,rfl,uM,HFk⟩:=hrel;by_cases hk8:k<8
   ·have afa:=HH.out.good.dm.lt k;have hget:=fun W=>Z8 s.d hd8 k hk8 W
    have hl1:=Ei s.d k;have hl2:=Um s.d k;have hls:=oI s.d k;have hfs:=uZ s.d k;have hp8:=NY (s.d.getD k 0);obtain⟨x,hx⟩:∃x,s.d.getD k 0=x:=⟨_,rfl⟩;rw[hx] at afa hget hls hfs hp8;obtain⟨lf,hlf⟩:∃lf,jQ s.d k=lf:=⟨_,rfl⟩;obtain⟨fx,hfx⟩:∃fx,lZ s.d k=fx:=⟨_,rfl⟩;rw[hlf] at hl1 hls;rw[hfx] at hl2 hfs;have hb1:=uM.out;rw[hlf,hfx] at hb1;have hc4:wr.cell? ⟨L,4,none⟩=some (.int .i64 (lf:Int)):=hb1.cell 4
    have hfz:=hb1.free;have HB1:=hd hb1;have Hls:=hd hls;have Hfs:=hd hfs;have Hx:=hd hx;clear hb1 hls hfs hx hlf hfx uM;obtain⟨pn,hpn⟩:∃pn,pop x=pn:=⟨_,rfl⟩;have Hpn:=hd hpn;rw[hpn] at hp8;clear hpn;go_upto_region 7 with fail
    go_still_tail 6,(by kernel_rfl)
    refine still_call (f:=48) (args:=#[.int .u8 (x:Int)]) (.int .i64 (pn:Int)) (by kernel_rfl) (by kernel_rfl) (by have:=len_any x wr.drew (by omega);rw[Hpn.out] at this;exact this) ?_
    simp only[Act.put,bQ,bW,bU];repeat still_step
    refine wpStill_nil ?_
    rw[show ({heap:=wr.heap,tape:=wr.tape,drawn:=wr.drawn+1,os:=wr.os,output:=wr.output}:World)=wr.drew from rfl]
    have hc5:wr.cell? ⟨L,5,none⟩=some (.int .i64 (fx:Int)):=HB1.out.cell 5
    have hlast:Hid (jQ s.d (k+1)=lf+pn):=by show _=_;rw[Hls.out,Hpn.out]
    clear hget;by_cases h1:pn=1
    ·have hfl:Hid (lZ s.d (k+1)=fx+1):=by show _=_;rw[Hfs.out,Hpn.out,if_pos h1]
     subst h1;go_wp2_with (go_at_call 48;refine(len_any x _ (by omega)).mono ?_;rw[Hpn.out];rintro e w' ⟨rfl,rfl⟩)
     refine⟨⟨k+1,by omega,by go_num,?_,?_⟩,by simp[intOf];omega⟩
     ·show af _ L _ _
      rw[hlast.out,hfl.out];exact(HB1.out.set 4 (.int .i64 ((lf:Int)+1))).set 5 (.int .i64 ((fx:Int)+1))
     ·exact((HFk.out.setCell ⟨L,4,none⟩ (.int .i64 ((lf:Int)+1)) (.inl rfl)).setCell ⟨L,5,none⟩ (.int .i64 ((fx:Int)+1)) (.inl rfl)).drew
    ·have hfl:Hid (lZ s.d (k+1)=fx):=by show _=_;rw[Hfs.out,Hpn.out,if_neg h1];rfl
     have h1':((pn:Int)==1)=false:=by simp;omega
     go_wp2_with (go_at_call 48;refine(len_any x _ (by omega)).mono ?_;rw[Hpn.out];rintro e w' ⟨rfl,rfl⟩)
     refine⟨⟨k+1,by omega,by go_num,?_,?_⟩,by simp[intOf];omega⟩
     ·show af _ L _ _
      rw[hlast.out,hfl.out];exact HB1.out.set 4 (.int .i64 ((lf:Int)+(pn:Int)))
     ·exact(HFk.out.setCell ⟨L,4,none⟩ (.int .i64 ((lf:Int)+(pn:Int))) (.inl rfl)).drew
   ·obtain rfl:k=8:=by omega
    obtain⟨lf,hlf⟩:∃lf,jQ s.d 8=lf:=⟨_,rfl⟩;obtain⟨fx,hfx⟩:∃fx,lZ s.d 8=fx:=⟨_,rfl⟩;have hb1:=uM.out;rw[hlf,hfx] at hb1;have k0:wr.cell? ⟨L,0,none⟩=some (.int .i64 (zs.length:Int)):=hb1.cell 0
    have k1:wr.cell? ⟨L,1,none⟩=some (.int .i64 (s.ts.length:Int)):=hb1.cell 1
    have k2:wr.cell? ⟨L,2,none⟩=some (.int .i64 (s.sk.length:Int)):=hb1.cell 2
    have k3:wr.cell? ⟨L,3,none⟩=some (.bool dead):=hb1.cell 3
    have k4:wr.cell? ⟨L,4,none⟩=some (.int .i64 (lf:Int)):=hb1.cell 4
    have k5:wr.cell? ⟨L,5,none⟩=some (.int .i64 (fx:Int)):=hb1.cell 5
    have hR:=HRc.out.fr HFk.out hL0;have r0:wr.cell? ⟨w.heap.size,0,none⟩=some (.int .i64 0):=hR.cell 0
    have r1:wr.cell? ⟨w.heap.size,1,none⟩=some (.int .i64 0):=hR.cell 1
    have r2:wr.cell? ⟨w.heap.size,2,none⟩=some (.int .i64 0):=hR.cell 2
    have r3:wr.cell? ⟨w.heap.size,3,none⟩=some (.bool false):=hR.cell 3
    have r4:wr.cell? ⟨w.heap.size,4,none⟩=some (.int .i64 0):=hR.cell 4
    have r5:wr.cell? ⟨w.heap.size,5,none⟩=some (.int .i64 0):=hR.cell 5
    have hfR:=hR.free;have HR:=hd hR;have Hlf:=hd hlf;have Hfx:=hd hfx;clear hb1 hR hlf hfx;go_wp2
    have Yx:Nw w wr:=(KQ.out.trans HF.out (fun i h=>h.elim)).trans HFk.out (fun i hi=>.inr (by show w.heap.size<=i;have e:i=L:=hi;omega))
    have hB:=((((((HR.out.set 0 (.int .i64 (zs.length:Int))).set 1 (.int .i64 (s.ts.length:Int))).set 2 (.int .i64 (s.sk.length:Int))).set 3 (.bool dead)).set 4 (.int .i64 (lf:Int))).set 5 (.int .i64 (fx:Int)));have z0:=hB.cell 0;have z1:=hB.cell 1;have z2:=hB.cell 2;have z3:=hB.cell 3;have z4:=hB.cell 4;have z5:=hB.cell 5;refine bodyPost_ret (v:=.agg (Uo zs s)) ?_ rfl ⟨rfl,(((((Yx.setCell _ _ (.inr (Nat.le_refl _))).setCell _ _ (.inr (Nat.le_refl _))).setCell _ _ (.inr (Nat.le_refl _))).setCell _ _ (.inr (Nat.le_refl _))).setCell _ _ (.inr (Nat.le_refl _))).setCell _ _ (.inr (Nat.le_refl _))⟩
    simp only[Uo,Em.out,Hlf.out,Hfx.out];simp[results,Tryz.results59,go_sem,z0,z1,z2,z3,z4,z5,BF]
def YK (zs:List Int) (az:Value):WS:=⟨az,fM zs zs.length,none,0,vS,[],[],[],[]⟩
theorem ve (zs:List Int) (_:zs.length<=8) (q:Nat):(fM zs zs.length).getD q 0=if q<zs.length then 2^(zs.getD q 0).toNat-1 else 0:=by
 simp only[fM,List.take_length];by_cases h:q<zs.length
 ·rw[if_pos h];simp[List.getD,List.getElem?_append_left,h]
 ·rw[if_neg h];simp only[List.getD];rw[List.getElem?_append_right (by simp;omega)]
  simp only[List.getElem?_replicate]
  split <;> rfl
theorem N7 {zs:List Int} (h:di zs=true):Dm (fM zs zs.length):=by
 obtain⟨h0,h8⟩:=aF h;refine⟨oK zs _ (Nat.le_refl _) h8,fun q=>?_⟩
 rw[ve zs h8];split
 ·rename_i hq;have:=fJ h q hq
  have hp:2^(zs.getD q 0).toNat<=2^6:=Nat.pow_le_pow_right (by omega) (by omega)
  omega
 ·omega
theorem En {zs:List Int} (h:di zs=true):Full zs.length (fM zs zs.length):=by
 obtain⟨h0,h8⟩:=aF h;intro q hq;rw[ve zs h8,if_pos hq];have:=fJ h q hq
 have hp:2^1<=2^(zs.getD q 0).toNat:=Nat.pow_le_pow_right (by omega) (by omega)
 omega
theorem N8 {w:World} {X:Nat} {zs:List Int} {az:Value} (hok:di zs=true) (hB:af w X (ah az (fM zs zs.length) (.slice none 0 0) vS) 66) (hr:Row w az 3 (zs.map (Value.int .i64))):iM w X zs (YK zs az):=by
 have hi:∀{p:Prop} {i:Nat},i<([]:List Tab).length->p:=fun h=>absurd h (Nat.not_lt_zero _)
 refine⟨⟨hB,hr,hok,⟨Row.nil _ _,fun i h=>hi h,fun i h=>hi h,fun i h=>hi h⟩,fun i j h=>hi h,Nat.zero_le _,⟨rfl,fun k h=>absurd h (Nat.not_lt_zero _)⟩,fun k h=>absurd h (Nat.not_lt_zero _),⟨Row.nil _ _,Row.nil _ _⟩,fun u hu=>(by cases hu),fun k hk=>(by cases hk)⟩,
  ⟨N7 hok,dN.refl _,.inr (En hok),fun b hb=>(by cases hb),rfl,fun k h=>absurd h (Nat.not_lt_zero _)⟩,?_,rfl,Nat.zero_le _⟩
 show 0+900*bitsOf (fM zs zs.length)<=57600
 have:=wX (fM zs zs.length)
 omega
theorem xe {X k:Nat} {zs:List Int} {az:Value} (h:(YK zs az).own X k):k=X\/az.ownBlock=some k:=by
 rcases h with h | h | h | ⟨i,hi,_⟩ | h | h | ⟨u,hu,_⟩
 ·exact .inl h
 ·exact .inr h
 ·cases h
 ·exact absurd hi (Nat.not_lt_zero _)
 ·cases h
 ·cases h
 ·cases hu
theorem gq.blk {w w':World} {X:Nat} {s s':WS} (h:gq w w' X s s') {g:Nat} {cur:Array Value} {e:TypeId} (hb:af w g cur e) (hn:¬s.own X g):af w' g cur e/\¬s'.own X g:=
 ⟨hb.fr h.fr hn,fun hs=>(h.grow g hs).elim hn (fun h'=>absurd hb.lt (by omega))⟩
def Since (w0:World) (X:Nat) (s:WS):Prop:=∀k,s.own X k->w0.heap.size<=k
theorem gq.since {w0 w w':World} {X:Nat} {s s':WS} (h:gq w w' X s s') (hs:Since w0 X s) (hf:Nw w0 w):Since w0 X s'/\Nw w0 w':=
 ⟨fun k hk=>(h.grow k hk).elim (hs k) (fun h'=>Nat.le_trans hf.size h'),hf.trans h.fr (fun i hi=>.inr (hs i hi))⟩
theorem Row.put {w:World} {g n cap:Nat} {e:TypeId} {xs:List Value} (h:Row w (.slice (some ⟨g,0,none⟩) n cap) e xs) (i:Nat) (x:Value):Row (w.setCell ⟨g,i,none⟩ x) (.slice (some ⟨g,0,none⟩) n cap) e (xs.set i x):=by
 have hl:=h.1;rcases h.2 with ⟨hv,_⟩ | ⟨g',cap',cur,hv,h0,hg,h1,h2,h3,h4⟩
 ·cases hv
 ·simp only[Value.slice.injEq,Option.some.injEq,Addr.mk.injEq,and_true] at hv;obtain⟨rfl,rfl,rfl⟩:=hv;refine⟨by simp,.inr ⟨g,cap,cur.setIfInBounds i x,by rw[List.length_set],h0,af.set (h:=hg) i x,by rw[List.length_set];exact h1,h2,by simp[h3],?_⟩⟩
  rw[List.length_set,Array.toList_setIfInBounds,List.take_set,h4]
structure pV (w:World) (lo Y:Nat) (zs:List Int) (az inv:Value) (vs:List Value) (bss:List (List Bool)) (dead:Bool) (tv lv:Value):Prop where
 blk:af w Y #[az,inv,.bool dead,tv,lv] 83
 sz:Row w az 3 (zs.map (Value.int .i64))
 wW:Row w inv 84 vs
 rows:eP w lo vs bss
 len:bss.length=zs.length
 each:∀u,u<zs.length->(bss.getD u []).length=(zs.getD u 0).toNat
 lJ:di zs=true
 IM:∀k,az.ownBlock=some k->lo<=k
 yK:∀k,inv.ownBlock=some k->lo<=k
 YL:lo<=Y
theorem Row.bools {w:World} {ao:Option Addr} {cap:Nat} {bs:List Bool} (h:Row w (.slice ao bs.length cap) 4 (bs.map Value.bool)):wR w ao bs:=fun v hv=>by
 obtain⟨g,c,he,hb,hc,_⟩:=h.cell v (by rw[List.length_map];exact hv)
 simp only[Value.slice.injEq] at he;obtain⟨rfl,_⟩:=he;refine⟨g,0,rfl,h.lt hb,?_⟩
 rw[Nat.zero_add,hc];simp[List.getD,hv]
theorem pV.LM {w:World} {lo Y:Nat} {zs:List Int} {az inv:Value} {vs:List Value} {bss:List (List Bool)} {dead:Bool} {tv lv:Value} (h:pV w lo Y zs az inv vs bss dead tv lv):bss.length<=8:=by
 rw[h.len];exact(aF h.lJ).2
theorem pV.b6 {w:World} {lo Y:Nat} {zs:List Int} {az inv:Value} {vs:List Value} {bss:List (List Bool)} {dead:Bool} {tv lv:Value} (h:pV w lo Y zs az inv vs bss dead tv lv) (u:Nat) (hu:u<bss.length):(bss.getD u []).length<=6:=by
 rw[h.each u (by rw[<-h.len];exact hu)]
 have:=(fJ h.lJ u (by rw[<-h.len];exact hu)).2
 omega
theorem pV.row {w:World} {lo Y:Nat} {zs:List Int} {az inv:Value} {vs:List Value} {bss:List (List Bool)} {dead:Bool} {tv lv:Value} (h:pV w lo Y zs az inv vs bss dead tv lv) (u:Nat) (hu:u<bss.length):∃g cap,vs.getD u aZ= .slice (some ⟨g,0,none⟩) (bss.getD u []).length cap/\Row w (.slice (some ⟨g,0,none⟩) (bss.getD u []).length cap) 4 ((bss.getD u []).map Value.bool)/\lo<=g:=by
 have hr:=h.rows.row u hu;have h1:=(fJ h.lJ u (by rw[<-h.len];exact hu)).1
 have hl:=h.each u (by rw[<-h.len];exact hu)
 rcases hr.2 with ⟨hv,h0⟩ | ⟨g,cap,cur,hv,_⟩
 ·rw[List.length_map] at h0;omega
 ·rw[List.length_map] at hv;refine⟨g,cap,hv,by rw[<-hv];exact hr,h.rows.lo u hu g (by rw[hv];rfl)⟩
theorem pV.BG {w:World} {lo Y:Nat} {zs:List Int} {az inv:Value} {vs:List Value} {bss:List (List Bool)} {dead:Bool} {tv lv:Value} (h:pV w lo Y zs az inv vs bss dead tv lv):∃io icap,inv= .slice io bss.length icap/\qE w io bss/\w.cell? ⟨Y,1,none⟩=some (.slice io bss.length icap):=by
 obtain⟨io,icap,hf,_⟩:=h.wW.form;rw[h.rows.len] at hf;refine⟨io,icap,hf,fun u hu=>?_,by rw[<-hf];exact h.blk.cell 1⟩
 obtain⟨g,c,he,hb,hc,_⟩:=h.wW.cell u (by rw[h.rows.len];exact hu)
 obtain⟨q,qc,hq,hrow,_⟩:=h.row u hu;rw[hf] at he;simp only[Value.slice.injEq] at he;obtain⟨rfl,_⟩:=he;refine⟨g,0,some ⟨q,0,none⟩,qc,rfl,h.wW.lt hb,?_,hrow.bools⟩
 rw[Nat.zero_add,hc,<-hq];simp[List.getD,h.rows.len,hu]
theorem pV.nw {w w':World} {lo Y:Nat} {zs:List Int} {az inv:Value} {vs:List Value} {bss:List (List Bool)} {dead:Bool} {tv lv:Value} (h:pV w lo Y zs az inv vs bss dead tv lv) (f:Nw w w'):pV w' lo Y zs az inv vs bss dead tv lv:=
 ⟨h.blk.nw f,h.sz.nw f,h.wW.nw f,h.rows.fr f (fun _ _ x=>x.elim),h.len,h.each,h.lJ,h.IM,h.yK,h.YL⟩
theorem iY {α:Type} (l:List α) (u q:Nat) (x d:α) (hu:u<l.length):(l.set u x).getD q d=if u=q then x else l.getD q d:=by
 by_cases e:u=q
 ·subst e;simp[List.getD,hu]
 ·simp[List.getD,e]
def kT (bss:List (List Bool)) (u v:Nat):List (List Bool):=bss.set u ((bss.getD u []).set v false)
theorem IP (bss:List (List Bool)) (u v q x:Nat) (hu:u<bss.length):((kT bss u v).getD q []).getD x false=if u=q/\v=x then false else (bss.getD q []).getD x false:=by
 unfold kT;rw[iY _ _ _ _ _ hu];by_cases e:u=q
 ·subst e;rw[if_pos rfl];by_cases hv:v<(bss.getD u []).length
  ·rw[iY _ _ _ _ _ hv];by_cases e2:v=x
   ·simp[e2]
   ·simp[e2]
  ·rw[List.set_eq_of_length_le (by omega)]
   by_cases e2:v=x
   ·subst e2;rw[if_pos ⟨rfl,rfl⟩];simp only[List.getD];rw[List.getElem?_eq_none (by simpa[List.getD] using hv)]
    rfl
   ·simp[e2]
 ·simp[e]
theorem pV.off {w:World} {lo Y:Nat} {zs:List Int} {az inv:Value} {vs:List Value} {bss:List (List Bool)} {dead:Bool} {tv lv:Value} (h:pV w lo Y zs az inv vs bss dead tv lv) (u v g n cap:Nat) (hu:u<bss.length) (hg:vs.getD u aZ= .slice (some ⟨g,0,none⟩) n cap):
  pV (w.setCell ⟨g,v,none⟩ (.bool false)) lo Y zs az inv vs (kT bss u v) dead tv lv:=by
 have hr:=h.rows.row u hu;have hf:Fr (fun k=>k=g) w (w.setCell ⟨g,v,none⟩ (.bool false)):=(Fr.refl _ w).setCell _ _ (.inl rfl)
 obtain⟨cur,hb,_⟩:=hr.blk (k:=g) (by rw[hg];rfl)
 have hYg:Y≠g:=fun e=>by
  have h1:=h.blk;rw[e] at h1;exact absurd (h1.inj hb).2 (by decide)
 refine⟨h.blk.fr hf hYg,h.sz.fr hf (fun k hk e=>?_),h.wW.fr hf (fun k hk e=>?_),⟨?_,fun i hi=>?_,?_,?_⟩,?_,fun q hq=>?_,h.lJ,h.IM,h.yK,h.YL⟩
 ·rw[e] at hk;exact h.sz.ne hb (by decide) hk
 ·rw[e] at hk;exact h.wW.ne hb (by decide) hk
 ·rw[h.rows.len];simp[kT]
 ·have hi':i<bss.length:=by simpa[kT] using hi
  by_cases e:u=i
  ·subst e;have h1:=hr;rw[hg] at h1 ⊢;have h2:=h1.put v (.bool false);have e2:(kT bss u v).getD u []=(bss.getD u []).set v false:=by
    unfold kT;rw[iY _ _ _ _ _ hu,if_pos rfl]
   rw[e2,List.map_set];exact h2
  ·have e2:(kT bss u v).getD i []=bss.getD i []:=by
    unfold kT;rw[iY _ _ _ _ _ hu,if_neg e]
   rw[e2];refine(h.rows.row i hi').fr hf (fun k hk e3=>?_)
   rw[e3] at hk;have hug:(vs.getD u aZ).ownBlock=some g:=by rw[hg];rfl
   rcases Nat.lt_or_gt_of_ne e with h3 | h3
   ·exact h.rows.ne u i h3 hi' g hug hk
   ·exact h.rows.ne i u h3 hu g hk hug
 ·intro i j hij hj;exact h.rows.ne i j hij (by simpa[kT] using hj)
 ·intro i hi;exact h.rows.lo i (by simpa[kT] using hi)
 ·rw[<-h.len];simp[kT]
 ·unfold kT;rw[iY _ _ _ _ _ hu];split
  ·rename_i e;rw[List.length_set,e];exact h.each q hq
  ·exact h.each q hq
def dR (bss:List (List Bool)):List Nat:=(List.range 8).map (fun q=>oO (fun v=>(bss.getD q []).getD v false))
theorem BH (bss:List (List Bool)) (q:Nat) (hq:q<8):(dR bss).getD q 0=oO (fun v=>(bss.getD q []).getD v false):=by simp[dR,List.getD,hq]
theorem kK (bss:List (List Bool)):Dm (dR bss):=⟨by simp[dR],fun q=>by
 by_cases hq:q<8
 ·rw[BH _ _ hq];exact yB _
 ·have:(dR bss).getD q 0=0:=by
   simp only[List.getD];rw[List.getElem?_eq_none (by simp[dR];omega)]
   rfl
  rw[this];decide⟩
theorem dH (bss:List (List Bool)) (h8:bss.length<=8) (h6:∀u,u<bss.length->(bss.getD u []).length<=6) (q v:Nat):((dR bss).getD q 0).testBit v=(bss.getD q []).getD v false:=by
 by_cases hq:q<bss.length
 ·rw[BH _ _ (by omega)]
  by_cases hv:v<6
  ·exact uQ _ v hv
  ·have h1:(oO (fun v=>(bss.getD q []).getD v false)).testBit v=false:=Nat.testBit_lt_two_pow (Nat.lt_of_lt_of_le (yB _) (Nat.le_trans (show 64<=2^6 by decide) (Nat.pow_le_pow_right (by omega) (by omega))))
   rw[h1];simp only[List.getD];have:=h6 q hq
   rw[List.getElem?_eq_none (by simpa[List.getD] using(by omega:(bss.getD q []).length<=v))]
   rfl
 ·have e:bss.getD q []=[]:=by
   simp only[List.getD];rw[List.getElem?_eq_none (by omega)]
   rfl
  rw[e];by_cases h8':q<8
  ·rw[BH _ _ h8',e];have:oO (fun v=>([]:List Bool).getD v false)=0:=by decide
   rw[this];simp
  ·have:(dR bss).getD q 0=0:=by
    simp only[List.getD];rw[List.getElem?_eq_none (by simp[dR];omega)]
    rfl
   rw[this];simp
theorem Xo {E:qF} (h8:E.bss.length<=8) (h6:∀u,u<E.bss.length->(E.bss.getD u []).length<=6) (hp:E.place<E.vars.length):E.Ex []↔uP E.vars E.rows E.nt (dR E.bss) E.place E.value:=by
 constructor
 ·rintro⟨L,h1,_,h3,h4,h5⟩
  refine⟨L,⟨h1,fun q hq=>?_⟩,h4 (Nat.zero_le _) hp,(ja _ _ _).1 h5⟩
  rw[dH _ h8 h6];exact h3 q (Nat.zero_le _) hq
 ·rintro⟨L,⟨h1,h2⟩,h3,h4⟩
  refine⟨L,h1,List.nil_prefix,fun q _ hq=>?_,fun _ _=>h3,(ja _ _ _).2 h4⟩
  have:=h2 q hq
  rw[dH _ h8 h6] at this;exact this
structure vg (bs:List Tb) (d0 d:List Nat):Prop where
 sub:dN d d0
 most:∀e,dN e d0->(∀b∈bs,dP b e)->dN e d
theorem vg.refl (bs:List Tb) (d:List Nat):vg bs d d:=⟨dN.refl d,fun _ h _=>h⟩
theorem vg.off {bs:List Tb} {d0 d d':List Nat} {b:Tb} {i v:Nat} (h:vg bs d0 d) (hb:b∈bs) (hi:i<b.vars.length) (hn:¬uP b.vars b.rows b.nt d i v) (hd':∀q x,(d'.getD q 0).testBit x=true↔(d.getD q 0).testBit x=true/\¬(q=(b.vars.getD i 0).toNat/\x=v)):vg bs d0 d':=by
 refine⟨fun q x hx=>h.sub q x ((hd' q x).1 hx).1,fun e he hs q x hx=>(hd' q x).2 ⟨h.most e he hs q x hx,?_⟩⟩
 rintro⟨rfl,rfl⟩
 exact hn ((hs b hb i x hi hx).mono (h.most e he hs))
theorem aN {α:Type} (l:List α) (x:Nat) (d:α) (h:x<l.length):l.getD x d=l[x]:=by simp[List.getD,h]
def Ut (w:World) (v:Value):List Value:=match v with
 | .slice (some a) n _=>match w.heap[a.block]? with
  | some (.cells cur _ _)=>cur.toList.take n
  | _=>[]
 | _=>[]
theorem N9 {w:World} {v:Value} {e:TypeId} {xs:List Value} (h:Row w v e xs):Ut w v=xs:=by
 rcases h.2 with ⟨rfl,h0⟩ | ⟨g,cap,cur,rfl,_,hg,_,_,_,h4⟩
 ·rw[List.eq_nil_of_length_eq_zero h0];rfl
 ·unfold Ut;simp only[hg];simpa using h4
def isTrue:Value->Bool
 | .bool b=>b
 | _=>false
def Uu (w:World) (Y:Nat):List (List Bool):=match w.heap[Y]? with
 | some (.cells cur _ _)=>(Ut w (cur.getD 1 undef)).map (fun v=>(Ut w v).map isTrue)
 | _=>[]
theorem IQ {w:World} {lo Y:Nat} {zs:List Int} {az inv:Value} {vs:List Value} {bss:List (List Bool)} {dead:Bool} {tv lv:Value} (h:pV w lo Y zs az inv vs bss dead tv lv):Uu w Y=bss:=by
 have hb:w.heap[Y]? = some (.cells #[az,inv,.bool dead,tv,lv] 83 (0,0)):=h.blk
 unfold Uu;rw[hb];show (Ut w inv).map _=bss
 rw[N9 h.wW];refine List.ext_getElem (by rw[List.length_map,h.rows.len]) fun u hu1 hu2=>?_
 have hr:=N9 (h.rows.row u hu2);have e1:vs.getD u aZ=vs[u]'(by rw[h.rows.len];exact hu2):=by simp[List.getD,h.rows.len,hu2]
 have e2:bss.getD u []=bss[u]:=by simp[List.getD,hu2]
 rw[e1,e2] at hr;rw[List.getElem_map,hr,List.map_map];have:isTrue∘Value.bool=id:=rfl
 rw[this,List.map_id]
structure jO where
 tb:Tb
 way:Int
def jk:jO:=⟨⟨[],[],false⟩,0⟩
structure nO (W w:World) (tv:Value) (ts:List jO):Prop where
 form:∃lo cap,tv= .slice lo ts.length cap
 cell:∀i,i<ts.length->∃g cap vo ak ro au,tv= .slice (some ⟨g,0,none⟩) ts.length cap/\g<w.heap.size /\
  w.cell? ⟨g,i*4,none⟩=some (.slice vo (ts.getD i jk).tb.vars.length ak)/\w.cell? ⟨g,i*4+1,none⟩=some (.slice ro (ts.getD i jk).tb.rows.length au)/\w.cell? ⟨g,i*4+2,none⟩=some (.bool (ts.getD i jk).tb.nt)/\w.cell? ⟨g,i*4+3,none⟩=some (.int .i64 (ts.getD i jk).way) /\
  ax W vo (ts.getD i jk).tb.vars/\dW W ro (ts.getD i jk).tb.rows
theorem nO.fr {S:Nat->Prop} {W w w':World} {tv:Value} {ts:List jO} (h:nO W w tv ts) (f:Fr S w w') (hn:∀k,tv.ownBlock=some k->¬S k):nO W w' tv ts:=
 ⟨h.form,fun i hi=>by
  obtain⟨g,cap,vo,ak,ro,au,h1,h2,c0,c1,c2,c3,h3,h4⟩:=h.cell i hi;have hg:¬S g:=hn g (by rw[h1];rfl)
  exact⟨g,cap,vo,ak,ro,au,h1,Nat.lt_of_lt_of_le h2 f.size,(f.cell h2 hg).trans c0,(f.cell h2 hg).trans c1,(f.cell h2 hg).trans c2,(f.cell h2 hg).trans c3,h3,h4⟩⟩
structure J3 (bs:List Tb) (d:List Nat) (k i v:Nat):Prop where
 tabs:∀k',k'<k->dP (bs.getD k' tb0) d
 Z9:∀i' x,i'<i->i'<(bs.getD k tb0).vars.length->(d.getD ((bs.getD k tb0).vars.getD i' 0).toNat 0).testBit x=true->uP (bs.getD k tb0).vars (bs.getD k tb0).rows (bs.getD k tb0).nt d i' x
 vals:∀x,x<v->(d.getD ((bs.getD k tb0).vars.getD i 0).toNat 0).testBit x=true->uP (bs.getD k tb0).vars (bs.getD k tb0).rows (bs.getD k tb0).nt d i x
theorem J3.start (bs:List Tb) (d:List Nat):J3 bs d 0 0 0:=⟨fun _ h=>absurd h (Nat.not_lt_zero _),fun _ _ h=>absurd h (Nat.not_lt_zero _),fun _ h=>absurd h (Nat.not_lt_zero _)⟩
theorem J3.value {bs:List Tb} {d:List Nat} {k i v:Nat} (h:J3 bs d k i v) (hv:(d.getD ((bs.getD k tb0).vars.getD i 0).toNat 0).testBit v=true->uP (bs.getD k tb0).vars (bs.getD k tb0).rows (bs.getD k tb0).nt d i v):J3 bs d k i (v+1):=
 ⟨h.tabs,h.Z9,fun x hx hb=>by
  by_cases e:x=v
  ·subst e;exact hv hb
  ·exact h.vals x (by omega) hb⟩
theorem J3.entry {bs:List Tb} {d:List Nat} {k i n:Nat} (h:J3 bs d k i n) (hn:∀x,(d.getD ((bs.getD k tb0).vars.getD i 0).toNat 0).testBit x=true->x<n):J3 bs d k (i+1) 0:=
 ⟨h.tabs,fun i' x hi hl hb=>by
  by_cases e:i'=i
  ·subst e;exact h.vals x (hn x hb) hb
  ·exact h.Z9 i' x (by omega) hl hb,fun _ h=>absurd h (Nat.not_lt_zero _)⟩
theorem J3.table {bs:List Tb} {d:List Nat} {k:Nat} (h:J3 bs d k (bs.getD k tb0).vars.length 0):J3 bs d (k+1) 0 0:=
 ⟨fun k' hk'=>by
  by_cases e:k'=k
  ·subst e;exact fun i x hi hb=>h.Z9 i x hi hi hb
  ·exact h.tabs k' (by omega),fun _ _ h=>absurd h (Nat.not_lt_zero _),fun _ h=>absurd h (Nat.not_lt_zero _)⟩
structure Pass (W w:World) (lo Y:Nat) (zs:List Int) (az inv:Value) (vs:List Value) (tv lv:Value) (ts:List jO) (dead:Bool) (d0:List Nat) (n0:Nat) (w0:World) (bss:List (List Bool)) (again:Bool) (k i v:Nat):Prop where
 dU:pV w lo Y zs az inv vs bss dead tv lv
 tabs:nO W w tv ts
 inv:vg (ts.map jO.tb) d0 (dR bss)
 fr:Fr (fun q=>∃u,u<vs.length/\(vs.getD u aZ).ownBlock=some q) w0 w
 no:again=false->bitsOf (dR bss)=n0/\J3 (ts.map jO.tb) (dR bss) k i v
 yes:again=true->bitsOf (dR bss)<n0
theorem BI {bss:List (List Bool)} (h8:bss.length<=8) (h6:∀u,u<bss.length->(bss.getD u []).length<=6) {u v:Nat} (hu:u<bss.length) (q x:Nat):((dR (kT bss u v)).getD q 0).testBit x=true↔((dR bss).getD q 0).testBit x=true/\¬(q=u/\x=v):=by
 have h8':(kT bss u v).length<=8:=by simpa[kT] using h8
 have h6':∀i,i<(kT bss u v).length->((kT bss u v).getD i []).length<=6:=fun i hi=>by
  have hi':i<bss.length:=by simpa[kT] using hi
  unfold kT;rw[iY _ _ _ _ _ hu];split
  ·rw[List.length_set];exact h6 u hu
  ·exact h6 i hi'
 rw[dH _ h8' h6',dH _ h8 h6,IP _ _ _ _ _ hu];by_cases e:u=q/\v=x
 ·rw[if_pos e];obtain⟨rfl,rfl⟩:=e;simp
 ·rw[if_neg e];constructor
  ·intro h;exact⟨h,fun h'=>e ⟨h'.1.symm,h'.2.symm⟩⟩
  ·exact fun h=>h.1
theorem Qb {bss:List (List Bool)} (h8:bss.length<=8) (h6:∀u,u<bss.length->(bss.getD u []).length<=6) {u v:Nat} (hu:u<bss.length) (hv:(bss.getD u []).getD v false=true):bitsOf (dR (kT bss u v))<bitsOf (dR bss):=by
 refine Fz (kK _) (kK _) (fun q x hx=>((BI h8 h6 hu q x).1 hx).1) fun e=>?_
 have h1:((dR bss).getD u 0).testBit v=true:=by rw[dH _ h8 h6];exact hv
 rw[<-e] at h1;exact((BI h8 h6 hu u v).1 h1).2 ⟨rfl,rfl⟩
theorem pV.Xp {w:World} {lo Y:Nat} {zs:List Int} {az inv:Value} {vs:List Value} {bss:List (List Bool)} {dead:Bool} {tv lv:Value} (h:pV w lo Y zs az inv vs bss dead tv lv) (x:Bool):pV (w.setCell ⟨Y,2,none⟩ (.bool x)) lo Y zs az inv vs bss x tv lv:=by
 have hf:Fr (fun k=>k=Y) w (w.setCell ⟨Y,2,none⟩ (.bool x)):=(Fr.refl _ w).setCell _ _ (.inl rfl)
 refine⟨h.blk.set 2 (.bool x),h.sz.fr hf (fun k hk e=>?_),h.wW.fr hf (fun k hk e=>?_),h.rows.fr hf (fun k cur hk hb=>?_),h.len,h.each,h.lJ,h.IM,h.yK,h.YL⟩
 ·rw[e] at hk;exact h.sz.ne h.blk (by decide) hk
 ·rw[e] at hk;exact h.wW.ne h.blk (by decide) hk
 ·rw[hk] at hb;exact absurd (hb.inj h.blk).2 (by decide)
noncomputable def aab:Array Oper:=gU Tryz.f81 10
theorem Pass.step {W w w' w0:World} {lo Y:Nat} {zs:List Int} {az inv:Value} {vs:List Value} {tv lv:Value} {ts:List jO} {dead:Bool} {d0:List Nat} {n0:Nat} {bss:List (List Bool)} {again:Bool} {k i v:Nat} (h:Pass W w lo Y zs az inv vs tv lv ts dead d0 n0 w0 bss again k i v) (f:Nw w w'):Pass W w' lo Y zs az inv vs tv lv ts dead d0 n0 w0 bss again k i v:=
 ⟨h.dU.nw f,h.tabs.fr f (fun _ _ x=>x),h.inv,h.fr.trans f (fun _ x=>x.elim),h.no,h.yes⟩
theorem Pass.go {W w w0:World} {lo Y:Nat} {zs:List Int} {az inv:Value} {vs:List Value} {tv lv:Value} {ts:List jO} {dead:Bool} {d0:List Nat} {n0:Nat} {bss:List (List Bool)} {again:Bool} {k i v k' i' v':Nat} (h:Pass W w lo Y zs az inv vs tv lv ts dead d0 n0 w0 bss again k i v) (hc:J3 (ts.map jO.tb) (dR bss) k i v->J3 (ts.map jO.tb) (dR bss) k' i' v'):Pass W w lo Y zs az inv vs tv lv ts dead d0 n0 w0 bss again k' i' v':=
 ⟨h.dU,h.tabs,h.inv,h.fr,fun e=>⟨(h.no e).1,hc (h.no e).2⟩,h.yes⟩
set_option maxRecDepth 1000000 in
theorem close_any (W:World) (lo Y:Nat) (zs:List Int) (az inv:Value) (vs:List Value) (bss:List (List Bool)) (dead:Bool) (tv lv:Value) (ts:List jO) (w:World) (hlo:W.heap.size<=lo) (hW:Nw W w) (IU:ts.length<=12)
  (hok:∀i,i<ts.length->bK zs (ts.getD i jk).tb.vars (ts.getD i jk).tb.rows (ts.getD i jk).way=true) (hR:pV w lo Y zs az inv vs bss dead tv lv) (hT:nO W w tv ts) (sZ:∀k,tv.ownBlock=some k->(∃cur,af w k cur 41)):
  Calls Tryz.prog 81 #[.pointer (some ⟨Y,0,none⟩)] w fun e w'=>e= .returned (.tuple #[])/\∃qG,pV w' lo Y zs az inv vs qG (dead || oD qG) tv lv/\nO W w' tv ts/\vg (ts.map jO.tb) (dR bss) (dR qG)/\(∀b∈ts.map jO.tb,dP b (dR qG))/\Fr (fun q=>q=Y\/∃u,u<vs.length/\(vs.getD u aZ).ownBlock=some q) w w':=by
 have HR:=hd hR;have HT:=hd hT;have hnb:∀(A:World) (bss:List (List Bool)) (dead:Bool),pV A lo Y zs az inv vs bss dead tv lv->∀q,(∃u,u<vs.length/\(vs.getD u aZ).ownBlock=some q)->∃cur,af A q cur 4:=fun A bss dead h q ⟨u,hu,hq⟩=>by
  obtain⟨cur,hb,_⟩:=(h.rows.row u (by rw[<-h.rows.len];exact hu)).blk hq
  exact⟨cur,hb⟩
 have YM:∀q,(∃u,u<vs.length/\(vs.getD u aZ).ownBlock=some q)->lo<=q:=fun q ⟨u,hu,hq⟩=>hR.rows.lo u (by rw[<-hR.rows.len];exact hu) q hq
 have acz:∀q,(∃u,u<vs.length/\(vs.getD u aZ).ownBlock=some q)->tv.ownBlock≠some q:=fun q hq e=>by
  obtain⟨cur,hb⟩:=hnb w bss dead hR q hq;obtain⟨cur',hb'⟩:=sZ q e;exact absurd (hb.inj hb').2 (by decide)
 have HW:=hd hW;have Hnb:=hd hnb;have Oa:=hd YM;have acA:=hd acz;have Ob:=hd sZ;obtain⟨io,icap,hio,_,_⟩:=hR.BG;obtain⟨qP,aI,hto⟩:=hT.form;have hbl:bss.length=zs.length:=hR.len;obtain⟨hz1,NM⟩:=aF hR.lJ;have Hzg:=hd (fun i hi=>fJ hR.lJ i hi)
 subst hto;clear hR hT hW hnb YM acz sZ;go_enter Tryz.func81,Tryz.ntmps81
 go_wp2_with fail
 go_loopw [2,3,4,5,6,7,8] (fun ag _ _ _ _ _ _ wr=>∃(b1:List (List Bool)) (ab:Bool),ag= .bool ab/\Hid (pV wr lo Y zs az inv vs b1 dead (.slice qP ts.length aI) lv)/\Hid (nO W wr (.slice qP ts.length aI) ts)/\Hid (vg (ts.map jO.tb) (dR bss) (dR b1))/\Hid (Fr (fun q=>∃u,u<vs.length/\(vs.getD u aZ).ownBlock=some q) w wr)/\Hid (ab=false->∀b∈ts.map jO.tb,dP b (dR b1))) (fun ag _ _ _ _ _ _ wr=>2*bitsOf (dR (Uu wr Y))+(if isTrue ag then 1 else 0))
 case atStart=>exact⟨bss,true,rfl,HR,HT,vg.refl _ _,Fr.refl _ _,fun h=>by cases h⟩
 case round=>
  obtain⟨b1,ab,rfl,HR1,HT1,HC1,Rk,Hs1⟩:=hrel;cases ab with
  | true=>
   have Hm:=hd (IQ HR1.out);obtain⟨n0,hn0⟩:∃n0,bitsOf (dR b1)=n0:=⟨_,rfl⟩;have Hn0:=hd hn0;clear hn0;have HP0:Hid (Pass W wr lo Y zs az inv vs (.slice qP ts.length aI) lv ts dead (dR bss) n0 w b1 false 0 0 0):=⟨HR1.out,HT1.out,HC1.out,Rk.out,fun _=>⟨Hn0.out,J3.start _ _⟩,fun h=>by cases h⟩
   have cT0:wr.cell? ⟨Y,3,none⟩=some (.slice qP ts.length aI):=HR1.out.blk.cell 3
   have Uw:=HR1.out.blk.lt;clear HR1 HT1 HC1 Rk Hs1;go_wp2_with fail
   go_loopw [2,3,4,5,6,7,8] (fun ag k _ _ _ _ _ w2=>∃(kk:Nat) (b2:List (List Bool)) (ab:Bool),kk<=ts.length/\k= .int .i64 (kk:Int)/\ag= .bool ab/\Hid (Pass W w2 lo Y zs az inv vs (.slice qP ts.length aI) lv ts dead (dR bss) n0 w b2 ab kk 0 0)) (fun _ k _ _ _ _ _ _=>ts.length-(intOf k).toNat)
   case atStart=>exact⟨0,b1,false,by omega,rfl,rfl,HP0⟩
   case round=>
    rename World=>w2
    clear HP0 cT0 Uw;obtain⟨kk,b2,ab,hkk,rfl,rfl,HP⟩:=hrel;have cT:w2.cell? ⟨Y,3,none⟩=some (.slice qP ts.length aI):=HP.out.dU.blk.cell 3
    have hYl:=HP.out.dU.blk.lt;by_cases hkl:kk<ts.length
    ·have hdk:(kk:Int)<(ts.length:Int):=by omega
     have Hwt:=hd HP.out.dU.blk.lt;obtain⟨tg,tc,vo,ak,ro,au,hte,agX,c0,c1,c2,c3,Ux,hRr⟩:=HP.out.tabs.cell kk hkl;simp only[Value.slice.injEq] at hte;obtain⟨rfl,_,rfl⟩:=hte;obtain⟨qg,hv1,IJ,LH,hvn,hrl⟩:=lM (hok kk hkl) NM;have Hb:Hid ((ts.map jO.tb).getD kk tb0=(ts.getD kk jk).tb):=hd (by simp[List.getD,hkl])
     have Hbm:Hid ((ts.getD kk jk).tb∈ts.map jO.tb):=hd (List.mem_map.2 ⟨ts.getD kk jk,by rw[show ts.getD kk jk=ts[kk] by simp[List.getD,hkl]];exact List.getElem_mem hkl,rfl⟩)
     obtain⟨⟨⟨vars,rows,nt⟩,way⟩,htw⟩:∃t,ts.getD kk jk=t:=⟨_,rfl⟩;rw[htw] at c0 c1 c2 c3 Ux hRr hv1 IJ LH hvn hrl Hb Hbm;dsimp only at c0 c1 c2 c3 Ux hRr hv1 IJ LH hvn hrl Hb Hbm
     have hv4:=LH.four;have HIv:=hd Ux;have HRr:=hd hRr;have Wp:=hd LH;have Hvn:=hd hvn;have Hrl:=hd hrl;clear Ux hRr LH hvn hrl htw qg;rename World=>wt
     have pU:af (wt.alloc (.cells #[.slice vo vars.length ak,.slice ro rows.length au,.bool nt,.int .i64 way] 41)) wt.heap.size #[.slice vo vars.length ak,.slice ro rows.length au,.bool nt,.int .i64 way] 41:=af.new _ _ _;have HPT:=hd (HP.out.step ((Fr.refl (fun _=>False) wt).alloc (.cells #[.slice vo vars.length ak,.slice ro rows.length au,.bool nt,.int .i64 way] 41)))
     have rM:=hd pU;clear pU HP;go_wp2_with fail
     go_loopw [2,5,6,7,8] (fun ag i _ _ _ w4=>∃(ii:Nat) (b3:List (List Bool)) (ab:Bool),ii<=vars.length/\i= .int .i64 (ii:Int)/\ag= .bool ab/\Hid (Pass W w4 lo Y zs az inv vs (.slice (some ⟨tg,0,none⟩) ts.length aI) lv ts dead (dR bss) n0 w b3 ab kk ii 0)/\Hid (af w4 wt.heap.size #[.slice vo vars.length ak,.slice ro rows.length au,.bool nt,.int .i64 way] 41)) (fun _ i _ _ _ _=>vars.length-(intOf i).toNat)
     case atStart=>exact⟨0,b2,ab,by omega,rfl,rfl,HPT,rM⟩
     case round=>
      rename World=>w4
      clear HPT rM;obtain⟨ii,b3,ab,hii,rfl,rfl,HP,rM⟩:=hrel;have t0:w4.cell? ⟨wt.heap.size,0,none⟩=some (.slice vo vars.length ak):=rM.out.cell 0
      have hTl:=rM.out.lt;by_cases hil:ii<vars.length
      ·have hdi:(ii:Int)<(vars.length:Int):=by omega
       have acB:Nw W w4:=HW.out.trans HP.out.fr (fun i h=>.inr (by have:=Oa.out i h;omega))
       obtain⟨vb,iT,Wh,acC,acD⟩:=HIv.out ii hil;have hvl:vb<w4.heap.size:=Nat.lt_of_lt_of_le acC acB.size;have CW:=(acB.cell acC (fun x=>x)).trans acD
       have hv0:=(Wp.out.ok ii hil).1;have ZV:=Hvn.out ii hil;obtain⟨u,hu⟩:∃u:Nat,vars.getD ii 0=(u:Int):=⟨(vars.getD ii 0).toNat,by omega⟩
       rw[hu] at CW ZV acD;have huz:u<zs.length:=by omega
       have hub:u<b3.length:=by rw[HP.out.dU.len];exact huz
       obtain⟨io3,ic3,aac,acE,Oc⟩:=HP.out.dU.BG;obtain⟨ib,PT,qo,qc,hie,acF,BJ,_⟩:=acE u hub;obtain⟨g,LP,Wq,_,IV⟩:=HP.out.dU.row u hub;have hqe:(Value.slice qo (b3.getD u []).length qc)= .slice (some ⟨g,0,none⟩) (b3.getD u []).length LP:=by
        obtain⟨g2,c2',he2,hb2,hc2,_⟩:=HP.out.dU.wW.cell u (by rw[HP.out.dU.rows.len];exact hub)
        rw[aac,hie] at he2;simp only[Value.slice.injEq,Option.some.injEq,Addr.mk.injEq,and_true] at he2;obtain⟨⟨rfl,rfl⟩,_⟩:=he2;rw[Nat.zero_add,hc2] at BJ;rw[<-Wq];simp only[List.getD,HP.out.dU.rows.len,hub,List.getElem?_eq_getElem,Option.getD_some] at BJ ⊢
        simpa using BJ.symm
       have hnl:(b3.getD u []).length=(zs.getD u 0).toNat:=HP.out.dU.each u huz;rw[hqe,hnl] at BJ;rw[hnl] at Wq;obtain⟨n,hn⟩:∃n,(zs.getD u 0).toNat=n:=⟨_,rfl⟩;have G5:n<=6:=by have:=(Hzg.out u huz).2;omega
       rw[hn] at BJ Wq;have Hn:=hd hn;have acG:=HP.out.dU.blk.lt;subst hie;subst Wh;have Hu:=hd hu;have Hvg:=hd Wq;have agw:=hd aac;clear hqe hnl hn hu acE Wq aac;have hYl:=acG;go_wp2_with fail
       have hK0:Nw w4 w4.drew:=(Fr.refl _ w4).drew;refine eF aab 12 (fun w''=>Nw w4 w'') (by kernel_rfl) (by kernel_rfl) (by kernel_rfl) ?_
       refine take_at (i:=0) (d:=some 34) (v:=.pointer (some ⟨Y,0,none⟩)) (by kernel_rfl) (by kernel_rfl) (fun _ _ _ h=>h) (fun w'' hS=>by kernel_rfl) hK0 ?_
       refine take_at (i:=1) (d:=some 35) (v:=.pointer (some ⟨Y,0,none⟩)) (by kernel_rfl) (by kernel_rfl) (fun _ _ _ h=>h) (fun w'' hS=>by kernel_rfl) hK0 ?_
       refine take_at (i:=2) (d:=some 36) (v:=.pointer (some ⟨Y,1,none⟩)) (by kernel_rfl) (by kernel_rfl) (fun _ _ _ h=>h) (fun w'' hS=>by kernel_rfl) hK0 ?_
       refine take_at (i:=3) (d:=some 37) (v:=.slice (some ⟨ib,PT,none⟩) b3.length ic3) (by kernel_rfl) (by kernel_rfl) (fun _ _ _ h=>h) (fun w'' hS=>aj 79 (.tmp 36) (by kernel_rfl) (by kernel_rfl) (by kernel_rfl) ((hS.cell hYl (fun x=>x)).trans Oc)) hK0 ?_
       refine take_at (i:=4) (d:=some 38) (v:=.pointer (some ⟨wt.heap.size,0,none⟩)) (by kernel_rfl) (by kernel_rfl) (fun _ _ _ h=>h) (fun w'' hS=>by kernel_rfl) hK0 ?_
       refine take_at (i:=5) (d:=some 39) (v:=.slice (some ⟨vb,iT,none⟩) vars.length ak) (by kernel_rfl) (by kernel_rfl) (fun _ _ _ h=>h) (fun w'' hS=>aj 22 (.tmp 38) (by kernel_rfl) (by kernel_rfl) (by kernel_rfl) ((hS.cell hTl (fun x=>x)).trans t0)) hK0 ?_
       refine take_at (i:=6) (d:=some 40) (v:=.int .i64 (ii:Int)) (by kernel_rfl) (by kernel_rfl) (fun _ _ _ h=>h) (fun w'' hS=>by kernel_rfl) hK0 ?_
       refine take_at (i:=7) (d:=some 41) (v:=.pointer (some ⟨vb,iT+ii,none⟩)) (by kernel_rfl) (by kernel_rfl) (fun _ _ _ h=>h) (fun w'' hS=>jb (i:=ii) (n:=vars.length) (cap:=ak) 22 3 (.tmp 39) (.tmp 40) (by kernel_rfl) (by kernel_rfl) (by kernel_rfl) hil (by kernel_rfl) (by kernel_rfl)) hK0 ?_
       refine take_at (i:=8) (d:=some 42) (v:=.int .i64 (u:Int)) (by kernel_rfl) (by kernel_rfl) (fun _ _ _ h=>h) (fun w'' hS=>aj 3 (.tmp 41) (by kernel_rfl) (by kernel_rfl) (by kernel_rfl) ((hS.cell hvl (fun x=>x)).trans CW)) hK0 ?_
       refine take_at (i:=9) (d:=some 43) (v:=.pointer (some ⟨ib,PT+u,none⟩)) (by kernel_rfl) (by kernel_rfl) (fun _ _ _ h=>h) (fun w'' hS=>jb (i:=u) (n:=b3.length) (cap:=ic3) 79 84 (.tmp 37) (.tmp 42) (by kernel_rfl) (by kernel_rfl) (by kernel_rfl) hub (by kernel_rfl) (by kernel_rfl)) hK0 ?_
       refine take_at (i:=10) (d:=some 44) (v:=.slice (some ⟨g,0,none⟩) n LP) (by kernel_rfl) (by kernel_rfl) (fun _ _ _ h=>h) (fun w'' hS=>aj 84 (.tmp 43) (by kernel_rfl) (by kernel_rfl) (by kernel_rfl) ((hS.cell acF (fun x=>x)).trans BJ)) hK0 ?_
       refine dG (i:=11) (d:=some 6) (v:=.slice (some ⟨g,0,none⟩) n LP) (w':=w4.drew) (by kernel_rfl) (by kernel_rfl) (by kernel_rfl) hK0 ?_
       refine wpAnyH_done (by kernel_rfl) ?_ _
       simp only[Act.put,bQ,bW,bU];have HP4:=hd (HP.out.step hK0);have aad:=hd rM.out.drew;obtain⟨wd,hwd⟩:∃wd,w4.drew=wd:=⟨_,rfl⟩;rw[hwd] at HP4 aad ⊢;clear HP rM t0 hTl hvl CW Oc acF BJ hYl acG hK0 hwd;go_wp2_with fail
       go_loopw [2,7,8] (fun ag v _ w5=>∃(x:Nat) (b4:List (List Bool)) (ab:Bool),x<=n/\v= .int .i64 (x:Int)/\ag= .bool ab/\Hid (Pass W w5 lo Y zs az inv vs (.slice (some ⟨tg,0,none⟩) ts.length aI) lv ts dead (dR bss) n0 w b4 ab kk ii x)/\Hid (af w5 wt.heap.size #[.slice (some ⟨vb,iT,none⟩) vars.length ak,.slice ro rows.length au,.bool nt,.int .i64 way] 41)) (fun _ v _ _=>n-(intOf v).toNat)
       case atStart=>exact⟨0,b3,ab,by omega,rfl,rfl,HP4,aad⟩
       case round=>
        rename World=>w5
        clear HP4 aad;obtain⟨x,b4,ab,hxn,rfl,rfl,HP,rM⟩:=hrel;have Uy:u<b4.length:=by rw[HP.out.dU.len];exact huz
        have hl4:(b4.getD u []).length=n:=by rw[HP.out.dU.each u huz];exact Hn.out
        have hdb:=dH b4 HP.out.dU.LM HP.out.dU.b6;have Hb':=Hb;by_cases hxl:x<n
        ·have IW:(x:Int)<(n:Int):=by omega
         obtain⟨g2,gc2,LQ,Eo,_⟩:=HP.out.dU.row u Uy;rw[Hvg.out,hl4] at LQ;simp only[Value.slice.injEq,Option.some.injEq,Addr.mk.injEq,and_true] at LQ;obtain⟨rfl,aae,rfl⟩:=LQ;clear aae;obtain⟨gx,cx,hex,_,hcx,_⟩:=Eo.cell x (by rw[List.length_map,hl4];exact hxl)
         simp only[Value.slice.injEq,Option.some.injEq,Addr.mk.injEq,and_true] at hex;obtain⟨rfl,aaf⟩:=hex;clear aaf;have hcx':w5.cell? ⟨g,x,none⟩=some (.bool ((b4.getD u []).getD x false)):=by
          have hxb:x<(b4.getD u []).length:=by rw[hl4];exact hxl
          rw[hcx,List.getElem_map,aN _ _ _ hxb]
         obtain⟨acH,hbg,_⟩:=Eo.blk (k:=g) rfl;have hgl:=hbg.lt;have hgf:=hbg.free x;have hbit:=hdb u x;obtain⟨bit,hbt⟩:∃bit,(b4.getD u []).getD x false=bit:=⟨_,rfl⟩;rw[hbt] at hcx' hbit;have Hbt:=hd hbt;have afb:=hd hbit;have Xq:Hid ((vars.getD ii 0).toNat=u):=hd (by rw[Hu.out];rfl)
         clear hcx Eo hbt hbit hdb;cases bit with
         | false=>
          go_wp2_with fail
          refine⟨⟨x+1,b4,ab,by omega,by simp,rfl,HP.out.go (fun h=>h.value (fun hb=>?_)),rM⟩,by simp[intOf];omega⟩
          rw[Hb.out] at hb;dsimp only at hb
          rw[Xq.out,afb.out] at hb;cases hb
         | true=>
          have acI:Nw W w5:=HW.out.trans HP.out.fr (fun i h=>.inr (by have:=Oa.out i h;omega))
          obtain⟨io4,ic4,afc,acJ,acK⟩:=HP.out.dU.BG;have hE:qF.Ok ⟨Y,some ⟨vb,iT,none⟩,ro,io4,ak,au,ic4,vars,rows,nt,way,b4,ii,x⟩ w5:=
           ⟨hv4,IJ,HP.out.dU.LM,HP.out.dU.b6,fun i hi=>⟨(Wp.out.ok i hi).1,by show vars.getD i 0<b4.length;rw[HP.out.dU.len];exact Hvn.out i hi⟩,Hrl.out,HIv.out.nw acI,HRr.out.nw acI,acJ,acK,HP.out.dU.blk.lt,by show ii<4/\x<6;omega⟩
          have aK:=hd (PU _ w5 hE vars.length [] (.slice none 0 0) w5 (by simp) (Fr.refl _ _) (.inl ⟨rfl,rfl⟩))
          have acL:=hd (Xo (E:=⟨Y,some ⟨vb,iT,none⟩,ro,io4,ak,au,ic4,vars,rows,nt,way,b4,ii,x⟩) HP.out.dU.LM HP.out.dU.b6 hil);have t0:w5.cell? ⟨wt.heap.size,0,none⟩=some (.slice (some ⟨vb,iT,none⟩) vars.length ak):=rM.out.cell 0
          have t1:w5.cell? ⟨wt.heap.size,1,none⟩=some (.slice ro rows.length au):=rM.out.cell 1
          have t2:w5.cell? ⟨wt.heap.size,2,none⟩=some (.bool nt):=rM.out.cell 2
          have t3:w5.cell? ⟨wt.heap.size,3,none⟩=some (.int .i64 way):=rM.out.cell 3
          have hTl:=rM.out.lt;clear afc acJ acK hE;go_wp2_with fail
          refine aK.out.mono ?_
          rintro e w6 ⟨⟨fb,rfl,hfb⟩,nI⟩
          rw[acL.out] at hfb;have Xr:=hd hfb;have LU:=hd (HP.out.step nI);have aag:=hd (rM.out.nw nI);have Xt:=hbg.nw nI;have g6:w6.cell? ⟨g,x,none⟩=some (.bool true):=(nI.cell hgl (fun x=>x)).trans hcx'
          have g6f:=Xt.free x;have g6l:=Xt.lt;have afd:=hd Xt;clear hfb nI aK acL HP rM Xt t0 t1 t2 t3 hTl;cases fb with
          | true=>
           go_wp2_with fail
           refine⟨⟨x+1,b4,ab,by omega,by simp,rfl,LU.out.go (fun h=>h.value (fun hb=>?_)),aag⟩,by simp[intOf];omega⟩
           rw[Hb.out];exact Xr.out.1 trivial
          | false=>
           go_wp2_with fail
           have J4:Fr (fun q=>q=g) w6 (w6.setCell ⟨g,x,none⟩ (.bool false)):=(Fr.refl _ w6).setCell _ _ (.inl rfl)
           have hgu:∃u',u'<vs.length/\(vs.getD u' aZ).ownBlock=some g:=⟨u,by rw[LU.out.dU.rows.len];exact Uy,by rw[Hvg.out];rfl⟩
           have hless:=Qb LU.out.dU.LM LU.out.dU.b6 Uy Hbt.out;refine⟨⟨x+1,kT b4 u x,true,by omega,by simp,rfl,⟨LU.out.dU.off u x g n LP Uy Hvg.out,LU.out.tabs.fr J4 (fun q hq e=>acA.out g hgu (by rw[<-e];exact hq)),?_,LU.out.fr.trans J4 (fun i h=>.inl (by rw[h];exact hgu)),fun h=>(by cases h),fun _=>?_⟩,aag.out.fr J4 (fun e=>?_)⟩,by simp[intOf];omega⟩
           ·refine LU.out.inv.off Hbm.out hil (fun h=>absurd (Xr.out.2 h) (by simp)) (fun q y=>?_)
            rw[BI LU.out.dU.LM LU.out.dU.b6 Uy];dsimp only
            rw[Xq.out]
           ·cases ab with
            | true=>
             have:=LU.out.yes rfl
             omega
            | false=>
             have:=(LU.out.no rfl).1
             omega
           ·have h1:=aag.out;rw[e] at h1;exact absurd (h1.inj afd.out).2 (by decide)
        ·obtain rfl:n=x:=by omega
         have IW:¬((n:Int)<(n:Int)):=by omega
         have Xq:Hid ((vars.getD ii 0).toNat=u):=hd (by rw[Hu.out];rfl)
         have Hdb:=hd hdb;have Hl4:=hd hl4;clear hdb hl4;go_wp2_with fail
         refine⟨⟨ii+1,b4,ab,by omega,by simp,rfl,HP.out.go (fun h=>h.entry (fun y hy=>?_)),rM⟩,by simp[intOf];omega⟩
         rw[Hb.out] at hy;dsimp only at hy
         rw[Xq.out,Hdb.out] at hy;refine Classical.byContradiction fun hn=>?_
         simp only[List.getD] at hy;rw[List.getElem?_eq_none (by have:=Hl4.out;simp only[List.getD] at this;omega)] at hy
         cases hy
      ·obtain rfl:vars.length=ii:=by omega
       have hdi:¬((vars.length:Int)<(vars.length:Int)):=by omega
       go_wp2_with fail
       refine⟨⟨kk+1,b3,ab,by omega,by simp,rfl,HP.out.go (fun h=>J3.table (by rw[Hb.out];exact h))⟩,by simp[intOf];omega⟩
    ·obtain rfl:ts.length=kk:=by omega
     have hdk:¬((ts.length:Int)<(ts.length:Int)):=by omega
     go_wp2_with fail
     refine⟨⟨b2,ab,rfl,HP.out.dU,HP.out.tabs,HP.out.inv,HP.out.fr,fun e b hb=>?_⟩,?_⟩
     ·obtain⟨t,ht,rfl⟩:=List.mem_map.1 hb;obtain⟨i,hi,e2⟩:=List.getElem_of_mem ht;have:=(HP.out.no e).2.tabs i hi
      rw[show (ts.map jO.tb).getD i tb0=t.tb by simp[List.getD,hi,e2]] at this
      exact this
     ·rw[IQ HP.out.dU,Hm.out,Hn0.out];cases ab with
      | true=>
       have:=HP.out.yes rfl
       simp[isTrue]
       omega
      | false=>
       have:=(HP.out.no rfl).1
       simp[isTrue]
       omega
  | false=>
   obtain⟨io1,ic1,afe,Oe,Oc⟩:=HR1.out.BG;have aK:=hd (empty_any Y io1 ic1 b1 wr HR1.out.LM HR1.out.b6 HR1.out.blk.lt Oc Oe);clear afe Oe Oc;go_wp2_with fail
   refine aK.out.mono ?_
   rintro e w2 ⟨rfl,hf2⟩
   have HR2:=hd (HR1.out.nw hf2);have HT2:=hd (HT1.out.fr hf2 (fun _ _ x=>x))
   have HF2:=hd (Rk.out.trans hf2 (fun _ x=>x.elim))
   have cD:w2.cell? ⟨Y,2,none⟩=some (.bool dead):=HR2.out.blk.cell 2
   have cDf:=HR2.out.blk.free 2;have cDl:=HR2.out.blk.lt;have HTY:Hid (∀k,(Value.slice qP ts.length aI).ownBlock=some k->k≠Y):=fun k hk e=>by
    obtain⟨cur,hb⟩:=Ob.out k hk;have h1:=hb.fr HF2.out (fun h=>acA.out k h hk)
    rw[e] at h1;exact absurd (h1.inj HR2.out.blk).2 (by decide)
   have fQ:Hid (∀x,(dead || oD b1)=x->∃qG,pV (w2.setCell ⟨Y,2,none⟩ (.bool x)) lo Y zs az inv vs qG (dead || oD qG) (.slice qP ts.length aI) lv/\nO W (w2.setCell ⟨Y,2,none⟩ (.bool x)) (.slice qP ts.length aI) ts/\vg (ts.map jO.tb) (dR bss) (dR qG)/\(∀b∈ts.map jO.tb,dP b (dR qG))/\Fr (fun q=>q=Y\/∃u,u<vs.length/\(vs.getD u aZ).ownBlock=some q) w (w2.setCell ⟨Y,2,none⟩ (.bool x))):=fun x hx=>by
    have hfx:Fr (fun k=>k=Y) w2 (w2.setCell ⟨Y,2,none⟩ (.bool x)):=(Fr.refl _ w2).setCell _ _ (.inl rfl)
    refine⟨b1,by rw[hx];exact HR2.out.Xp x,HT2.out.fr hfx (fun k hk e=>HTY.out k hk e),HC1.out,Hs1.out trivial,(HF2.out.mono (fun _ h=>.inl (.inr h))).trans hfx (fun i h=>.inl (.inl h))⟩
   obtain⟨nb,hnb⟩:∃nb,oD b1=nb:=⟨_,rfl⟩;rw[hnb] at fQ ⊢;clear hf2 HR1 HT1 Rk HC1 Hs1 aK HR2 HT2 HF2 hnb;cases dead with
   | true=>
    go_wp2_with fail
    go_end0
    exact⟨rfl,fQ.out true rfl⟩
   | false=>
    cases nb with
    | true=>
     go_wp2_with fail
     go_end0
     exact⟨rfl,fQ.out true rfl⟩
    | false=>
     go_wp2_with fail
     go_end0
     exact⟨rfl,fQ.out false rfl⟩
structure Mine (w0 w:World) (v:Value) (e:TypeId) (xs:List Value):Prop where
 row:Row w v e xs
 nw:Nw w0 w
 since:∀q,v.ownBlock=some q->w0.heap.size<=q
theorem Mine.nil {w0 w:World} (h:Nw w0 w) (e:TypeId):Mine w0 w (.slice none 0 0) e []:=⟨Row.nil _ _,h,fun q hq=>(by cases hq)⟩
theorem Mine.more {w0 w w2:World} {v v':Value} {e:TypeId} {xs ys:List Value} {g:Nat} (h:Mine w0 w v e xs) (hr:Row w2 v' e ys) (hf:Fr (fun k=>v.ownBlock=some k) w w2) (hv:v'.ownBlock=some g) (ha:v.ownBlock=some g\/w.heap.size<=g):Mine w0 w2 v' e ys:=
 ⟨hr,h.nw.trans hf (fun i hi=>.inr (h.since i hi)),fun q hq=>by
  rw[hv] at hq;cases hq;rcases ha with h' | h'
  ·exact h.since _ h'
  ·exact Nat.le_trans h.nw.size h'⟩
theorem Mine.step {w0 w w2:World} {v:Value} {e:TypeId} {xs:List Value} (h:Mine w0 w v e xs) (f:Nw w w2):Mine w0 w2 v e xs:=⟨h.row.nw f,h.nw.trans f (fun _ x=>x.elim),h.since⟩
def eU (bs:List Bool) (k:Nat):List Nat:=(List.range k).filter (fun x=>bs.getD x false)
theorem IX (bs:List Bool) (k:Nat):eU bs (k+1)=eU bs k++if bs.getD k false then [k] else []:=by
 unfold eU;rw[List.range_succ,List.filter_append];congr 1
 cases h:bs.getD k false with
 | true=>simp only[List.filter_cons,h,if_true,List.filter_nil]
 | false=>simp only[List.filter_cons,h,Bool.false_eq_true,if_false,List.filter_nil]
theorem Ep (bs:List Bool) (k:Nat):(eU bs k).length<=k:=Nat.le_trans (List.length_filter_le _ _) (by simp)
theorem Qc (bss:List (List Bool)) (h8:bss.length<=8) (h6:∀u,u<bss.length->(bss.getD u []).length<=6) (q:Nat) (hq:q<bss.length):vals ((dR bss).getD q 0)=eU (bss.getD q []) (bss.getD q []).length:=by
 have hl:=h6 q hq;obtain⟨bs,hbs⟩:∃bs,bss.getD q []=bs:=⟨_,rfl⟩;have hb:∀v,((dR bss).getD q 0).testBit v=bs.getD v false:=fun v=>by rw[dH _ h8 h6,hbs]
 rw[hbs] at hl ⊢;unfold vals eU;have e1:(List.range 8).filter (fun i=>((dR bss).getD q 0).testBit i)=(List.range 8).filter (fun x=>bs.getD x false):=List.filter_congr (fun x _=>hb x)
 rw[e1];have e2:List.range 8=List.range bs.length++(List.range (8-bs.length)).map (fun x=>bs.length+x):=by
  rw[<-List.range_add];congr 1
  omega
 rw[e2,List.filter_append];have e3:((List.range (8-bs.length)).map (fun x=>bs.length+x)).filter (fun x=>bs.getD x false)=[]:=by
  rw[List.filter_eq_nil_iff];intro x hx;obtain⟨y,_,rfl⟩:=List.mem_map.1 hx;simp[List.getD]
 rw[e3,List.append_nil]
set_option maxRecDepth 1000000 in
theorem oU (lo Y:Nat) (zs:List Int) (az inv:Value) (vs:List Value) (bss:List (List Bool)) (dead:Bool) (tv lv:Value) (q:Nat) (w:World) (hR:pV w lo Y zs az inv vs bss dead tv lv) (hq:q<bss.length):
  Calls Tryz.prog 54 #[.pointer (some ⟨Y,0,none⟩),.int .i64 (q:Int)] w fun e w'=>∃v,e= .returned v/\Mine w w' v 3 (ints (if dead then [] else eU (bss.getD q []) (bss.getD q []).length)):=by
 obtain⟨i0,hi0,hz0,hz1,hz2⟩:=info_parts Tryz.jU;obtain⟨io,icap,hio,Oe,Oc⟩:=hR.BG;obtain⟨ib,PT,qo,qc,hie,hil,hic,hRow⟩:=Oe q hq;have hb6:=hR.b6 q hq;have h8:=hR.LM;have cD:w.cell? ⟨Y,2,none⟩=some (.bool dead):=hR.blk.cell 2
 have hYl:=hR.blk.lt;obtain⟨bs,hbs⟩:∃bs,bss.getD q []=bs:=⟨_,rfl⟩;rw[hbs] at hic hRow hb6 ⊢;subst hie;have hqI:(q:Int)<(bss.length:Int):=by omega
 obtain⟨res,hres⟩:∃res,(if dead=true then [] else eU bs bs.length)=res:=⟨_,rfl⟩
 rw[hres];have pz:=hd hres;clear hres;have HcY:=hd Oc;have HcD:=hd cD;have Hic:=hd hic;have Fq:=hd hRow;clear Oe Oc hR hio hic hRow cD hbs;go_enter Tryz.func54,Tryz.ntmps54
 go_wp2_with fail
 go_loopw [5,6] (fun out x wr=>∃k:Nat,k<=bs.length/\x= .int .i64 (k:Int)/\(dead=true->k=0)/\Hid (Mine w wr out 3 (ints (eU bs k)))) (fun _ x _=>bs.length-(intOf x).toNat)
 case atStart=>exact⟨0,by omega,rfl,fun _=>rfl,Mine.nil (Fr.refl _ _) _⟩
 case round=>
  obtain⟨k,hk,rfl,hdk,HM⟩:=hrel;have c1:wr.cell? ⟨Y,1,none⟩=some (.slice (some ⟨ib,PT,none⟩) bss.length icap):=(HM.out.nw.cell hYl (fun x=>x)).trans HcY.out
  have c2:wr.cell? ⟨Y,2,none⟩=some (.bool dead):=(HM.out.nw.cell hYl (fun x=>x)).trans HcD.out
  have TG:Y<wr.heap.size:=Nat.lt_of_lt_of_le hYl HM.out.nw.size;have cic:wr.cell? ⟨ib,PT+q,none⟩=some (.slice qo bs.length qc):=(HM.out.nw.cell hil (fun x=>x)).trans Hic.out
  have aeJ:ib<wr.heap.size:=Nat.lt_of_lt_of_le hil HM.out.nw.size;obtain⟨oo,oc,hof,_⟩:=HM.out.row.form;rw[show (ints (eU bs k)).length=(eU bs k).length by simp[ints]] at hof
  subst hof;have htl:=Ep bs k;by_cases hlt:k<bs.length
  ·have aff:(k:Int)<(bs.length:Int):=by omega
   cases dead with
   | true=>
    have Hk0:=hd (hdk rfl);clear hdk;go_wp2_with fail
    go_ret
    refine⟨_,rfl,?_⟩
    show Mine w wr (.slice oo (eU bs k).length oc) 3 (ints res)
    have h1:=HM.out;have e0:eU bs k=[]:=by rw[Hk0.out];rfl
    have e1:res=[]:=pz.out.symm;rw[e0] at h1 ⊢;rw[e1];exact h1
   | false=>
    obtain⟨qb,YD,hqe,La,hqc⟩:=(Fq.out.nw HM.out.nw) k hlt;subst hqe;have Hs:=hd (IX bs k);obtain⟨x,hx⟩:∃x,bs.getD k false=x:=⟨_,rfl⟩;rw[hx] at hqc Hs;clear hx hdk;cases x with
    | true=>
     obtain⟨tl,aah⟩:∃tl,(eU bs k).length=tl:=⟨_,rfl⟩;have Htl:=hd aah;rw[aah] at HM htl ⊢;clear aah;go_wp2_with (at_builtin;refine wpList_append_own_at _ rfl _ _ 22 rfl 0 3 i0 (.int .i64 0) 1 8 Tryz.underlying22 hi0 hz0 hz1 hz2 rfl (by decide) _ _ _ rfl (Row.alloc HM.out.row _) ⟨_,0,none⟩ 1 1 [.int .i64 (k:Int)] rfl rfl (cell_one_new _ _ _) (by simp[Value.oneCell']) (by rw[show (ints (eU bs k)).length=(eU bs k).length by simp[ints],Htl.out];unfold maxLen;omega) (by rw[show (ints (eU bs k)).length=(eU bs k).length by simp[ints],Htl.out];omega) (Nat.zero_le _) ?_;intro v' w3 hown' hgrow _ hat;obtain⟨g',cap',rfl,hr3,hf3,AA,hlt3⟩:=app1 hown' hgrow hat)
     refine⟨⟨k+1,by omega,by simp,fun h=>(by cases h),?_⟩,by simp[intOf];omega⟩
     rw[Hs.out];have e1:ints (eU bs k++if true=true then [k] else [])=ints (eU bs k)++[.int .i64 (k:Int)]:=by simp[ints]
     rw[e1];rw[show (ints (eU bs k)).length=(eU bs k).length by simp[ints]] at hr3
     exact HM.out.more (g:=g') hr3 hf3 rfl (AA.imp (fun h=>h) (fun h=>by omega))
    | false=>
     go_wp2_with fail
     refine⟨⟨k+1,by omega,by simp,fun h=>(by cases h),?_⟩,by simp[intOf];omega⟩
     rw[Hs.out];simpa using HM
  ·obtain rfl:bs.length=k:=by omega
   have aff:¬((bs.length:Int)<(bs.length:Int)):=by omega
   have Hdk:=hd hdk;clear hdk;go_wp2_with fail
   go_ret
   refine⟨_,rfl,?_⟩
   cases dead with
   | true=>
    show Mine w wr (.slice oo (eU bs bs.length).length oc) 3 (ints res)
    have h1:=HM.out;have e0:eU bs bs.length=[]:=by rw[Hdk.out rfl];rfl
    have e1:res=[]:=pz.out.symm;rw[e0] at h1 ⊢;rw[e1];exact h1
   | false=>
    show Mine w wr (.slice oo (eU bs bs.length).length oc) 3 (ints res)
    have e1:res=eU bs bs.length:=pz.out.symm;rw[e1];exact HM.out
end Go.Proofs.YtkjfpdfkcfgfkaaGreat
