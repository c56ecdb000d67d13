/- Parts of the proof, number 6: contracts of the functions that the statement calls. -/
import Derived.Test.YtkjfpdfkcfgfkaaGreatM5
import Derived.Test.YtkjfpdfkcfgfkaaGreatM0
import Derived.Test.YtkjfpdfkcfgfkaaGreatM3
import Derived.BigQuiet
set_option maxHeartbeats 3200000
namespace Go.Proofs.YtkjfpdfkcfgfkaaGreat
open Go.RowKit
def bM (bss:List (List Bool)) (v value:Nat) (only:Bool):Nat->List (List Bool)
 | 0=>bss
 | k+1=>if (decide (k=value)) != only then kT (bM bss v value only k) v k else bM bss v value only k
theorem gu (bss:List (List Bool)) (v value:Nat) (only:Bool):∀k,(bM bss v value only k).length=bss.length
 | 0=>rfl
 | k+1=>by
  unfold bM;split
  ·simp[kT,gu bss v value only k]
  ·exact gu bss v value only k
theorem kL (bss:List (List Bool)) (v value:Nat) (only:Bool) (hv:v<bss.length) (q x:Nat):∀k,((bM bss v value only k).getD q []).getD x false=if v=q/\x<k/\((decide (x=value)) != only)=true then false else (bss.getD q []).getD x false
 | 0=>by simp[bM]
 | k+1=>by
  have ih:=kL bss v value only hv q x k;unfold bM;by_cases hc:((decide (k=value)) != only)=true
  ·rw[if_pos hc,IP _ _ _ _ _ (by rw[gu];exact hv),ih]
   by_cases h1:v=q/\k=x
   ·obtain⟨rfl,rfl⟩:=h1;rw[if_pos ⟨rfl,rfl⟩,if_pos ⟨rfl,by omega,hc⟩]
   ·rw[if_neg h1];by_cases h2:v=q/\x<k/\((decide (x=value)) != only)=true
    ·rw[if_pos h2,if_pos ⟨h2.1,by omega,h2.2.2⟩]
    ·rw[if_neg h2,if_neg (fun h3=>h2 ⟨h3.1,by
      have:x≠k:=fun e=>h1 ⟨h3.1,e.symm⟩
      omega,h3.2.2⟩)]
  ·rw[if_neg hc,ih];by_cases h2:v=q/\x<k/\((decide (x=value)) != only)=true
   ·rw[if_pos h2,if_pos ⟨h2.1,by omega,h2.2.2⟩]
   ·rw[if_neg h2,if_neg (fun h3=>h2 ⟨h3.1,by
     have:x≠k:=fun e=>hc (by rw[<-e];exact h3.2.2)
     omega,h3.2.2⟩)]
set_option maxRecDepth 1000000 in
theorem LV (W:World) (lo Y:Nat) (zs:List Int) (az inv:Value) (vs:List Value) (bss:List (List Bool)) (tv lv:Value) (ts:List jO) (v value:Nat) (only:Bool) (w:World) (hlo:W.heap.size<=lo) (hW:Nw W w) (IU:ts.length<=12)
  (hok:∀i,i<ts.length->bK zs (ts.getD i jk).tb.vars (ts.getD i jk).tb.rows (ts.getD i jk).way=true) (hR:pV w lo Y zs az inv vs bss false tv lv) (hT:nO W w tv ts) (sZ:∀k,tv.ownBlock=some k->(∃cur,af w k cur 41)) (hv:v<zs.length) (hx:(value:Int)<zs.getD v 0):
  Calls Tryz.prog 58 #[.pointer (some ⟨Y,0,none⟩),.int .i64 (v:Int),.int .i64 (value:Int),.bool only] w fun e w'=>e= .returned (.int .i64 0)/\∃qG,pV w' lo Y zs az inv vs qG (oD qG) tv lv/\nO W w' tv ts/\vg (ts.map jO.tb) (dR (bM bss v value only (zs.getD v 0).toNat)) (dR qG)/\(∀b∈ts.map jO.tb,dP b (dR qG))/\Fr (fun q=>q=Y\/∃u,u<vs.length/\(vs.getD u aZ).ownBlock=some q) w w':=by
 obtain⟨hz1,NM⟩:=aF hR.lJ;have hzg:=fJ hR.lJ v hv;obtain⟨xW,zx,iU,_⟩:=hR.sz.form;rw[List.length_map] at iU;have hbl:=hR.len;obtain⟨n,hn⟩:∃n,(zs.getD v 0).toNat=n:=⟨_,rfl⟩;have hzn:zs.getD v 0=(n:Int):=by omega
 have xR:(v:Int)<(zs.length:Int):=by omega
 rw[hn];rw[hzn] at hx hzg;obtain⟨g,LP,Wq,_,IV⟩:=hR.row v (by rw[hbl];exact hv)
 rw[hR.each v hv,hn] at Wq;have hszI:ax w xW zs:=by
  have h:=hR.sz;rw[iU] at h;exact h.oC
 obtain⟨sb,sof,hse,hsl,hsc⟩:=hszI v hv;rw[hzn] at hsc;subst hse;have HR:=hd hR;have HT:=hd hT;have HW:=hd hW;have Ob:=hd sZ;have Hvg:=hd Wq;have aai:=hd iU;have Hsc:=hd hsc;have Hn:=hd hn;have cS0:w.cell? ⟨Y,0,none⟩=some (.slice (some ⟨sb,sof,none⟩) zs.length zx):=by
  have:=hR.blk.cell 0
  rw[iU] at this;exact this
 have cD0:w.cell? ⟨Y,2,none⟩=some (.bool false):=hR.blk.cell 2
 have Uw:=hR.blk.lt;have hgu:∃u,u<vs.length/\(vs.getD u aZ).ownBlock=some g:=⟨v,by rw[hR.rows.len,hbl];exact hv,by rw[Wq];rfl⟩
 have Hgu:=hd hgu;have Hnb:Hid (∀q,(∃u,u<vs.length/\(vs.getD u aZ).ownBlock=some q)->∃cur,af w q cur 4):=fun q ⟨u,hu,hq⟩=>by
  obtain⟨cur,hb,_⟩:=(hR.rows.row u (by rw[<-hR.rows.len];exact hu)).blk hq
  exact⟨cur,hb⟩
 have Oa:Hid (∀q,(∃u,u<vs.length/\(vs.getD u aZ).ownBlock=some q)->lo<=q):=fun q ⟨u,hu,hq⟩=>hR.rows.lo u (by rw[<-hR.rows.len];exact hu) q hq
 have hv0:¬((v:Int)<0):=by omega
 have hx0:¬((value:Int)<0):=by omega
 have hvn:¬(zs.length<=v):=by omega
 have hxn:¬(n<=value):=by omega
 clear hR hT hW sZ Wq iU hszI hgu hn hzn;go_enter Tryz.func58,Tryz.ntmps58
 go_wp2_with fail
 go_loopw [9] (fun x wr=>∃k:Nat,k<=n/\x= .int .i64 (k:Int)/\Hid (pV wr lo Y zs az inv vs (bM bss v value only k) false tv lv)/\Hid (nO W wr tv ts)/\Hid (Fr (fun q=>∃u,u<vs.length/\(vs.getD u aZ).ownBlock=some q) w wr)) (fun x _=>n-(intOf x).toNat)
 case atStart=>exact⟨0,by omega,rfl,HR,HT,Fr.refl _ _⟩
 case round=>
  clear HR HT;obtain⟨k,hk,rfl,HR,HT,HF⟩:=hrel;have cS:wr.cell? ⟨Y,0,none⟩=some (.slice (some ⟨sb,sof,none⟩) zs.length zx):=by
   have:=HR.out.blk.cell 0
   rw[aai.out] at this;exact this
  have hYl:=HR.out.blk.lt;have hszI:ax wr (some ⟨sb,sof,none⟩) zs:=by
   have h:=HR.out.sz;rw[aai.out] at h;exact h.oC
  obtain⟨sb',agY,hse,agZ,afg⟩:=hszI v hv;simp only[Option.some.injEq,Addr.mk.injEq,and_true] at hse;obtain⟨rfl,rfl⟩:=hse;rw[show zs.getD v 0=(n:Int) by have:=Hn.out;omega] at afg
  clear hszI;by_cases hlt:k<n
  ·have hdk:(k:Int)<(n:Int):=by omega
   have hub:v<(bM bss v value only k).length:=by rw[gu,hbl];exact hv
   obtain⟨io,icap,hio,Oe,Oc⟩:=HR.out.BG;obtain⟨ib,PT,qo,qc,hie,hil,BJ,_⟩:=Oe v hub;obtain⟨g2,gc2,LQ,hrow,_⟩:=HR.out.row v hub;have hl4:((bM bss v value only k).getD v []).length=n:=by rw[HR.out.each v hv];exact Hn.out
   rw[Hvg.out,hl4] at LQ;simp only[Value.slice.injEq,Option.some.injEq,Addr.mk.injEq,and_true] at LQ;obtain⟨rfl,aae,rfl⟩:=LQ;clear aae;have hqe:(Value.slice qo ((bM bss v value only k).getD v []).length qc)= .slice (some ⟨g,0,none⟩) n LP:=by
    obtain⟨g3,c3,he3,hb3,hc3,_⟩:=HR.out.wW.cell v (by rw[HR.out.rows.len];exact hub)
    rw[hio,hie] at he3;simp only[Value.slice.injEq,Option.some.injEq,Addr.mk.injEq,and_true] at he3;obtain⟨⟨rfl,rfl⟩,_⟩:=he3;rw[Nat.zero_add,hc3] at BJ;rw[<-Hvg.out];have hvl:v<vs.length:=by rw[HR.out.rows.len];exact hub
    rw[show vs.getD v aZ=vs[v] by simp[List.getD,hvl]]
    exact(Option.some.inj BJ).symm
   rw[hqe] at BJ;obtain⟨acH,hbg,_⟩:=hrow.blk (k:=g) rfl;have hgl:=hbg.lt;have hgf:=hbg.free k;obtain⟨old,hold⟩:∃old,wr.cell? ⟨g,k,none⟩=some old:=by
    obtain⟨gx,cx,hex,_,hcx,_⟩:=hrow.cell k (by rw[List.length_map,hl4];exact hlt)
    simp only[Value.slice.injEq,Option.some.injEq,Addr.mk.injEq,and_true] at hex;obtain⟨rfl,_⟩:=hex;exact⟨_,hcx⟩
   obtain⟨sl,acM⟩:∃sl,(bM bss v value only k).length=sl:=⟨_,rfl⟩;rw[acM] at Oc;have hvs:(v:Int)<(sl:Int):=by omega
   have hvs':v<sl:=by omega
   subst hie;have yV:Hid (bM bss v value only (k+1)=if ((decide (k=value)) != only)=true then kT (bM bss v value only k) v k else bM bss v value only k):=rfl
   have Dp:Hid (pV (wr.setCell ⟨g,k,none⟩ (.bool false)) lo Y zs az inv vs (kT (bM bss v value only k) v k) false tv lv/\nO W (wr.setCell ⟨g,k,none⟩ (.bool false)) tv ts/\Fr (fun q=>∃u,u<vs.length/\(vs.getD u aZ).ownBlock=some q) w (wr.setCell ⟨g,k,none⟩ (.bool false))):=by
    have J4:Fr (fun q=>q=g) wr (wr.setCell ⟨g,k,none⟩ (.bool false)):=(Fr.refl _ wr).setCell _ _ (.inl rfl)
    refine⟨HR.out.off v k g n LP hub Hvg.out,HT.out.fr J4 (fun q hq e=>?_),HF.out.trans J4 (fun i h=>.inl (by rw[h];exact Hgu.out))⟩
    obtain⟨cur,hb⟩:=Ob.out q hq;obtain⟨Xf,hb2⟩:=Hnb.out g Hgu.out;rw[e] at hb;exact absurd (hb.inj hb2).2 (by decide)
   clear Oe hio hrow hqe acM hub hl4;by_cases hkv:k=value
   ·have hkb:((k:Int)==(value:Int))=true:=by rw[hkv];simp
    have Hkd:Hid (decide (k=value)=true):=hd (by simp[hkv])
    clear hkv;cases only with
    | true=>
     go_wp2_with fail
     refine⟨⟨k+1,by omega,by simp,?_,HT,HF⟩,by simp[intOf];omega⟩
     rw[yV.out,Hkd.out];exact HR
    | false=>
     go_wp2_with fail
     refine⟨⟨k+1,by omega,by simp,?_,Dp.out.2.1,Dp.out.2.2⟩,by simp[intOf];omega⟩
     rw[yV.out,Hkd.out];exact Dp.out.1
   ·have hkb:((k:Int)==(value:Int))=false:=by rw[beq_eq_false_iff_ne];omega
    have Hkd:Hid (decide (k=value)=false):=hd (by simp[hkv])
    clear hkv;cases only with
    | true=>
     go_wp2_with fail
     refine⟨⟨k+1,by omega,by simp,?_,Dp.out.2.1,Dp.out.2.2⟩,by simp[intOf];omega⟩
     rw[yV.out,Hkd.out];exact Dp.out.1
    | false=>
     go_wp2_with fail
     refine⟨⟨k+1,by omega,by simp,?_,HT,HF⟩,by simp[intOf];omega⟩
     rw[yV.out,Hkd.out];exact HR
  ·obtain rfl:n=k:=by omega
   have hdk:¬((n:Int)<(n:Int)):=by omega
   have aK:=hd (close_any W lo Y zs az inv vs (bM bss v value only n) false tv lv ts wr hlo (HW.out.trans HF.out (fun i h=>.inr (by have:=Oa.out i h;omega))) IU hok HR.out HT.out (fun q hq=>by
    obtain⟨cur,hb⟩:=Ob.out q hq;exact⟨cur,hb.fr HF.out (fun h=>by
     obtain⟨Xf,hb2⟩:=Hnb.out q h;exact absurd (hb.inj hb2).2 (by decide))⟩))
   go_wp2_with fail
   refine aK.out.mono ?_
   rintro e w2 ⟨rfl,b',h1,h2,h3,h4,h5⟩
   have fQ:=hd (show ∃qG,pV w2 lo Y zs az inv vs qG (oD qG) tv lv/\nO W w2 tv ts/\vg (ts.map jO.tb) (dR (bM bss v value only n)) (dR qG)/\(∀b∈ts.map jO.tb,dP b (dR qG))/\Fr (fun q=>q=Y\/∃u,u<vs.length/\(vs.getD u aZ).ownBlock=some q) w w2 from⟨b',h1,h2,h3,h4,(HF.out.mono (fun _ h=>.inl (.inr h))).trans h5 (fun i h=>.inl h)⟩)
   clear h1 h2 h3 h4 h5;go_wp2_with fail
   go_ret
   exact⟨rfl,fQ.out⟩
set_option maxRecDepth 1000000 in
theorem zy (lo Y:Nat) (zs:List Int) (az inv:Value) (vs:List Value) (bss:List (List Bool)) (dead:Bool) (tv lv:Value) (v value:Int) (only:Bool) (w:World) (hR:pV w lo Y zs az inv vs bss dead tv lv) (hno:¬(0<=v/\v<zs.length/\0<=value/\value<zs.getD v.toNat 0)):
  Calls Tryz.prog 58 #[.pointer (some ⟨Y,0,none⟩),.int .i64 v,.int .i64 value,.bool only] w fun e w'=>e= .returned (.int .i64 1)/\w'=w:=by
 obtain⟨xW,zx,iU,_⟩:=hR.sz.form;rw[List.length_map] at iU;have cS0:w.cell? ⟨Y,0,none⟩=some (.slice xW zs.length zx):=by
  have:=hR.blk.cell 0
  rw[iU] at this;exact this
 have hYl:=hR.blk.lt;have hszI:ax w xW zs:=by
  have h:=hR.sz;rw[iU] at h;exact h.oC
 clear hR iU;go_enter Tryz.func58,Tryz.ntmps58
 by_cases hv0:v<0
 ·go_wp2_with fail
  go_ret
  exact⟨rfl,rfl⟩
 ·by_cases hvl:v<zs.length
  ·obtain⟨u,rfl⟩:∃u:Nat,v=(u:Int):=⟨v.toNat,by omega⟩
   have Xa:u<zs.length:=by omega
   have hun:¬(zs.length<=u):=by omega
   have hge:¬((zs.length:Int)<=(u:Int)):=by omega
   obtain⟨sb,sof,hse,hsl,hsc⟩:=hszI u Xa;subst hse;obtain⟨z,hz⟩:∃z,zs.getD u 0=z:=⟨_,rfl⟩;rw[hz] at hsc;rw[Int.toNat_natCast,hz] at hno;by_cases hx0:value<0
   ·go_wp2_with fail
    go_ret
    exact⟨rfl,rfl⟩
   ·have hxz:z<=value:=by omega
    go_wp2_with fail
    go_ret
    exact⟨rfl,rfl⟩
  ·have hge:(zs.length:Int)<=v:=by omega
   go_wp2_with fail
   go_ret
   exact⟨rfl,rfl⟩
set_option maxRecDepth 1000000 in
theorem xh (lo Y:Nat) (zs:List Int) (az inv:Value) (vs:List Value) (bss:List (List Bool)) (tv lv:Value) (v value:Nat) (only:Bool) (w:World) (hR:pV w lo Y zs az inv vs bss true tv lv) (hv:v<zs.length) (hx:(value:Int)<zs.getD v 0):
  Calls Tryz.prog 58 #[.pointer (some ⟨Y,0,none⟩),.int .i64 (v:Int),.int .i64 (value:Int),.bool only] w fun e w'=>e= .returned (.int .i64 3)/\w'=w:=by
 obtain⟨xW,zx,iU,_⟩:=hR.sz.form;rw[List.length_map] at iU;have cS0:w.cell? ⟨Y,0,none⟩=some (.slice xW zs.length zx):=by
  have:=hR.blk.cell 0
  rw[iU] at this;exact this
 have cD0:w.cell? ⟨Y,2,none⟩=some (.bool true):=hR.blk.cell 2
 have hYl:=hR.blk.lt;have hszI:ax w xW zs:=by
  have h:=hR.sz;rw[iU] at h;exact h.oC
 obtain⟨sb,sof,hse,hsl,hsc⟩:=hszI v hv;subst hse;have hzg:=fJ hR.lJ v hv;obtain⟨n,hn⟩:∃n:Nat,zs.getD v 0=(n:Int):=⟨(zs.getD v 0).toNat,by omega⟩
 rw[hn] at hsc hx;have xR:(v:Int)<(zs.length:Int):=by omega
 have hv0:¬((v:Int)<0):=by omega
 have hx0:¬((value:Int)<0):=by omega
 have hvn:¬(zs.length<=v):=by omega
 have hxn:¬(n<=value):=by omega
 clear hR iU hszI hn hzg;go_enter Tryz.func58,Tryz.ntmps58
 go_wp2_with fail
 go_ret
 exact⟨rfl,rfl⟩
def qH (bss:List (List Bool)) (dead:Bool) (q:Nat):List Nat:=if dead then [] else eU (bss.getD q []) (bss.getD q []).length
def oJ (bss:List (List Bool)) (dead:Bool):Nat->Nat
 | 0=>0
 | k+1=>oJ bss dead k+(qH bss dead k).length
def vk (bss:List (List Bool)) (dead:Bool):Nat->Nat
 | 0=>0
 | k+1=>vk bss dead k+if (qH bss dead k).length=1 then 1 else 0
theorem FK {bss:List (List Bool)} {dead:Bool} (h6:∀u,u<bss.length->(bss.getD u []).length<=6) (q:Nat) (hq:q<bss.length):(qH bss dead q).length<=6:=by
 unfold qH;cases dead with
 | true=>simp
 | false=>
  have:=Ep (bss.getD q []) (bss.getD q []).length
  have:=h6 q hq
  simp only[Bool.false_eq_true,if_false];omega
theorem IY {bss:List (List Bool)} {dead:Bool} (h6:∀u,u<bss.length->(bss.getD u []).length<=6):∀k,k<=bss.length->oJ bss dead k<=6*k/\vk bss dead k<=k
 | 0,_=>⟨Nat.le_refl _,Nat.le_refl _⟩
 | k+1,h=>by
  obtain⟨h1,h2⟩:=IY (dead:=dead) h6 k (by omega)
  have h3:=FK (dead:=dead) h6 k (by omega)
  unfold oJ vk;constructor
  ·omega
  ·split <;> omega
theorem store_one {A:World} {b i:Nat} {v old:Value} (h1:v.oneCell'=true) (hc:A.cell? ⟨b,i,none⟩=some old) (hf:A.frozen? ⟨b,i,none⟩=false):(Sem.store Mode.plain (⟨b,i,none⟩:Addr) v (.pure ())).run Tryz.prog A= .ok () (A.setCell ⟨b,i,none⟩ v):=by
 cases v <;> first
  | (simp[Value.oneCell'] at h1;done)
  | (unfold Sem.run;simp[hc,hf,Sem.run])
theorem IZ {ev:Operand->Value} {o:Oper} {w:World} {b:Nat} {n0 n1 n2 n4 n5:Int} {d:Bool} {o0 o1 o2 o3 o4 o5:Value} {e:TypeId} (t:TypeId) (x y:Operand) (ho:o.op= .store t x y) (hx:ev x= .pointer (some ⟨b,0,none⟩)) (hy:ev y= .agg #[.int .i64 n0,.int .i64 n1,.int .i64 n2,.bool d,.int .i64 n4,.int .i64 n5]) (hsz:(sizeOf t).run Tryz.prog w= .ok 6 w) (hb:af w b #[o0,o1,o2,o3,o4,o5] e):
  (execOp ev o).run Tryz.prog w= .ok .skip ((((((w.setCell ⟨b,0,none⟩ (.int .i64 n0)).setCell ⟨b,1,none⟩ (.int .i64 n1)).setCell ⟨b,2,none⟩ (.int .i64 n2)).setCell ⟨b,3,none⟩ (.bool d)).setCell ⟨b,4,none⟩ (.int .i64 n4)).setCell ⟨b,5,none⟩ (.int .i64 n5)):=by
 have h0:=store_one (v:=.int .i64 n0) rfl (hb.cell 0) (hb.free 0);have b1:=hb.set 0 (.int .i64 n0);have h1:=store_one (v:=.int .i64 n1) rfl (b1.cell 1) (b1.free 1);have b2:=b1.set 1 (.int .i64 n1);have h2:=store_one (v:=.int .i64 n2) rfl (b2.cell 2) (b2.free 2);have b3:=b2.set 2 (.int .i64 n2);have h3:=store_one (v:=.bool d) rfl (b3.cell 3) (b3.free 3);have b4:=b3.set 3 (.bool d);have h4:=store_one (v:=.int .i64 n4) rfl (b4.cell 4) (b4.free 4);have b5:=b4.set 4 (.int .i64 n4);have h5:=store_one (v:=.int .i64 n5) rfl (b5.cell 5) (b5.free 5);have hcs:(Value.agg #[.int .i64 n0,.int .i64 n1,.int .i64 n2,.bool d,.int .i64 n4,.int .i64 n5]).cells=#[.int .i64 n0,.int .i64 n1,.int .i64 n2,.bool d,.int .i64 n4,.int .i64 n5]:=by kernel_rfl
 unfold execOp;simp[ho,hx,hy,Instr.storeAt,Instr.sureAddr,storeVar,hcs,hsz,storeCells,Addr.add,store,h0,h1,h2,h3,h4,h5,Result.andThen]
noncomputable def aaj:Array Oper:=gU Tryz.f60 1
set_option maxRecDepth 1000000 in
theorem I4 (lo Y:Nat) (zs:List Int) (az inv:Value) (vs:List Value) (bss:List (List Bool)) (dead:Bool) (qP nP:Option Addr) (tn aI ln gp:Nat) (w:World) (hR:pV w lo Y zs az inv vs bss dead (.slice qP tn aI) (.slice nP ln gp)):
  Calls Tryz.prog 60 #[.pointer (some ⟨Y,0,none⟩)] w fun e w'=>e= .returned (.agg #[.int .i64 (zs.length:Int),.int .i64 (tn:Int),.int .i64 (ln:Int),.bool dead,.int .i64 (oJ bss dead zs.length:Int),.int .i64 (vk bss dead zs.length:Int)])/\Nw w w':=by
 obtain⟨xW,zx,iU,_⟩:=hR.sz.form;rw[List.length_map] at iU;obtain⟨hz1,NM⟩:=aF hR.lJ;obtain⟨W,hW⟩:∃W,W=w.alloc (.cells #[.int .i64 0,.int .i64 0,.int .i64 0,.bool false,.int .i64 0,.int .i64 0] 110):=⟨_,rfl⟩;have dM:Nw w W:=by rw[hW];exact(Fr.refl _ w).alloc _
 have hbR:af W w.heap.size #[.int .i64 0,.int .i64 0,.int .i64 0,.bool false,.int .i64 0,.int .i64 0] 110:=by rw[hW];exact af.new _ _ _
 have hRW:=hR.nw dM;have c0:W.cell? ⟨Y,0,none⟩=some (.slice xW zs.length zx):=by
  have:=hRW.blk.cell 0
  rw[iU] at this;exact this
 have c2:W.cell? ⟨Y,2,none⟩=some (.bool dead):=hRW.blk.cell 2
 have c3:W.cell? ⟨Y,3,none⟩=some (.slice qP tn aI):=hRW.blk.cell 3
 have c4:W.cell? ⟨Y,4,none⟩=some (.slice nP ln gp):=hRW.blk.cell 4
 have hYl:=hRW.blk.lt;have HRW:=hd hRW;have NC:=hd hbR;have KQ:=hd dM;have aai:=hd iU;clear hR hRW hbR dM iU;go_enter Tryz.func60,Tryz.ntmps60
 go_upto_region 1 with fail
 rw[<-hW];clear hW;go_cut [3] (fun p wx=>∃L,p= .pointer (some ⟨L,0,none⟩)/\Hid (af wx L #[.int .i64 (zs.length:Int),.int .i64 (tn:Int),.int .i64 (ln:Int),.bool dead,.int .i64 0,.int .i64 0] 110)/\Hid (Nw W wx)/\W.heap.size<=L)
 case first=>
  have hK0:Nw W W.drew:=(Fr.refl _ W).drew;refine eF aaj 22 (fun w''=>Nw W w'') (by kernel_rfl) (by kernel_rfl) (by kernel_rfl) ?_
  refine take_at (i:=0) (d:=some 6) (v:=.pointer (some ⟨Y,0,none⟩)) (by kernel_rfl) (by kernel_rfl) (fun _ _ _ h=>h) (fun w'' hS=>by kernel_rfl) hK0 ?_
  refine take_at (i:=1) (d:=some 7) (v:=.pointer (some ⟨Y,0,none⟩)) (by kernel_rfl) (by kernel_rfl) (fun _ _ _ h=>h) (fun w'' hS=>by kernel_rfl) hK0 ?_
  refine take_at (i:=2) (d:=some 8) (v:=.pointer (some ⟨Y,0,none⟩)) (by kernel_rfl) (by kernel_rfl) (fun _ _ _ h=>h) (fun w'' hS=>by kernel_rfl) hK0 ?_
  refine take_at (i:=3) (d:=some 9) (v:=.slice xW zs.length zx) (by kernel_rfl) (by kernel_rfl) (fun _ _ _ h=>h) (fun w'' hS=>aj 22 (.tmp 8) (by kernel_rfl) (by kernel_rfl) (by kernel_rfl) ((hS.cell hYl (fun x=>x)).trans c0)) hK0 ?_
  refine take_at (i:=4) (d:=some 10) (v:=.int .i64 (zs.length:Int)) (by kernel_rfl) (by kernel_rfl) (fun _ _ _ h=>h) (fun w'' hS=>by kernel_rfl) hK0 ?_
  refine take_at (i:=5) (d:=some 11) (v:=.pointer (some ⟨Y,0,none⟩)) (by kernel_rfl) (by kernel_rfl) (fun _ _ _ h=>h) (fun w'' hS=>by kernel_rfl) hK0 ?_
  refine take_at (i:=6) (d:=some 12) (v:=.pointer (some ⟨Y,0,none⟩)) (by kernel_rfl) (by kernel_rfl) (fun _ _ _ h=>h) (fun w'' hS=>by kernel_rfl) hK0 ?_
  refine take_at (i:=7) (d:=some 13) (v:=.pointer (some ⟨Y,3,none⟩)) (by kernel_rfl) (by kernel_rfl) (fun _ _ _ h=>h) (fun w'' hS=>by kernel_rfl) hK0 ?_
  refine take_at (i:=8) (d:=some 14) (v:=.slice qP tn aI) (by kernel_rfl) (by kernel_rfl) (fun _ _ _ h=>h) (fun w'' hS=>aj 80 (.tmp 13) (by kernel_rfl) (by kernel_rfl) (by kernel_rfl) ((hS.cell hYl (fun x=>x)).trans c3)) hK0 ?_
  refine take_at (i:=9) (d:=some 15) (v:=.int .i64 (tn:Int)) (by kernel_rfl) (by kernel_rfl) (fun _ _ _ h=>h) (fun w'' hS=>by kernel_rfl) hK0 ?_
  refine take_at (i:=10) (d:=some 16) (v:=.pointer (some ⟨Y,0,none⟩)) (by kernel_rfl) (by kernel_rfl) (fun _ _ _ h=>h) (fun w'' hS=>by kernel_rfl) hK0 ?_
  refine take_at (i:=11) (d:=some 17) (v:=.pointer (some ⟨Y,0,none⟩)) (by kernel_rfl) (by kernel_rfl) (fun _ _ _ h=>h) (fun w'' hS=>by kernel_rfl) hK0 ?_
  refine take_at (i:=12) (d:=some 18) (v:=.pointer (some ⟨Y,4,none⟩)) (by kernel_rfl) (by kernel_rfl) (fun _ _ _ h=>h) (fun w'' hS=>by kernel_rfl) hK0 ?_
  refine take_at (i:=13) (d:=some 19) (v:=.slice nP ln gp) (by kernel_rfl) (by kernel_rfl) (fun _ _ _ h=>h) (fun w'' hS=>aj 81 (.tmp 18) (by kernel_rfl) (by kernel_rfl) (by kernel_rfl) ((hS.cell hYl (fun x=>x)).trans c4)) hK0 ?_
  refine take_at (i:=14) (d:=some 20) (v:=.int .i64 (ln:Int)) (by kernel_rfl) (by kernel_rfl) (fun _ _ _ h=>h) (fun w'' hS=>by kernel_rfl) hK0 ?_
  refine take_at (i:=15) (d:=some 21) (v:=.pointer (some ⟨Y,0,none⟩)) (by kernel_rfl) (by kernel_rfl) (fun _ _ _ h=>h) (fun w'' hS=>by kernel_rfl) hK0 ?_
  refine take_at (i:=16) (d:=some 22) (v:=.pointer (some ⟨Y,0,none⟩)) (by kernel_rfl) (by kernel_rfl) (fun _ _ _ h=>h) (fun w'' hS=>by kernel_rfl) hK0 ?_
  refine take_at (i:=17) (d:=some 23) (v:=.pointer (some ⟨Y,2,none⟩)) (by kernel_rfl) (by kernel_rfl) (fun _ _ _ h=>h) (fun w'' hS=>by kernel_rfl) hK0 ?_
  refine take_at (i:=18) (d:=some 24) (v:=.bool dead) (by kernel_rfl) (by kernel_rfl) (fun _ _ _ h=>h) (fun w'' hS=>aj 4 (.tmp 23) (by kernel_rfl) (by kernel_rfl) (by kernel_rfl) ((hS.cell hYl (fun x=>x)).trans c2)) hK0 ?_
  refine take_at (i:=19) (d:=some 25) (v:=.agg #[.int .i64 (zs.length:Int),.int .i64 (tn:Int),.int .i64 (ln:Int),.bool dead,.int .i64 0,.int .i64 0]) (by kernel_rfl) (by kernel_rfl) (fun _ _ _ h=>h) (fun w'' hS=>by kernel_rfl) hK0 ?_
  obtain⟨Z,hZ⟩:∃Z,W.drew.alloc (.cells #[.int .i64 0,.int .i64 0,.int .i64 0,.bool false,.int .i64 0,.int .i64 0] 110)=Z:=⟨_,rfl⟩;have SH:Nw W Z:=by rw[<-hZ];exact hK0.alloc _
  have uw:af Z W.heap.size #[.int .i64 0,.int .i64 0,.int .i64 0,.bool false,.int .i64 0,.int .i64 0] 110:=by rw[<-hZ];exact af.new _ _ _
  refine dG (i:=20) (d:=some 3) (v:=.pointer (some ⟨W.heap.size,0,none⟩)) (w':=Z) (by kernel_rfl) (by kernel_rfl) (by rw[<-hZ];kernel_rfl) SH ?_
  have z0:Z.cell? ⟨W.heap.size,0,none⟩=some (.int .i64 0):=uw.cell 0
  have z1:Z.cell? ⟨W.heap.size,1,none⟩=some (.int .i64 0):=uw.cell 1
  have z2:Z.cell? ⟨W.heap.size,2,none⟩=some (.int .i64 0):=uw.cell 2
  have z3:Z.cell? ⟨W.heap.size,3,none⟩=some (.bool false):=uw.cell 3
  have z4:Z.cell? ⟨W.heap.size,4,none⟩=some (.int .i64 0):=uw.cell 4
  have z5:Z.cell? ⟨W.heap.size,5,none⟩=some (.int .i64 0):=uw.cell 5
  have hfz:=uw.free;have PY:=((((((uw.set 0 (.int .i64 (zs.length:Int))).set 1 (.int .i64 (tn:Int))).set 2 (.int .i64 (ln:Int))).set 3 (.bool dead)).set 4 (.int .i64 0)).set 5 (.int .i64 0));have hN8:Nw W ((((((Z.setCell ⟨W.heap.size,0,none⟩ (.int .i64 (zs.length:Int))).setCell ⟨W.heap.size,1,none⟩ (.int .i64 (tn:Int))).setCell ⟨W.heap.size,2,none⟩ (.int .i64 (ln:Int))).setCell ⟨W.heap.size,3,none⟩ (.bool dead)).setCell ⟨W.heap.size,4,none⟩ (.int .i64 0)).setCell ⟨W.heap.size,5,none⟩ (.int .i64 0)):=(((((SH.setCell _ _ (.inr (Nat.le_refl _))).setCell _ _ (.inr (Nat.le_refl _))).setCell _ _ (.inr (Nat.le_refl _))).setCell _ _ (.inr (Nat.le_refl _))).setCell _ _ (.inr (Nat.le_refl _))).setCell _ _ (.inr (Nat.le_refl _));have HB8:=hd PY;have HN8:=hd hN8;refine Ac (i:=21) (d:=none) (w':=((((((Z.setCell ⟨W.heap.size,0,none⟩ (.int .i64 (zs.length:Int))).setCell ⟨W.heap.size,1,none⟩ (.int .i64 (tn:Int))).setCell ⟨W.heap.size,2,none⟩ (.int .i64 (ln:Int))).setCell ⟨W.heap.size,3,none⟩ (.bool dead)).setCell ⟨W.heap.size,4,none⟩ (.int .i64 0)).setCell ⟨W.heap.size,5,none⟩ (.int .i64 0))) (by kernel_rfl) (by kernel_rfl) ?_ hN8 ?_
  ·exact IZ 110 (.tmp 3) (.tmp 25) (by kernel_rfl) (by kernel_rfl) (by kernel_rfl) (by kernel_rfl) uw
  refine wpAnyH_done (by kernel_rfl) ?_ _
  simp only[Act.put,bQ,bW,bU];clear hK0 SH uw z0 z1 z2 z3 z4 z5 hfz PY hN8 hZ;go_wp2_with fail
  go_meet
  case rel=>exact⟨W.heap.size,rfl,HB8,HN8,Nat.le_refl _⟩
 case rest=>
  obtain⟨L,rfl,HB,HF,hL⟩:=hcut;rename World=>wx
  have hc0:wx.cell? ⟨Y,0,none⟩=some (.slice xW zs.length zx):=(HF.out.cell hYl (fun x=>x)).trans c0
  have hYx:Y<wx.heap.size:=Nat.lt_of_lt_of_le hYl HF.out.size;go_wp2_with fail
  go_loopw [4,5] (fun v _ wr=>∃k:Nat,k<=zs.length/\v= .int .i64 (k:Int)/\Hid (af wr L #[.int .i64 (zs.length:Int),.int .i64 (tn:Int),.int .i64 (ln:Int),.bool dead,.int .i64 (oJ bss dead k:Int),.int .i64 (vk bss dead k:Int)] 110)/\Hid (Fr (fun q=>q=L) wx wr)) (fun v _ _=>zs.length-(intOf v).toNat)
  case atStart=>exact⟨0,by omega,rfl,HB,Fr.refl _ _⟩
  case round=>
   obtain⟨k,hk,rfl,uM,HFk⟩:=hrel;have Ws:Nw W wr:=HF.out.trans HFk.out (fun i h=>.inr (by omega))
   have HRk:=hd (HRW.out.nw Ws);have HNk:=hd Ws;have cS:wr.cell? ⟨Y,0,none⟩=some (.slice xW zs.length zx):=(Ws.cell hYl (fun x=>x)).trans c0
   have hYk:Y<wr.heap.size:=Nat.lt_of_lt_of_le hYl Ws.size;clear Ws;have hlb:oJ bss dead k<=6*k/\vk bss dead k<=k:=IY HRk.out.b6 k (by rw[HRk.out.len];exact hk)
   by_cases hlt:k<zs.length
   ·have hdk:(k:Int)<(zs.length:Int):=by omega
    have aK:=hd (oU lo Y zs az inv vs bss dead (.slice qP tn aI) (.slice nP ln gp) k wr HRk.out (by rw[HRk.out.len];exact hlt))
    go_wp2_with fail
    refine aK.out.mono ?_
    rintro e w2 ⟨v',rfl,hM⟩
    obtain⟨oo,oc,hof,_⟩:=hM.row.form;have hdl:(ints (if dead=true then [] else eU (bss.getD k []) (bss.getD k []).length)).length=(qH bss dead k).length:=by simp[ints,qH]
    rw[hdl] at hof;subst hof;have Hl1:Hid (oJ bss dead (k+1)=oJ bss dead k+(qH bss dead k).length):=rfl;have Hf1:Hid (vk bss dead (k+1)=vk bss dead k+if (qH bss dead k).length=1 then 1 else 0):=rfl
    have hd6:(qH bss dead k).length<=6:=FK HRk.out.b6 k (by rw[HRk.out.len];exact hlt)
    obtain⟨pn,hpn⟩:∃pn,(qH bss dead k).length=pn:=⟨_,rfl⟩;obtain⟨lf,hlf⟩:∃lf,oJ bss dead k=lf:=⟨_,rfl⟩;obtain⟨fx,hfx⟩:∃fx,vk bss dead k=fx:=⟨_,rfl⟩;have hb1:=uM.out.nw hM.nw;rw[hlf,hfx] at hb1;rw[hpn] at Hl1 Hf1 hd6 ⊢;rw[hlf] at Hl1 hlb;rw[hfx] at Hf1 hlb;have hc4:w2.cell? ⟨L,4,none⟩=some (.int .i64 (lf:Int)):=hb1.cell 4
    have hc5:w2.cell? ⟨L,5,none⟩=some (.int .i64 (fx:Int)):=hb1.cell 5
    have hfz:=hb1.free;have hLl:=hb1.lt;have HB1:=hd hb1;have Rk:=hd (HFk.out.trans hM.nw (fun _ x=>x.elim))
    clear hM hb1 hdl hpn hlf hfx aK uM;by_cases h1:pn=1
    ·subst h1;go_wp2_with fail
     refine⟨⟨k+1,by omega,by simp,?_,(Rk.out.setCell ⟨L,4,none⟩ (.int .i64 ((lf:Int)+1)) (.inl rfl)).setCell ⟨L,5,none⟩ (.int .i64 ((fx:Int)+1)) (.inl rfl)⟩,by simp[intOf];omega⟩
     rw[Hl1.out,Hf1.out];exact(HB1.out.set 4 (.int .i64 ((lf:Int)+1))).set 5 (.int .i64 ((fx:Int)+1))
    ·have h1':((pn:Int)==1)=false:=by rw[beq_eq_false_iff_ne];omega
     have yG:Hid (vk bss dead (k+1)=fx):=hd (by rw[Hf1.out,if_neg h1];rfl)
     go_wp2_with fail
     refine⟨⟨k+1,by omega,by simp,?_,Rk.out.setCell ⟨L,4,none⟩ (.int .i64 ((lf:Int)+(pn:Int))) (.inl rfl)⟩,by simp[intOf];omega⟩
     rw[Hl1.out,yG.out];exact HB1.out.set 4 (.int .i64 ((lf:Int)+(pn:Int)))
   ·obtain rfl:zs.length=k:=by omega
    have hdk:¬((zs.length:Int)<(zs.length:Int)):=by omega
    obtain⟨lf,hlf⟩:∃lf,oJ bss dead zs.length=lf:=⟨_,rfl⟩;obtain⟨fx,hfx⟩:∃fx,vk bss dead zs.length=fx:=⟨_,rfl⟩;have hb1:=uM.out;rw[hlf,hfx] at hb1;have k0:wr.cell? ⟨L,0,none⟩=some (.int .i64 (zs.length:Int)):=hb1.cell 0
    have k1:wr.cell? ⟨L,1,none⟩=some (.int .i64 (tn:Int)):=hb1.cell 1
    have k2:wr.cell? ⟨L,2,none⟩=some (.int .i64 (ln:Int)):=hb1.cell 2
    have k3:wr.cell? ⟨L,3,none⟩=some (.bool dead):=hb1.cell 3
    have k4:wr.cell? ⟨L,4,none⟩=some (.int .i64 (lf:Int)):=hb1.cell 4
    have k5:wr.cell? ⟨L,5,none⟩=some (.int .i64 (fx:Int)):=hb1.cell 5
    have hLl:=hb1.lt;have hR:=NC.out.nw HNk.out;have r0:wr.cell? ⟨w.heap.size,0,none⟩=some (.int .i64 0):=hR.cell 0
    have r1:wr.cell? ⟨w.heap.size,1,none⟩=some (.int .i64 0):=hR.cell 1
    have r2:wr.cell? ⟨w.heap.size,2,none⟩=some (.int .i64 0):=hR.cell 2
    have r3:wr.cell? ⟨w.heap.size,3,none⟩=some (.bool false):=hR.cell 3
    have r4:wr.cell? ⟨w.heap.size,4,none⟩=some (.int .i64 0):=hR.cell 4
    have r5:wr.cell? ⟨w.heap.size,5,none⟩=some (.int .i64 0):=hR.cell 5
    have hfR:=hR.free;have HR:=hd hR;have Hlf:=hd hlf;have Hfx:=hd hfx;clear hb1 hR hlf hfx;go_wp2
    have Yx:Nw w wr:=KQ.out.trans HNk.out (fun _ x=>x.elim)
    have hB:=((((((HR.out.set 0 (.int .i64 (zs.length:Int))).set 1 (.int .i64 (tn:Int))).set 2 (.int .i64 (ln:Int))).set 3 (.bool dead)).set 4 (.int .i64 (lf:Int))).set 5 (.int .i64 (fx:Int)));have z0:=hB.cell 0;have z1:=hB.cell 1;have z2:=hB.cell 2;have z3:=hB.cell 3;have z4:=hB.cell 4;have z5:=hB.cell 5;refine bodyPost_ret (v:=.agg #[.int .i64 (zs.length:Int),.int .i64 (tn:Int),.int .i64 (ln:Int),.bool dead,.int .i64 (oJ bss dead zs.length:Int),.int .i64 (vk bss dead zs.length:Int)]) ?_ rfl ⟨rfl,(((((Yx.setCell _ _ (.inr (Nat.le_refl _))).setCell _ _ (.inr (Nat.le_refl _))).setCell _ _ (.inr (Nat.le_refl _))).setCell _ _ (.inr (Nat.le_refl _))).setCell _ _ (.inr (Nat.le_refl _))).setCell _ _ (.inr (Nat.le_refl _))⟩
    simp only[Hlf.out,Hfx.out];simp[results,Tryz.results60,go_sem,z0,z1,z2,z3,z4,z5]
theorem LX {zs vars:List Int} {rows:List (List Int)} {way:Int} (h:¬(1<=vars.length/\vars.length<=4/\rows.length<=60/\(way=1\/way=2))):bK zs vars rows way=false:=by
 cases hk:bK zs vars rows way with
 | false=>rfl
 | true=>
  exfalso
  simp only[bK,vV,kZ,Bool.and_eq_true,Bool.or_eq_true,beq_iff_eq,decide_eq_true_eq] at hk;exact h ⟨hk.1.1.2.1.1,hk.1.1.2.1.2,hk.1.2,hk.1.1.1⟩
theorem LY {zs vars:List Int} {rows:List (List Int)} {way:Int} (h:1<=vars.length/\vars.length<=4/\rows.length<=60/\(way=1\/way=2)):bK zs vars rows way=((List.range vars.length).all (lT zs.length vars)&&(List.range rows.length).all (jW zs vars rows)):=by
 have h1:vV way=true:=by simpa[vV] using h.2.2.2
 unfold bK kZ;rw[h1,decide_eq_true h.1,decide_eq_true h.2.1,decide_eq_true h.2.2.1];simp
theorem BK {p:Nat->Bool} {n k:Nat} (hk:k<n) (hp:p k=false):(List.range n).all p=false:=by
 rw[List.all_eq_false];exact⟨k,List.mem_range.2 hk,by rw[hp];simp⟩
theorem BL {p:Nat->Bool} {n:Nat} (h:∀k,k<n->p k=true):(List.range n).all p=true:=List.all_eq_true.2 fun k hk=>h k (List.mem_range.1 hk)
set_option maxRecDepth 1000000 in
theorem xk (lo Y:Nat) (zs:List Int) (az inv:Value) (vs:List Value) (bss:List (List Bool)) (dead:Bool) (tv lv:Value) (vo ro:Option Addr) (ak au:Nat) (vars:List Int) (rows:List (List Int)) (nt:Bool) (way:Int) (w:World)
  (hl:vars.length*8<=140737488355328) (hrl:rows.length*24<=140737488355328) (hR:pV w lo Y zs az inv vs bss dead tv lv) (hvs:ax w vo vars) (hrs:dW w ro rows):
  Calls Tryz.prog 93 #[.pointer (some ⟨Y,0,none⟩),.agg #[.slice vo vars.length ak,.slice ro rows.length au,.bool nt,.int .i64 way]] w fun e w'=>e= .returned (.bool (bK zs vars rows way))/\Nw w w':=by
 obtain⟨xW,zx,iU,_⟩:=hR.sz.form;rw[List.length_map] at iU;obtain⟨hz1,NM⟩:=aF hR.lJ;have Hzg:=hd (fun i hi=>fJ hR.lJ i hi)
 obtain⟨B,hB⟩:∃B,B=w.heap.size:=⟨_,rfl⟩;obtain⟨V,hV⟩:∃V,V=w.alloc (.cells #[.slice vo vars.length ak,.slice ro rows.length au,.bool nt,.int .i64 way] 41):=⟨_,rfl⟩;have fA:Nw w V:=by rw[hV];exact(Fr.refl _ w).alloc _
 have hbB:af V B #[.slice vo vars.length ak,.slice ro rows.length au,.bool nt,.int .i64 way] 41:=by rw[hV,hB];exact af.new _ _ _
 have Xu:=hR.nw fA;have hszI:ax V xW zs:=by
  have h:=Xu.sz;rw[iU] at h;exact h.oC
 have cS:V.cell? ⟨Y,0,none⟩=some (.slice xW zs.length zx):=by
  have:=Xu.blk.cell 0
  rw[iU] at this;exact this
 have hYl:=Xu.blk.lt;have c0:V.cell? ⟨B,0,none⟩=some (.slice vo vars.length ak):=hbB.cell 0
 have c1:V.cell? ⟨B,1,none⟩=some (.slice ro rows.length au):=hbB.cell 1
 have c3:V.cell? ⟨B,3,none⟩=some (.int .i64 way):=hbB.cell 3
 have hBl:=hbB.lt;have zV:=hd (hvs.nw fA);have DZ:=hd (hrs.nw fA);have afh:=hd hszI;have lK:=hd fA;have JY:=hd hbB;clear hR Xu hvs hrs hszI fA hbB iU;by_cases hh:1<=vars.length/\vars.length<=4/\rows.length<=60/\(way=1\/way=2)
 ·rw[LY hh];obtain⟨h1,h4,h60,qg⟩:=hh;have hd1:¬((vars.length:Int)<1):=by omega
  have hd4:¬((4:Int)<(vars.length:Int)):=by omega
  have acN:¬((60:Int)<(rows.length:Int)):=by omega
  obtain⟨res,hres⟩:∃res,((List.range vars.length).all (lT zs.length vars)&&(List.range rows.length).all (jW zs vars rows))=res:=⟨_,rfl⟩;rw[hres];have pz:=hd hres;clear hres;go_enter Tryz.func93,Tryz.ntmps93
  go_upto_region 1 with fail
  rw[<-hV,<-hB];clear hV hB;go_cut [34] (fun b wx=>b= .bool false/\wx=V)
  case first=>
   rcases qg with rfl | rfl
   ·go_wp2_with fail
    go_meet
    exact⟨rfl,rfl⟩
   ·go_wp2_with fail
    go_meet
    exact⟨rfl,rfl⟩
  case rest=>
   obtain⟨rfl,hwx⟩:=hcut;rw[hwx];clear hwx;go_wp2_with fail
   go_loopw [5,6] (fun i _ wr=>∃k:Nat,k<=vars.length/\i= .int .i64 (k:Int)/\Hid (∀q,q<k->lT zs.length vars q=true)/\Hid (Nw V wr)) (fun i _ _=>vars.length-(intOf i).toNat)
   case atStart=>exact⟨0,by omega,rfl,fun q hq=>absurd hq (Nat.not_lt_zero _),Fr.refl _ _⟩
   case round=>
    obtain⟨k,hk,rfl,qU,HN⟩:=hrel;have d0:wr.cell? ⟨B,0,none⟩=some (.slice vo vars.length ak):=(HN.out.cell hBl (fun x=>x)).trans c0
    have d1:wr.cell? ⟨B,1,none⟩=some (.slice ro rows.length au):=(HN.out.cell hBl (fun x=>x)).trans c1
    have dS:wr.cell? ⟨Y,0,none⟩=some (.slice xW zs.length zx):=(HN.out.cell hYl (fun x=>x)).trans cS
    have Iy:B<wr.heap.size:=Nat.lt_of_lt_of_le hBl HN.out.size;have TG:Y<wr.heap.size:=Nat.lt_of_lt_of_le hYl HN.out.size;by_cases hlt:k<vars.length
    ·have hdk:(k:Int)<(vars.length:Int):=by omega
     obtain⟨vb,iT,Wh,hvl,CW⟩:=(zV.out.nw HN.out) k hlt;have aak:lT zs.length vars k=(decide (0<=vars.getD k 0)&&decide (vars.getD k 0<(zs.length:Int)) && !(vars.take k).contains (vars.getD k 0)):=rfl;obtain⟨c,hc⟩:∃c,vars.getD k 0=c:=⟨_,rfl⟩;rw[hc] at CW aak;have Xv:=hd aak;have Hc:=hd hc;have Es:Hid (lT zs.length vars k=false->res=false):=fun h=>by rw[<-pz.out,BK hlt h];rfl
     subst Wh;clear aak hc;by_cases hc0:c<0
     ·have Hf:Hid (res=false):=hd (Es.out (by rw[Xv.out,decide_eq_false (by omega)];rfl))
      go_wp2_with fail
      go_quiet (fail)
      go_wp2_with fail
      go_ret
      exact⟨by rw[Hf.out];rfl,(lK.out.trans HN.out (fun _ x=>x.elim)).drewN _⟩
     ·by_cases hcz:(zs.length:Int)<=c
      ·have Hf:Hid (res=false):=hd (Es.out (by rw[Xv.out,decide_eq_false (show ¬(c<(zs.length:Int)) by omega),Bool.and_false];rfl))
       go_wp2_with fail
       go_quiet (fail)
       go_wp2_with fail
       go_ret
       exact⟨by rw[Hf.out];rfl,(lK.out.trans HN.out (fun _ x=>x.elim)).drewN _⟩
      ·go_wp2_with fail
       go_quiet (fail)
       go_wp2_with fail
       have HNd:=hd (HN.out.drewN nq);obtain⟨wd,hwd⟩:∃wd,wr.drewN nq=wd:=⟨_,rfl⟩;rw[hwd] at HNd ⊢;clear hwd HN d0 d1 dS Iy TG hvl CW;go_loopw [6] (fun j w1=>∃q:Nat,q<=k/\j= .int .i64 (q:Int)/\Hid (∀p,p<q->vars.getD p 0≠c)/\Hid (Nw V w1)) (fun j _=>k-(intOf j).toNat)
       case atStart=>exact⟨0,by omega,rfl,fun p hp=>absurd hp (Nat.not_lt_zero _),HNd⟩
       case round=>
        rename World=>w1
        obtain⟨q,hq,rfl,WR,IA⟩:=hrel;have d0:w1.cell? ⟨B,0,none⟩=some (.slice (some ⟨vb,iT,none⟩) vars.length ak):=(IA.out.cell hBl (fun x=>x)).trans c0
        have Iy:B<w1.heap.size:=Nat.lt_of_lt_of_le hBl IA.out.size;by_cases hqk:q<k
        ·have Xw:(q:Int)<(k:Int):=by omega
         have hqI:(q:Int)<(vars.length:Int):=by omega
         obtain⟨b2,o2,he2,hl2,hc2⟩:=(zV.out.nw IA.out) q (by omega)
         simp only[Option.some.injEq,Addr.mk.injEq,and_true] at he2;obtain⟨rfl,rfl⟩:=he2;obtain⟨b3,o3,he3,hl3,hc3⟩:=(zV.out.nw IA.out) k hlt;simp only[Option.some.injEq,Addr.mk.injEq,and_true] at he3;obtain⟨rfl,rfl⟩:=he3;rw[Hc.out] at hc3;obtain⟨x,hx⟩:∃x,vars.getD q 0=x:=⟨_,rfl⟩;rw[hx] at hc2;have Hx:=hd hx;clear hx;by_cases hxc:x=c
         ·subst hxc;have Hf:Hid (res=false):=hd (Es.out (by
           have hm:(vars.take k).contains x=true:=by
            rw[List.contains_iff_mem];refine List.mem_iff_getElem.2 ⟨q,by simp;omega,?_⟩
            rw[List.getElem_take];have:=Hx.out
            simpa[List.getD,show q<vars.length by omega] using this
           rw[Xv.out,hm,Bool.not_true,Bool.and_false]))
          go_wp2_with fail
          go_quiet (fail)
          go_wp2_with fail
          go_ret
          exact⟨by rw[Hf.out];rfl,(lK.out.trans IA.out (fun _ x=>x.elim)).drewN _⟩
         ·have hxb:(x==c)=false:=by rw[beq_eq_false_iff_ne];exact hxc
          go_wp2_with fail
          go_quiet (fail)
          go_wp2_with fail
          refine⟨⟨q+1,by omega,by simp,fun p hp=>?_,IA.out.drewN _⟩,by simp[intOf];omega⟩
          by_cases e:p=q
          ·rw[e,Hx.out];exact hxc
          ·exact WR.out p (by omega)
        ·obtain rfl:k=q:=by omega
         have Xw:¬((k:Int)<(k:Int)):=by omega
         go_wp2_with fail
         refine⟨⟨k+1,by omega,by simp,fun p hp=>?_,IA⟩,by simp[intOf];omega⟩
         by_cases e:p=k
         ·subst e;have hm:(vars.take p).contains c=false:=by
           cases h:(vars.take p).contains c with
           | false=>rfl
           | true=>
            exfalso
            rw[List.contains_iff_mem] at h;obtain⟨i,hi,he⟩:=List.mem_iff_getElem.1 h;rw[List.getElem_take] at he;have hi':i<p:=by simp at hi;omega
            exact WR.out i hi' (by simpa[List.getD,show i<vars.length by omega] using he)
          rw[Xv.out,hm,decide_eq_true (show 0<=c by omega),decide_eq_true (show c<(zs.length:Int) by omega)]
          rfl
         ·exact qU.out p (by omega)
    ·obtain rfl:vars.length=k:=by omega
     have hdk:¬((vars.length:Int)<(vars.length:Int)):=by omega
     have Hvr:Hid (∀i,i<vars.length->0<=vars.getD i 0/\vars.getD i 0<(zs.length:Int)):=fun i hi=>by
      have:=qU.out i hi
      simp only[lT,Bool.and_eq_true,decide_eq_true_eq] at this;exact⟨this.1.1,this.1.2⟩
     have acO:Hid ((List.range vars.length).all (lT zs.length vars)=true):=hd (BL qU.out);clear qU;go_wp2_with fail
     clear d0 d1 dS Iy TG;go_loopw [7,8] (fun r _ w2=>∃k:Nat,k<=rows.length/\r= .int .i64 (k:Int)/\Hid (∀q,q<k->jW zs vars rows q=true)/\Hid (Nw V w2)) (fun r _ _=>rows.length-(intOf r).toNat)
     case atStart=>exact⟨0,by omega,rfl,fun q hq=>absurd hq (Nat.not_lt_zero _),HN⟩
     case round=>
      rename World=>w2
      clear HN;obtain⟨k,hk,rfl,qU,HN⟩:=hrel;have d0:w2.cell? ⟨B,0,none⟩=some (.slice vo vars.length ak):=(HN.out.cell hBl (fun x=>x)).trans c0
      have d1:w2.cell? ⟨B,1,none⟩=some (.slice ro rows.length au):=(HN.out.cell hBl (fun x=>x)).trans c1
      have Iy:B<w2.heap.size:=Nat.lt_of_lt_of_le hBl HN.out.size;by_cases hlt:k<rows.length
      ·have hdk:(k:Int)<(rows.length:Int):=by omega
       obtain⟨rb,Fj,qo,qc,hre,PR,hrc,hRow⟩:=(DZ.out.nw HN.out) k hlt;have Es:Hid (jW zs vars rows k=false->res=false):=fun h=>by rw[<-pz.out,BK hlt h,Bool.and_false]
       have Hrd:Hid (jW zs vars rows k=nG zs vars (rows.getD k [])):=rfl;obtain⟨row,hrow⟩:∃row,rows.getD k []=row:=⟨_,rfl⟩;rw[hrow] at hrc hRow Hrd;subst hre;clear hrow;by_cases hll:row.length=vars.length
       ·have hlb:((row.length:Int)==(vars.length:Int))=true:=by rw[hll];simp
        rw[hll] at hrc;have Hll:=hd hll;have Fq:=hd hRow;clear hll hlb hRow;go_wp2_with fail
        go_quiet (fail)
        go_wp2_with fail
        have HNd:=hd (HN.out.drewN nq);obtain⟨wd,hwd⟩:∃wd,w2.drewN nq=wd:=⟨_,rfl⟩;have HRd:=hd (Fq.out.nw ((Fr.refl (fun _=>False) w2).drewN nq))
        have acP:(w2.drewN nq).cell? ⟨rb,Fj+k,none⟩=some (.slice qo vars.length qc):=hrc
        have Uz:rb<(w2.drewN nq).heap.size:=PR;rw[hwd] at HNd HRd acP Uz ⊢;clear hwd HN d0 d1 Iy PR hrc Fq;go_loopw [8] (fun j w3=>∃q:Nat,q<=vars.length/\j= .int .i64 (q:Int)/\Hid (∀p,p<q->jG zs vars row p=true)/\Hid (Nw wd w3)) (fun j _=>vars.length-(intOf j).toNat)
        case atStart=>exact⟨0,by omega,rfl,fun p hp=>absurd hp (Nat.not_lt_zero _),Fr.refl _ _⟩
        case round=>
         rename World=>w3
         obtain⟨q,hq,rfl,Hen,NI⟩:=hrel;have zX:=hd (HNd.out.trans NI.out (fun _ x=>x.elim))
         have d0:w3.cell? ⟨B,0,none⟩=some (.slice vo vars.length ak):=(zX.out.cell hBl (fun x=>x)).trans c0
         have d1:w3.cell? ⟨B,1,none⟩=some (.slice (some ⟨rb,Fj,none⟩) rows.length au):=(zX.out.cell hBl (fun x=>x)).trans c1
         have dS:w3.cell? ⟨Y,0,none⟩=some (.slice xW zs.length zx):=(zX.out.cell hYl (fun x=>x)).trans cS
         have ab3:B<w3.heap.size:=Nat.lt_of_lt_of_le hBl zX.out.size;have ag0:Y<w3.heap.size:=Nat.lt_of_lt_of_le hYl zX.out.size;by_cases La:q<vars.length
         ·have Xw:(q:Int)<(vars.length:Int):=by omega
          have drc:w3.cell? ⟨rb,Fj+k,none⟩=some (.slice qo vars.length qc):=(NI.out.cell Uz (fun x=>x)).trans acP
          have agx:rb<w3.heap.size:=Nat.lt_of_lt_of_le Uz NI.out.size;obtain⟨vb,iT,Wh,hvl,CW⟩:=(zV.out.nw zX.out) q La;obtain⟨hv0,hv1⟩:=Hvr.out q La;obtain⟨u,hu⟩:∃u:Nat,vars.getD q 0=(u:Int):=⟨(vars.getD q 0).toNat,by omega⟩
          rw[hu] at CW hv1;obtain⟨sb,sof,hse,hsl,hsc⟩:=(afh.out.nw zX.out) u (by omega)
          obtain⟨qb,YD,hqe,ag1,hqc⟩:=(HRd.out.nw NI.out) q (by rw[Hll.out];exact La)
          have hsz:=Hzg.out u (by omega)
          have Hed:Hid (jG zs vars row q=(row.getD q 0 == -1 || (decide (0<=row.getD q 0)&&decide (row.getD q 0<zs.getD u 0)))):=hd (by
           unfold jG EP;rw[hu,Int.toNat_natCast])
          obtain⟨z,hz⟩:∃z,zs.getD u 0=z:=⟨_,rfl⟩;obtain⟨y,hy⟩:∃y,row.getD q 0=y:=⟨_,rfl⟩;rw[hz] at hsc hsz Hed;rw[hy] at hqc Hed;have YN:Hid (jG zs vars row q=false->res=false):=fun h=>Es.out (by
           rw[Hrd.out];unfold nG;rw[BK (by rw[Hll.out];exact La) h,Bool.and_false])
          subst Wh;subst hse;subst hqe;clear hu hz hy;by_cases hy1:y < -1
          ·have Hf:Hid (res=false):=hd (YN.out (by
            rw[Hed.out,decide_eq_false (show ¬(0<=y) by omega),Bool.false_and,Bool.or_false,beq_eq_false_iff_ne]
            omega))
           go_wp2_with fail
           go_quiet (fail)
           go_wp2_with fail
           go_ret
           exact⟨by rw[Hf.out];rfl,(lK.out.trans zX.out (fun _ x=>x.elim)).drewN _⟩
          ·by_cases hyz:z<=y
           ·have Hf:Hid (res=false):=hd (YN.out (by
             rw[Hed.out,decide_eq_false (show ¬(y<z) by omega),Bool.and_false,Bool.or_false,beq_eq_false_iff_ne]
             omega))
            go_wp2_with fail
            go_quiet (fail)
            go_wp2_with fail
            go_ret
            exact⟨by rw[Hf.out];rfl,(lK.out.trans zX.out (fun _ x=>x.elim)).drewN _⟩
           ·have acQ:Hid (jG zs vars row q=true):=hd (by
             rw[Hed.out];by_cases e:y=-1
             ·simp[e]
             ·rw[decide_eq_true (show 0<=y by omega),decide_eq_true (show y<z by omega)]
              simp)
            go_wp2_with fail
            go_quiet (fail)
            go_wp2_with fail
            refine⟨⟨q+1,by omega,by simp,fun p hp=>?_,NI.out.drewN _⟩,by simp[intOf];omega⟩
            by_cases e:p=q
            ·rw[e];exact acQ.out
            ·exact Hen.out p (by omega)
         ·obtain rfl:vars.length=q:=by omega
          have Xw:¬((vars.length:Int)<(vars.length:Int)):=by omega
          go_wp2_with fail
          refine⟨⟨k+1,by omega,by simp,fun p hp=>?_,zX⟩,by simp[intOf];omega⟩
          by_cases e:p=k
          ·rw[e,Hrd.out];unfold nG;rw[decide_eq_true Hll.out,BL (fun p hp=>Hen.out p (by rw[<-Hll.out];exact hp))]
           rfl
          ·exact qU.out p (by omega)
       ·have hlb:((row.length:Int)==(vars.length:Int))=false:=by rw[beq_eq_false_iff_ne];omega
        have hln:((row.length:Int) != (vars.length:Int))=true:=by rw[bne,hlb];rfl
        have Hf:Hid (res=false):=hd (Es.out (by
         rw[Hrd.out];unfold nG;rw[decide_eq_false hll];rfl))
        clear hRow;go_wp2_with fail
        go_quiet (fail)
        go_wp2_with fail
        go_ret
        exact⟨by rw[Hf.out];rfl,(lK.out.trans HN.out (fun _ x=>x.elim)).drewN _⟩
      ·obtain rfl:rows.length=k:=by omega
       have hdk:¬((rows.length:Int)<(rows.length:Int)):=by omega
       have Hf:Hid (res=true):=hd (by rw[<-pz.out,acO.out,BL qU.out];rfl)
       go_wp2_with fail
       go_ret
       exact⟨by rw[Hf.out];rfl,lK.out.trans HN.out (fun _ x=>x.elim)⟩
 ·rw[LX hh];go_enter Tryz.func93,Tryz.ntmps93
  go_upto_region 1 with fail
  rw[<-hV,<-hB];clear hV hB;by_cases h1:vars.length<1
  ·have hd1:(vars.length:Int)<1:=by omega
   go_wp2_with fail
   go_ret
   exact⟨rfl,lK.out⟩
  ·have hd1:¬((vars.length:Int)<1):=by omega
   by_cases h4:4<vars.length
   ·have hd4:(4:Int)<(vars.length:Int):=by omega
    go_wp2_with fail
    go_ret
    exact⟨rfl,lK.out⟩
   ·have hd4:¬((4:Int)<(vars.length:Int)):=by omega
    by_cases h60:60<rows.length
    ·have acN:(60:Int)<(rows.length:Int):=by omega
     go_wp2_with fail
     go_ret
     exact⟨rfl,lK.out⟩
    ·have acN:¬((60:Int)<(rows.length:Int)):=by omega
     have hw1:(way==1)=false:=by rw[beq_eq_false_iff_ne];omega
     have hw2:(way==2)=false:=by rw[beq_eq_false_iff_ne];omega
     have hn1:(way != 1)=true:=by rw[bne,hw1];rfl
     have hn2:(way != 2)=true:=by rw[bne,hw2];rfl
     go_wp2_with fail
     go_ret
     exact⟨rfl,lK.out⟩
def Et (zs vars:List Int) (rows:List (List Int)) (way:Int) (tn ln:Nat) (dead:Bool):Int:=if bK zs vars rows way=false then 1 else if 12<=tn then 2 else if 0<ln then 4 else if dead=true then 3 else 0
set_option maxRecDepth 1000000 in
theorem LZ (lo Y:Nat) (zs:List Int) (az inv:Value) (vs:List Value) (bss:List (List Bool)) (dead:Bool) (qP nP:Option Addr) (tn aI ln gp:Nat) (vo ro:Option Addr) (ak au:Nat) (vars:List Int) (rows:List (List Int)) (nt:Bool) (way:Int) (w:World)
  (hl:vars.length*8<=140737488355328) (hrl:rows.length*24<=140737488355328) (hR:pV w lo Y zs az inv vs bss dead (.slice qP tn aI) (.slice nP ln gp)) (hvs:ax w vo vars) (hrs:dW w ro rows) (hno:Et zs vars rows way tn ln dead≠0):
  Calls Tryz.prog 79 #[.pointer (some ⟨Y,0,none⟩),.agg #[.slice vo vars.length ak,.slice ro rows.length au,.bool nt,.int .i64 way]] w fun e w'=>e= .returned (.int .i64 (Et zs vars rows way tn ln dead))/\Nw w w':=by
 obtain⟨B,hB⟩:∃B,B=w.heap.size:=⟨_,rfl⟩;obtain⟨V,hV⟩:∃V,V=w.alloc (.cells #[.slice vo vars.length ak,.slice ro rows.length au,.bool nt,.int .i64 way] 41):=⟨_,rfl⟩;have fA:Nw w V:=by rw[hV];exact(Fr.refl _ w).alloc _
 have hbB:af V B #[.slice vo vars.length ak,.slice ro rows.length au,.bool nt,.int .i64 way] 41:=by rw[hV,hB];exact af.new _ _ _
 have aK:=hd (xk lo Y zs az inv vs bss dead (.slice qP tn aI) (.slice nP ln gp) vo ro ak au vars rows nt way V hl hrl (hR.nw fA) (hvs.nw fA) (hrs.nw fA));have c0:V.cell? ⟨B,0,none⟩=some (.slice vo vars.length ak):=hbB.cell 0
 have c1:V.cell? ⟨B,1,none⟩=some (.slice ro rows.length au):=hbB.cell 1
 have c2:V.cell? ⟨B,2,none⟩=some (.bool nt):=hbB.cell 2
 have c3:V.cell? ⟨B,3,none⟩=some (.int .i64 way):=hbB.cell 3
 have hBl:=hbB.lt;have HR:=hd (hR.nw fA);have lK:=hd fA;unfold Et at hno ⊢;obtain⟨ok,hok⟩:∃ok,bK zs vars rows way=ok:=⟨_,rfl⟩;rw[hok] at aK hno ⊢;clear hbB fA hR hvs hrs hok;obtain⟨res,hres⟩:∃res,(if ok=false then (1:Int) else if 12<=tn then 2 else if 0<ln then 4 else if dead=true then 3 else 0)=res:=⟨_,rfl⟩
 rw[hres] at hno ⊢;have pz:=hd hres;clear hres;go_enter Tryz.func79,Tryz.ntmps79
 go_upto_region 1 with fail
 rw[<-hV,<-hB];clear hV hB;go_wp2_with fail
 refine aK.out.mono ?_
 rintro e w1 ⟨rfl,hf1⟩
 have HR1:=hd (HR.out.nw hf1);have Hf1:=hd (lK.out.trans hf1 (fun _ x=>x.elim))
 have d2:w1.cell? ⟨Y,2,none⟩=some (.bool dead):=HR1.out.blk.cell 2
 have d3:w1.cell? ⟨Y,3,none⟩=some (.slice qP tn aI):=HR1.out.blk.cell 3
 have d4:w1.cell? ⟨Y,4,none⟩=some (.slice nP ln gp):=HR1.out.blk.cell 4
 have hYl:=HR1.out.blk.lt;clear hf1 aK c0 c1 c2 c3;cases ok with
 | false=>
  have Hr:Hid (res=1):=hd pz.out.symm;go_wp2_with fail
  go_ret
  exact⟨by rw[Hr.out];rfl,Hf1.out⟩
 | true=>
  by_cases h12:12<=tn
  ·have acR:(12:Int)<=(tn:Int):=by omega
   have Hr:Hid (res=2):=hd (by rw[<-pz.out,if_neg (by simp),if_pos h12])
   go_wp2_with fail
   go_ret
   exact⟨by rw[Hr.out];rfl,Hf1.out⟩
  ·have acR:¬((12:Int)<=(tn:Int)):=by omega
   by_cases h0:0<ln
   ·have hd0:(0:Int)<(ln:Int):=by omega
    have Hr:Hid (res=4):=hd (by rw[<-pz.out,if_neg (by simp),if_neg h12,if_pos h0])
    go_wp2_with fail
    go_ret
    exact⟨by rw[Hr.out];rfl,Hf1.out⟩
   ·have hd0:¬((0:Int)<(ln:Int)):=by omega
    cases dead with
    | true=>
     have Hr:Hid (res=3):=hd (by rw[<-pz.out,if_neg (by simp),if_neg h12,if_neg h0,if_pos rfl])
     go_wp2_with fail
     go_ret
     exact⟨by rw[Hr.out];rfl,Hf1.out⟩
    | false=>
     exfalso
     apply hno
     rw[<-pz.out,if_neg (by simp),if_neg h12,if_neg h0,if_neg (by simp)]
theorem Qd {n:Nat} (hn:0<n):¬Full n aQ:=fun h=>h 0 hn (gG 0)
structure afi (w0 w:World) (X:Nat) (zs:List Int) (s:WS) (bs:List Tb) (st:List Nat):Prop where
 at_:iM w X zs s
 since:Since w0 X s
 nw:Nw w0 w
 busy:s.l.busy=false
 sk:s.sk=[]
 clo:Closure zs.length bs st s.d
 all:Full zs.length s.d->s.bs=bs
 few:s.ts.length<=bs.length
 sdm:Dm st
theorem Og (d:List Nat) (v x q:Nat) (hv:v<d.length):(d.set v x).getD q 0=if v=q then x else d.getD q 0:=by
 by_cases e:v=q
 ·subst e;simp[List.getD,hv]
 ·simp[List.getD,e]
theorem aal {d:List Nat} (h:Dm d) (v x:Nat):Dm (d.set v (Dq (d.getD v 0) x)):=⟨by rw[List.length_set];exact h.len,fun q=>by
 by_cases hv:v<d.length
 ·rw[Og _ _ _ _ hv];split
  ·exact Nat.lt_of_le_of_lt Nat.and_le_left (h.lt v)
  ·exact h.lt q
 ·rw[List.set_eq_of_length_le (by omega)]
  exact h.lt q⟩
theorem aam {d:List Nat} (h:Dm d) (v x:Nat):Dm (d.set v (rW (d.getD v 0) x)):=⟨by rw[List.length_set];exact h.len,fun q=>by
 by_cases hv:v<d.length
 ·rw[Og _ _ _ _ hv];split
  ·exact NV _ _ (h.lt v)
  ·exact h.lt q
 ·rw[List.set_eq_of_length_le (by omega)]
  exact h.lt q⟩
theorem xm (d:List Nat) (v x q:Nat) (hv:v<d.length):(d.set v x).getD q 0=if v=q then x else d.getD q 0:=iY d v q x 0 hv
theorem pO {bss:List (List Bool)} {v value:Nat} {only:Bool} (hv:v<bss.length) (h6:∀u,u<bss.length->(bss.getD u []).length<=6):∀k u,u<(bM bss v value only k).length->((bM bss v value only k).getD u []).length<=6
 | 0,u,hu=>h6 u hu
 | k+1,u,hu=>by
  have ih:=pO (value:=value) (only:=only) hv h6 k;unfold bM at hu ⊢;by_cases hc:((decide (k=value)) != only)=true
  ·rw[if_pos hc] at hu ⊢;have hv':v<(bM bss v value only k).length:=by rw[gu];exact hv
   unfold kT;rw[iY _ _ _ _ _ hv'];split
   ·rw[List.length_set];exact ih v hv'
   ·exact ih u (by simpa[kT] using hu)
  ·rw[if_neg hc] at hu ⊢;exact ih u hu
theorem L6 {bss:List (List Bool)} {v value n:Nat} (h8:bss.length<=8) (h6:∀u,u<bss.length->(bss.getD u []).length<=6) (hv:v<bss.length) (hn:(bss.getD v []).length<=n):dR (bM bss v value true n)=(dR bss).set v (Dq ((dR bss).getD v 0) value):=by
 have hdl:(dR bss).length=8:=(kK bss).len;refine dN.eq (kK _) (aal (kK bss) v value) (fun q x hx=>?_) (fun q x hx=>?_)
 ·rw[dH _ (by rw[gu];exact h8) (pO hv h6 n),kL bss v value true hv q x n] at hx
  rw[xm _ _ _ _ (by omega)]
  split at hx
  ·cases hx
  ·rename_i hc;split
   ·rename_i e;subst e;rw[BA,dH _ h8 h6,hx,Bool.true_and,decide_eq_true_eq];refine Classical.byContradiction fun hne=>hc ⟨rfl,?_,?_⟩
    ·refine Nat.lt_of_lt_of_le ?_ hn
     refine Classical.byContradiction fun hge=>?_
     simp only[List.getD] at hx;rw[List.getElem?_eq_none (by simp only[List.getD] at hge;omega)] at hx
     cases hx
    ·rw[decide_eq_false (fun e=>hne e.symm)]
     rfl
   ·rw[dH _ h8 h6];exact hx
 ·rw[xm _ _ _ _ (by omega)] at hx
  rw[dH _ (by rw[gu];exact h8) (pO hv h6 n),kL bss v value true hv q x n]
  split at hx
  ·rename_i e;subst e;rw[BA,dH _ h8 h6,Bool.and_eq_true,decide_eq_true_eq] at hx;rw[if_neg (fun h=>by rw[hx.2] at h;simp at h)]
   exact hx.1
  ·rename_i e;rw[dH _ h8 h6] at hx;rw[if_neg (fun h=>e h.1)]
   exact hx
theorem L8 {bss:List (List Bool)} {v value n:Nat} (h8:bss.length<=8) (h6:∀u,u<bss.length->(bss.getD u []).length<=6) (hv:v<bss.length) (hn:value<n):dR (bM bss v value false n)=(dR bss).set v (rW ((dR bss).getD v 0) value):=by
 have hdl:(dR bss).length=8:=(kK bss).len;have h64:=(kK bss).lt v;refine dN.eq (kK _) (aam (kK bss) v value) (fun q x hx=>?_) (fun q x hx=>?_)
 ·rw[dH _ (by rw[gu];exact h8) (pO hv h6 n),kL bss v value false hv q x n] at hx
  rw[xm _ _ _ _ (by omega)]
  split at hx
  ·cases hx
  ·rename_i hc;split
   ·rename_i e;subst e;rw[BB _ _ _ h64,dH _ h8 h6,hx,Bool.true_and];rw[decide_eq_true_eq];intro e;exact hc ⟨rfl,by omega,by rw[decide_eq_true e.symm];rfl⟩
   ·rw[dH _ h8 h6];exact hx
 ·rw[xm _ _ _ _ (by omega)] at hx
  rw[dH _ (by rw[gu];exact h8) (pO hv h6 n),kL bss v value false hv q x n]
  split at hx
  ·rename_i e;subst e;rw[BB _ _ _ h64,dH _ h8 h6] at hx;simp only[Bool.and_eq_true,decide_eq_true_eq] at hx;rw[if_neg (fun h=>by
    have h2:=h.2.2;rw[decide_eq_false (fun e=>hx.2 e.symm)] at h2
    cases h2)]
   exact hx.1
  ·rename_i e;rw[dH _ h8 h6] at hx;rw[if_neg (fun h=>e h.1)]
   exact hx
theorem L9 {bss:List (List Bool)} (h8:bss.length<=8) (h6:∀u,u<bss.length->(bss.getD u []).length<=6):oD bss=false↔Full bss.length (dR bss):=by
 unfold oD;rw[List.any_eq_false];constructor
 ·intro h q hq e;have hm:bss.getD q []∈bss:=by
   rw[aN _ _ _ hq];exact List.getElem_mem hq
  have h1:=h _ hm;have h2:(bss.getD q []).any id=true:=by simpa using h1
  obtain⟨b,hb,hb1⟩:=List.any_eq_true.1 h2;obtain⟨v,hv,rfl⟩:=List.getElem_of_mem hb;have h3:=dH bss h8 h6 q v;rw[e,aN _ _ _ hv] at h3;have h4:(bss.getD q [])[v]=true:=hb1;rw[h4] at h3;simp at h3
 ·intro h bs hbs;obtain⟨q,hq,rfl⟩:=List.getElem_of_mem hbs;obtain⟨v,hv⟩:=kz (h q hq);rw[dH bss h8 h6,aN bss q [] hq] at hv;have hvl:v<bss[q].length:=by
   refine Classical.byContradiction fun hn=>?_
   simp only[List.getD] at hv;rw[List.getElem?_eq_none (by omega)] at hv
   cases hv
  rw[aN _ _ _ hvl] at hv;have:bss[q].any id=true:=List.any_eq_true.2 ⟨_,List.getElem_mem hvl,hv⟩
  rw[this];simp
theorem vg.closure {n:Nat} {bs:List Tb} {d0 d:List Nat} (h:vg bs d0 d) (hs:∀b∈bs,dP b d) (hn:0<n):(Full n d->Closure n bs d0 d)/\(¬Full n d->Closure n bs d0 aQ):=by
 refine⟨fun hf=>⟨fun _=>⟨h.sub,hs,h.most⟩,fun hn'=>absurd hf hn'⟩,fun hf=>⟨fun hz=>absurd hz (Qd hn),fun _=>⟨rfl,fun e he hb hF=>hf (fun q hq hz=>?_)⟩⟩⟩
 obtain⟨v,hv⟩:=kz (hF q hq);have:=h.most e he hb q v hv
 rw[hz] at this;simp at this
theorem Dt (bs:List Bool):∀u∈bs.map Value.bool,u.oneCell'=true:=fun u hu=>by
 obtain⟨b,_,rfl⟩:=List.mem_map.1 hu;rfl
theorem UA {w w1:World} {e:TypeId} {v':Value} {n:Nat} {xs:List Value} (hx:0<n) (hn:xs.length=n) (h1:w1.ownsRow 0 e 1 v' (0+n) ([]++xs))
  (hg:w.grownBy w1 (Value.slice none 0 0).ownBlock) (hat:v'.ownBlock=(Value.slice none 0 0).ownBlock\/v'.ownBlock=some w.heap.size):
  ∃g cap,v'= .slice (some ⟨g,0,none⟩) n cap/\Nw w w1/\Row w1 v' e xs/\w.heap.size<=g:=by
 subst hn;have hr:Row w1 v' e xs:=by unfold Row;simpa using h1
 have hfr:Nw w w1:=(Fr.refl _ w).grown hg (fun k hk=>(by cases hk))
 rcases h1.2 with ⟨_,hn⟩ | ⟨g,cap,cur,rfl,_⟩
 ·omega
 ·refine⟨g,cap,by simp,hfr,hr,?_⟩
  rcases hat with hat | hat
  ·simp[Value.ownBlock] at hat
  ·simp[Value.ownBlock] at hat;omega
set_option maxRecDepth 1000000 in
theorem Mc (io:Option Addr) (icap:Nat) (bss:List (List Bool)) (w:World) (h8:bss.length<=8) (h6:∀u,u<bss.length->1<=(bss.getD u []).length/\(bss.getD u []).length<=6) (hin:qE w io bss):
  Calls Tryz.prog 84 #[.slice io bss.length icap] w fun e w'=>∃v,e= .returned v/\∃vs,Mine w w' v 84 vs/\eP w' w.heap.size vs bss:=by
 obtain⟨i0,hi0,hz0,hz1,hz2⟩:=info_parts Tryz.Io;obtain⟨i1,hi1,I5,hz1b,I7⟩:=info_parts Tryz.Ea;have YE:=hd hin;clear hin;go_enter Tryz.func84,Tryz.ntmps84
 go_wp2_with fail
 go_loopw [3,4,5] (fun out i _ wr=>∃(k:Nat) (vs:List Value),k<=bss.length/\i= .int .i64 (k:Int)/\Hid (Mine w wr out 84 vs)/\Hid (eP wr w.heap.size vs (bss.take k))) (fun _ i _ _=>bss.length-(intOf i).toNat)
 case atStart=>exact⟨0,[],by omega,rfl,Mine.nil (Fr.refl _ _) _,eP.nil _ _⟩
 case round=>
  obtain⟨k,vs,hk,rfl,HM,HI⟩:=hrel;obtain⟨oo,oc,hof,_⟩:=HM.out.row.form;have jv:vs.length<=8:=by rw[HI.out.len,List.length_take];omega
  subst hof;by_cases hlt:k<bss.length
  ·have hdk:(k:Int)<(bss.length:Int):=by omega
   obtain⟨ib,PT,qo,qc,hie,hil,hic,hRow⟩:=(YE.out.nw HM.out.nw) k hlt;obtain⟨h1,h6'⟩:=h6 k hlt;have Htk:Hid (bss.take (k+1)=bss.take k++[bss.getD k []]):=hd (by
    rw[List.take_succ_eq_append_getElem hlt,aN _ _ _ hlt])
   obtain⟨bs,hbs⟩:∃bs,bss.getD k []=bs:=⟨_,rfl⟩;rw[hbs] at hic hRow h1 h6' Htk;obtain⟨qb,YD,hqe,La,_⟩:=hRow 0 (by omega)
   subst hie;subst hqe;have Fv:Hid (∀(j:Nat) (v:Value),(bs.map Value.bool)[j]? = some v->wr.cell? ((⟨qb,YD,none⟩:Addr).add j)=some v):=fun j v hj=>by
    have hjl:j<bs.length:=by
     have:=(List.getElem?_eq_some_iff.1 hj).1
     simpa using this
    obtain⟨b',o',he,_,hc⟩:=hRow j hjl;simp only[Option.some.injEq,Addr.mk.injEq,and_true] at he;obtain⟨rfl,rfl⟩:=he;rw[show (⟨qb,YD,none⟩:Addr).add j=⟨qb,YD+j,none⟩ from by by_cases h:j=0 <;> simp[Addr.add,h],hc]
    rw[List.getElem?_map,List.getElem?_eq_getElem hjl] at hj
    simp only[Option.map_some,Option.some.injEq] at hj;rw[<-hj,aN _ _ _ hjl]
   clear hRow hbs;go_wp2_with (at_builtin;first
    | (refine wpList_append_own_at _ rfl _ _ 84 rfl 0 4 i0 (.bool false) 1 1 Tryz.underlying84 hi0 hz0 hz1 hz2 rfl (by decide) _ 0 [] rfl (World.ownsRow_nil _ _ _ _) ⟨qb,YD,none⟩ bs.length qc (bs.map Value.bool) rfl (by simp) Fv.out (Dt _) (by unfold maxLen;omega) (by omega) (Nat.zero_le _) ?_;intro v' w2 hown' hgrow _ hat;obtain⟨g',cap',rfl,hf2,hr2,hg2⟩:=UA h1 (by simp) hown' hgrow hat;clear hown' hgrow hat;have Hr2:=hd hr2;have yG:=hd hf2;have HM2:=hd (HM.out.step hf2);clear hr2 hf2)
    | (refine wpList_append_own_at _ rfl _ _ 79 rfl 0 84 i1 (.slice none 0 0) 1 24 Tryz.underlying79 hi1 I5 hz1b I7 rfl (by decide) _ _ _ rfl (Row.alloc HM2.out.row _) ⟨_,0,none⟩ 1 1 [.slice (some ⟨g',0,none⟩) bs.length cap'] rfl rfl (cell_one_new _ _ _) (by simp[Value.oneCell']) (by unfold maxLen;omega) (by omega) (Nat.zero_le _) ?_;intro v' w3 hown' hgrow _ hat;obtain⟨g3,cap3,rfl,hr3,hf3,AA,hlt3⟩:=app1 hown' hgrow hat))
   have hnb:∀q cur,(Value.slice oo vs.length oc).ownBlock=some q->¬af w2 q cur 4:=fun q cur hq hb=>by
    obtain⟨cur',hb',_⟩:=HM2.out.row.blk hq;exact absurd (hb.inj hb').2 (by decide)
   have hw2:=HM.out.nw.size;refine⟨⟨k+1,vs++[.slice (some ⟨g',0,none⟩) bs.length cap'],by omega,by simp,HM2.out.more (g:=g3) hr3 hf3 rfl (AA.imp (fun h=>h) (fun h=>by omega)),?_⟩,by simp[intOf];omega⟩
   rw[Htk.out];have hI2:=HI.out.fr yG.out (fun _ _ x=>x.elim)
   refine(hI2.fr hf3 hnb).snoc _ bs (Hr2.out.fr hf3 (fun q hq hS=>?_)) (fun q hq=>by cases hq;show w.heap.size<=g';omega) (fun i hi q hq e=>?_)
   ·obtain⟨cur,hb,_⟩:=Hr2.out.blk hq;exact hnb q cur hS hb
   ·have h2:=(HI.out.row i hi).lt hq;have h3:q=g':=by cases e;rfl
    omega
  ·obtain rfl:bss.length=k:=by omega
   have hdk:¬((bss.length:Int)<(bss.length:Int)):=by omega
   have HI':Hid (eP wr w.heap.size vs bss):=hd (by have:=HI.out;rwa [List.take_length] at this)
   go_wp2_with fail
   go_ret
   refine⟨_,rfl,vs,?_,HI'.out⟩
   show Mine w wr (.slice oo vs.length oc) 84 vs
   exact HM.out
set_option maxRecDepth 1000000 in
theorem Qe (Y:Nat) (az inv tv:Value) (dead:Bool) (nP:Option Addr) (gp:Nat) (w:World) (hb:af w Y #[az,inv,.bool dead,tv,.slice nP 0 gp] 83):
  Calls Tryz.prog 64 #[.pointer (some ⟨Y,0,none⟩)] w fun e w'=>e= .returned (.int .i64 4)/\w'=w:=by
 have c4:w.cell? ⟨Y,4,none⟩=some (.slice nP 0 gp):=hb.cell 4
 have hYl:=hb.lt;go_enter Tryz.func64,Tryz.ntmps64
 go_wp2_with fail
 go_ret
 exact⟨rfl,rfl⟩
set_option maxRecDepth 1000000 in
theorem Md (Y:Nat) (az inv tv:Value) (dead UB:Bool) (lg n gp io':Nat) (in' ic':Nat) (w:World) (hb:af w Y #[az,inv,.bool dead,tv,.slice (some ⟨lg,0,none⟩) (n+1) gp] 83) (Xx:lg≠Y)
  (c0:w.cell? ⟨lg,n*2,none⟩=some (.slice (some ⟨io',0,none⟩) in' ic')) (c1:w.cell? ⟨lg,n*2+1,none⟩=some (.bool UB)) (hn:n<20) (hcap:n+1<=gp):
  Calls Tryz.prog 64 #[.pointer (some ⟨Y,0,none⟩)] w fun e w'=>e= .returned (.int .i64 0)/\af w' Y #[az,.slice (some ⟨io',0,none⟩) in' ic',.bool UB,tv,.slice (some ⟨lg,0,none⟩) n gp] 83/\Fr (fun q=>q=Y) w w':=by
 have c4:w.cell? ⟨Y,4,none⟩=some (.slice (some ⟨lg,0,none⟩) (n+1) gp):=hb.cell 4
 have d1:w.cell? ⟨Y,1,none⟩=some inv:=hb.cell 1
 have d2:w.cell? ⟨Y,2,none⟩=some (.bool dead):=hb.cell 2
 have hYl:=hb.lt;have hfz:=hb.free;have ag2:Y≠lg:=fun e=>Xx e.symm
 have HB:=hd hb;clear hb;go_enter Tryz.func64,Tryz.ntmps64
 go_wp2_with fail
 go_ret
 refine⟨rfl,((HB.out.set 1 (.slice (some ⟨io',0,none⟩) in' ic')).set 2 (.bool UB)).set 4 (.slice (some ⟨lg,0,none⟩) n gp),?_⟩
 exact(((Fr.refl (fun q=>q=Y) w).setCell ⟨Y,1,none⟩ _ (.inl rfl)).setCell ⟨Y,2,none⟩ _ (.inl rfl)).setCell ⟨Y,4,none⟩ _ (.inl rfl)
theorem tC {w:World} {v:Value} {e:TypeId} {sz n:Nat} {xs:List Value} (h:w.ownsRow 0 e sz v n xs) (i:Nat) (hi:i<n*sz):∃g cap,v= .slice (some ⟨g,0,none⟩) n cap/\g<w.heap.size/\n<=cap/\w.cell? ⟨g,i,none⟩=xs[i]?:=by
 rcases h.2 with ⟨_,h0⟩ | ⟨g,cap,cur,hv,_,hg,hn,_⟩
 ·subst h0;simp at hi
 ·have hcell:=h.cells (g:=g) (by rw[hv];rfl)
  have hx:i<xs.length:=by rw[h.1];exact hi
  have:=hcell i xs[i] (List.getElem?_eq_getElem hx)
  rw[show (⟨g,0,none⟩:Addr).add i=⟨g,i,none⟩ from by by_cases h:i=0 <;> simp only[Addr.add,h,if_true,if_false,Nat.zero_add]] at this
  exact⟨g,cap,hv,lt_of_block hg,hn,by rw[this,List.getElem?_eq_getElem hx]⟩
theorem iQ {w:World} {v:Value} {e:TypeId} {sz n:Nat} {xs:List Value} (h:w.ownsRow 0 e sz v n xs):∃lo cap,v= .slice lo n cap:=by
 rcases h.2 with ⟨rfl,h0⟩ | ⟨g,cap,cur,rfl,_⟩
 ·exact⟨none,0,by rw[h0]⟩
 ·exact⟨_,_,rfl⟩
theorem UC {w:World} {g n cap:Nat} {e:TypeId} {sz:Nat} {xs ys:List Value} (h:w.ownsRow 0 e sz (.slice (some ⟨g,0,none⟩) (n+1) cap) (n+1) (xs++ys)) (hx:xs.length=n*sz):w.ownsRow 0 e sz (.slice (some ⟨g,0,none⟩) n cap) n xs:=by
 rcases h.2 with ⟨h1,_⟩ | ⟨g',cap',cur,hv,h0,hg,h1,h2,h3,h4⟩
 ·cases h1
 ·simp only[Value.slice.injEq,Option.some.injEq,Addr.mk.injEq,and_true,true_and] at hv;obtain⟨rfl,rfl⟩:=hv;refine⟨hx,.inr ⟨g,cap,cur,rfl,h0,hg,by omega,h2,h3,?_⟩⟩
  have h5:=congrArg (List.take (n*sz)) h4;have h6:(xs++ys).take (n*sz)=xs:=by rw[List.take_append_of_le_length (by omega),List.take_of_length_le (by omega)]
  rw[List.take_take,Nat.min_eq_left (by rw[Nat.add_mul];omega),h6] at h5
  exact h5
structure RL where
 inv:Value
 vs:List Value
 bss:List (List Bool)
 dead:Bool
def RL.has (l:RL) (k:Nat):Prop:=∃u,u<l.vs.length/\(l.vs.getD u aZ).ownBlock=some k
def RL.cells (l:RL):List Value:=[l.inv,.bool l.dead]
structure yL (w:World) (lo:Nat) (zs:List Int) (l:RL):Prop where
 wW:Row w l.inv 84 l.vs
 rows:eP w lo l.vs l.bss
 len:l.bss.length=zs.length
 each:∀u,u<zs.length->(l.bss.getD u []).length=(zs.getD u 0).toNat
 yK:∀k,l.inv.ownBlock=some k->lo<=k
theorem eP.frV {S:Nat->Prop} {w w':World} {lo:Nat} {vs:List Value} {bss:List (List Bool)} (h:eP w lo vs bss) (f:Fr S w w') (hn:∀k,(∃u,u<vs.length/\(vs.getD u aZ).ownBlock=some k)->¬S k):eP w' lo vs bss:=
 ⟨h.len,fun i hi=>(h.row i hi).fr f (fun k hk=>hn k ⟨i,by rw[h.len];exact hi,hk⟩),h.ne,h.lo⟩
theorem yL.fr {S:Nat->Prop} {w w':World} {lo:Nat} {zs:List Int} {l:RL} (h:yL w lo zs l) (f:Fr S w w') (h1:∀k,l.has k->¬S k) (h2:∀k,l.inv.ownBlock=some k->¬S k):yL w' lo zs l:=⟨h.wW.fr f h2,h.rows.frV f h1,h.len,h.each,h.yK⟩
theorem yL.bool {w:World} {lo:Nat} {zs:List Int} {l:RL} (h:yL w lo zs l) {k:Nat} (hk:l.has k):∃cur,af w k cur 4:=by
 obtain⟨u,hu,hk⟩:=hk;obtain⟨cur,hb,_⟩:=(h.rows.row u (by rw[<-h.rows.len];exact hu)).blk hk
 exact⟨cur,hb⟩
theorem yL.lo {w:World} {lo:Nat} {zs:List Int} {l:RL} (h:yL w lo zs l) {k:Nat} (hk:l.has k):lo<=k:=by
 obtain⟨u,hu,hk⟩:=hk;exact h.rows.lo u (by rw[<-h.rows.len];exact hu) k hk
theorem pV.uz {w:World} {lo Y:Nat} {zs:List Int} {az inv:Value} {vs:List Value} {bss:List (List Bool)} {dead:Bool} {tv lv:Value} (h:pV w lo Y zs az inv vs bss dead tv lv):yL w lo zs ⟨inv,vs,bss,dead⟩:=⟨h.wW,h.rows,h.len,h.each,h.yK⟩
structure RS where
 az:Value
 now:RL
 tv:Value
 ts:List jO
 lv:Value
 ls:List RL
def vw (W:World) (cells:List Value) (ts:List jO):Prop:=∀i,i<ts.length->∃vo ak ro au,cells[i*4]? = some (.slice vo (ts.getD i jk).tb.vars.length ak)/\cells[i*4+1]? = some (.slice ro (ts.getD i jk).tb.rows.length au)/\cells[i*4+2]? = some (.bool (ts.getD i jk).tb.nt)/\cells[i*4+3]? = some (.int .i64 (ts.getD i jk).way) /\
  ax W vo (ts.getD i jk).tb.vars/\dW W ro (ts.getD i jk).tb.rows
theorem vw.tabs {W w:World} {tv:Value} {cells:List Value} {ts:List jO} (h:vw W cells ts) (ho:w.ownsRow 0 41 4 tv ts.length cells):nO W w tv ts:=by
 refine⟨iQ ho,fun i hi=>?_⟩
 obtain⟨vo,ak,ro,au,c0,c1,c2,c3,h1,h2⟩:=h i hi;obtain⟨g,cap,hv,hg,_,k0⟩:=tC ho (i*4) (by omega)
 have key:∀c,c<4->w.cell? ⟨g,i*4+c,none⟩=cells[i*4+c]?:=fun c hc=>by
  obtain⟨g',cap',hv',_,_,k1⟩:=tC ho (i*4+c) (by omega)
  rw[hv] at hv';simp only[Value.slice.injEq,Option.some.injEq,Addr.mk.injEq,and_true,true_and] at hv';rw[hv'.1];exact k1
 exact⟨g,cap,vo,ak,ro,au,hv,hg,k0.trans c0,(key 1 (by omega)).trans c1,(key 2 (by omega)).trans c2,(key 3 (by omega)).trans c3,h1,h2⟩
theorem vw.snoc {W:World} {cells:List Value} {ts:List jO} (h:vw W cells ts) (hl:cells.length=ts.length*4) (t:jO) (vo ro:Option Addr) (ak au:Nat) (h1:ax W vo t.tb.vars) (h2:dW W ro t.tb.rows):
  vw W (cells++[.slice vo t.tb.vars.length ak,.slice ro t.tb.rows.length au,.bool t.tb.nt,.int .i64 t.way]) (ts++[t]):=fun i hi=>by
 rw[List.length_append] at hi;have hi':i<ts.length+1:=hi;by_cases he:i<ts.length
 ·obtain⟨vo,ak,ro,au,c0,c1,c2,c3,k1,k2⟩:=h i he;have e1:(ts++[t]).getD i jk=ts.getD i jk:=by simp only[List.getD];rw[List.getElem?_append_left he]
  rw[e1];exact⟨vo,ak,ro,au,by rw[List.getElem?_append_left (by omega)];exact c0,by rw[List.getElem?_append_left (by omega)];exact c1,by rw[List.getElem?_append_left (by omega)];exact c2,by rw[List.getElem?_append_left (by omega)];exact c3,k1,k2⟩
 ·obtain rfl:i=ts.length:=by omega
  have e1:(ts++[t]).getD ts.length jk=t:=by simp[List.getD]
  rw[e1];refine⟨vo,ak,ro,au,?_,?_,?_,?_,h1,h2⟩
  ·rw[List.getElem?_append_right (by omega),hl,Nat.sub_self]
   rfl
  ·rw[List.getElem?_append_right (by omega),hl,Nat.add_sub_cancel_left]
   rfl
  ·rw[List.getElem?_append_right (by omega),hl,Nat.add_sub_cancel_left]
   rfl
  ·rw[List.getElem?_append_right (by omega),hl,Nat.add_sub_cancel_left]
   rfl
def Apart (ls:List RL):Prop:=ls.Pairwise (fun a b=>∀k,a.has k->¬b.has k)
structure mF (W w:World) (lo Y:Nat) (zs:List Int) (R:RS):Prop where
 dU:pV w lo Y zs R.az R.now.inv R.now.vs R.now.bss R.now.dead R.tv R.lv
 tabs:∃cells,w.ownsRow 0 41 4 R.tv R.ts.length cells/\vw W cells R.ts
 t12:R.ts.length<=12
 tok:∀i,i<R.ts.length->bK zs (R.ts.getD i jk).tb.vars (R.ts.getD i jk).tb.rows (R.ts.getD i jk).way=true
 ug:w.ownsRow 0 147 2 R.lv R.ls.length (R.ls.reverse.flatMap RL.cells)
 ku:∀l∈R.ls,yL w lo zs l
 l20:R.ls.length<=20
 apart:Apart (R.now::R.ls)
 tlo:∀k,R.tv.ownBlock=some k->lo<=k
 nP:∀k,R.lv.ownBlock=some k->lo<=k
def RS.wr (Y:Nat) (R:RS) (k:Nat):Prop:=k=Y\/R.now.has k\/R.tv.ownBlock=some k\/R.lv.ownBlock=some k
def RS.own (Y:Nat) (R:RS) (k:Nat):Prop:=R.wr Y k\/R.az.ownBlock=some k\/R.now.inv.ownBlock=some k\/∃l∈R.ls,l.has k\/l.inv.ownBlock=some k
theorem mF.UD {W w:World} {lo Y:Nat} {zs:List Int} {R:RS} (h:mF W w lo Y zs R):nO W w R.tv R.ts:=by
 obtain⟨cells,h1,h2⟩:=h.tabs;exact h2.tabs h1
theorem mF.fr {S:Nat->Prop} {W w w':World} {lo Y:Nat} {zs:List Int} {R:RS} (h:mF W w lo Y zs R) (f:Fr S w w') (hn:∀k,R.own Y k->¬S k):mF W w' lo Y zs R:=by
 obtain⟨cells,h1,h2⟩:=h.tabs;have hr:=h.dU;refine⟨⟨hr.blk.fr f (hn Y (.inl (.inl rfl))),hr.sz.fr f (fun k hk=>hn k (.inr (.inl hk))),hr.wW.fr f (fun k hk=>hn k (.inr (.inr (.inl hk)))),hr.rows.frV f (fun k hk=>hn k (.inl (.inr (.inl hk)))),hr.len,hr.each,hr.lJ,hr.IM,hr.yK,hr.YL⟩,
  ⟨cells,ownsRow.fr h1 f (fun k hk=>hn k (.inl (.inr (.inr (.inl hk))))),h2⟩,h.t12,h.tok,ownsRow.fr h.ug f (fun k hk=>hn k (.inl (.inr (.inr (.inr hk))))),fun l hl=>(h.ku l hl).fr f (fun k hk=>hn k (.inr (.inr (.inr ⟨l,hl,.inl hk⟩)))) (fun k hk=>hn k (.inr (.inr (.inr ⟨l,hl,.inr hk⟩)))),h.l20,h.apart,h.tlo,h.nP⟩
theorem mF.nw {W w w':World} {lo Y:Nat} {zs:List Int} {R:RS} (h:mF W w lo Y zs R) (f:Nw w w'):mF W w' lo Y zs R:=h.fr f (fun _ _ x=>x)
def rY:List TypeId:=[83,4,41,147]
theorem mF.Xy {W w:World} {lo Y:Nat} {zs:List Int} {R:RS} (h:mF W w lo Y zs R) {k:Nat} (hk:R.wr Y k):∃cur e,af w k cur e/\e∈rY:=by
 rcases hk with rfl | hk | hk | hk
 ·exact⟨_,_,h.dU.blk,by decide⟩
 ·obtain⟨cur,hb⟩:=h.dU.uz.bool hk;exact⟨_,_,hb,by decide⟩
 ·obtain⟨cells,h1,_⟩:=h.tabs;obtain⟨cur,hb⟩:=ownsRow.blk h1 hk;exact⟨_,_,hb,by decide⟩
 ·obtain⟨cur,hb⟩:=ownsRow.blk h.ug hk;exact⟨_,_,hb,by decide⟩
theorem mF.only {W w:World} {lo Y:Nat} {zs:List Int} {R:RS} (h:mF W w lo Y zs R):Only w (R.wr Y) rY:=fun k cur e hk hb=>by
 obtain⟨_,_,hb',he⟩:=h.Xy hk;rw[(hb.inj hb').2];exact he
theorem mF.ty {W w:World} {lo Y:Nat} {zs:List Int} {R:RS} (h:mF W w lo Y zs R) {k:Nat} (hk:R.own Y k):R.az.ownBlock=some k\/∃cur e,af w k cur e/\(e∈rY\/e=84):=by
 rcases hk with hk | hk | hk | ⟨l,hl,hk | hk⟩
 ·obtain⟨cur,e,hb,he⟩:=h.Xy hk;exact .inr ⟨cur,e,hb,.inl he⟩
 ·exact .inl hk
 ·obtain⟨cur,hb,_⟩:=h.dU.wW.blk hk;exact .inr ⟨cur,_,hb,.inr rfl⟩
 ·obtain⟨cur,hb⟩:=(h.ku l hl).bool hk;exact .inr ⟨cur,_,hb,.inl (by decide)⟩
 ·obtain⟨cur,hb,_⟩:=(h.ku l hl).wW.blk hk;exact .inr ⟨cur,_,hb,.inr rfl⟩
theorem mF.lt {W w:World} {lo Y:Nat} {zs:List Int} {R:RS} (h:mF W w lo Y zs R) {k:Nat} (hk:R.own Y k):k<w.heap.size:=by
 rcases h.ty hk with h1 | ⟨_,_,hb,_⟩
 ·exact h.dU.sz.lt h1
 ·exact hb.lt
theorem mF.lo {W w:World} {lo Y:Nat} {zs:List Int} {R:RS} (h:mF W w lo Y zs R) {k:Nat} (hk:R.own Y k):lo<=k:=by
 rcases hk with (rfl | hk | hk | hk) | hk | hk | ⟨l,hl,hk | hk⟩
 ·exact h.dU.YL
 ·exact h.dU.uz.lo hk
 ·exact h.tlo k hk
 ·exact h.nP k hk
 ·exact h.dU.IM k hk
 ·exact h.dU.yK k hk
 ·exact(h.ku l hl).lo hk
 ·exact(h.ku l hl).yK k hk
def kM (n:Nat) (l:RL) (d:List Nat):Prop:=(l.dead=true/\d=aQ)\/(l.dead=false/\d=dR l.bss/\Full n d)
theorem kM.iff {n:Nat} {l:RL} {d:List Nat} (hn:0<n) (h:kM n l d):d.getD 0 0=0↔l.dead=true:=by
 rcases h with ⟨h1,rfl⟩ | ⟨h1,h2,h3⟩
 ·rw[h1,gG];simp
 ·rw[h1];constructor
  ·intro h;exact absurd h (h3 0 hn)
  ·intro h;cases h
def uF (n:Nat):List RL->List (Nat×List Nat×List TS)->Prop
 | [],[]=>True
 | l::ls,p::ps=>kM n l p.2.1/\uF n ls ps
 | _,_=>False
theorem uF.len {n:Nat}:∀{ls:List RL} {ps:List (Nat×List Nat×List TS)},uF n ls ps->ls.length=ps.length
 | [],[],_=>rfl
 | l::ls,p::ps,h=>by rw[List.length_cons,List.length_cons,h.2.len]
 | [],_::_,h=>h.elim
 | _::_,[],h=>h.elim
structure Pair (bz:Bool) (W w:World) (lo X Y:Nat) (zs:List Int) (s:WS) (R:RS):Prop where
 at_:iM w X zs s
 ref:mF W w lo Y zs R
 busy:s.l.busy=bz
 now:kM zs.length R.now s.d
 tabs:s.bs=R.ts.map jO.tb
 ku:uF zs.length R.ls s.sk
 UE:∀k,R.az.ownBlock=some k->¬s.own X k
 xlo:∀k,s.own X k->lo<=k
structure Eu (w w':World) (X Y:Nat) (s s':WS) (R R':RS):Prop where
 fr:Fr (fun k=>s.own X k\/R.wr Y k) w w'
 grow:∀k,s'.own X k\/R'.own Y k->s.own X k\/R.own Y k\/w.heap.size<=k
theorem Eu.nw {w w':World} (h:Nw w w') (X Y:Nat) (s:WS) (R:RS):Eu w w' X Y s s R R:=⟨h.mono (fun _ x=>x.elim),fun k h=>by
 rcases h with h | h
 ·exact .inl h
 ·exact .inr (.inl h)⟩
theorem Qg:yJ.all (fun e=>!(rY.contains e)&&e != 84)=true:=by decide
theorem iM.FM {W w:World} {lo X Y:Nat} {zs zs':List Int} {s:WS} {R:RS} (h:iM w X zs' s) (hr:mF W w lo Y zs R) (hz:∀k,R.az.ownBlock=some k->¬s.own X k) (k:Nat) (hk:R.own Y k):¬s.own X k:=fun ho=>by
 rcases hr.ty hk with h1 | ⟨cur,e,hb,he⟩
 ·exact hz k h1 ho
 ·obtain⟨cur',e',hb',he'⟩:=h.mem.ty ho;have e1:=(hb.inj hb').2;subst e1;have h2:=List.all_eq_true.1 Qg e he';simp only[Bool.and_eq_true,Bool.not_eq_true',bne_iff_ne,ne_eq] at h2;rcases he with he | he
  ·have:rY.contains e=true:=List.contains_iff_mem.2 he
   rw[h2.1] at this;cases this
  ·exact h2.2 he
theorem Pair.nw {bz:Bool} {W w w':World} {lo X Y:Nat} {zs:List Int} {s:WS} {R:RS} (h:Pair bz W w lo X Y zs s R) (f:Nw w w'):Pair bz W w' lo X Y zs s R:=⟨h.at_.nw f,h.ref.nw f,h.busy,h.now,h.tabs,h.ku,h.UE,h.xlo⟩
theorem Pair.mid {bz:Bool} {W w w1 w2:World} {lo X Y:Nat} {zs:List Int} {s s':WS} {R:RS} (h:Pair bz W w lo X Y zs s R) (k:gq w w1 X s s') (f:Nw w1 w2):mF W w2 lo Y zs R:=(h.ref.fr k.fr (h.at_.FM h.ref h.UE)).nw f
theorem Pair.join {bz:Bool} {W w w1 w2 w3:World} {lo X Y:Nat} {zs:List Int} {s s':WS} {R R':RS} (hlo:W.heap.size<=lo) (hW:Nw W w) (Qh:lo<=w.heap.size) (h:Pair bz W w lo X Y zs s R) (h1:iM w1 X zs s') (k:gq w w1 X s s') (f:Nw w1 w2) (hr:mF W w3 lo Y zs R') (hfr:Fr (R.wr Y) w2 w3) (hz:R'.az=R.az) (hg:∀k,R'.own Y k->R.own Y k\/w2.heap.size<=k)
  (hb:s'.l.busy=bz) (hn:kM zs.length R'.now s'.d) (ht:s'.bs=R'.ts.map jO.tb) (hl:uF zs.length R'.ls s'.sk):Pair bz W w3 lo X Y zs s' R'/\Eu w w3 X Y s s' R R'/\Nw W w3:=by
 have hr2:=h.mid k f;have hz':∀k,R.az.ownBlock=some k->¬s'.own X k:=fun q hq ho=>by
  rcases k.grow q ho with h2 | h2
  ·exact h.UE q hq h2
  ·have:=h.ref.dU.sz.lt hq
   omega
 have h12:=h1.nw f;have hw2:w.heap.size<=w2.heap.size:=Nat.le_trans k.fr.size f.size;have hwr:Fr (fun k=>s.own X k\/R.wr Y k) w w3:=((k.fr.mono (fun i hi=>.inl (.inl hi))).trans f (fun i hi=>hi.elim)).trans hfr (fun i hi=>.inl (.inr hi))
 refine⟨⟨h12.fr hfr (fun q hq hw=>h12.FM hr2 hz' q (.inl hw) hq) hr2.only (by decide),hr,hb,hn,ht,hl,by rw[hz];exact hz',fun q hq=>?_⟩,⟨hwr,fun q hq=>?_⟩,hW.trans hwr (fun i hi=>.inr ?_)⟩
 ·rcases k.grow q hq with h2 | h2
  ·exact h.xlo q h2
  ·omega
 ·rcases hq with hq | hq
  ·rcases k.grow q hq with h2 | h2
   ·exact .inl h2
   ·exact .inr (.inr h2)
  ·rcases hg q hq with h2 | h2
   ·exact .inr (.inl h2)
   ·exact .inr (.inr (by omega))
 ·rcases hi with hi | hi
  ·have:=h.xlo i hi
   omega
  ·have:=h.ref.lo (.inl hi)
   omega
theorem mF.YO {W w w':World} {lo Y:Nat} {zs:List Int} {R:RS} {bss:List (List Bool)} {dead:Bool} (h:mF W w lo Y zs R) (hf:Fr (fun q=>q=Y\/R.now.has q) w w') (hin:pV w' lo Y zs R.az R.now.inv R.now.vs bss dead R.tv R.lv):mF W w' lo Y zs {R with now:=⟨R.now.inv,R.now.vs,bss,dead⟩}:=by
 obtain⟨cells,h1,h2⟩:=h.tabs;have hty:∀q,(q=Y\/R.now.has q)->∃cur e,af w q cur e/\(e=83\/e=4):=fun q hq=>by
  rcases hq with rfl | hq
  ·exact⟨_,_,h.dU.blk,.inl rfl⟩
  ·obtain⟨cur,hb⟩:=h.dU.uz.bool hq;exact⟨_,_,hb,.inr rfl⟩
 refine⟨hin,⟨cells,ownsRow.fr h1 hf (fun q hq hs=>?_),h2⟩,h.t12,h.tok,ownsRow.fr h.ug hf (fun q hq hs=>?_),fun l hl=>(h.ku l hl).fr hf (fun q hq hs=>?_) (fun q hq hs=>?_),h.l20,?_,h.tlo,h.nP⟩
 ·obtain⟨cur,e,hb,he⟩:=hty q hs;obtain⟨cur',hb'⟩:=ownsRow.blk h1 hq;rw[(hb.inj hb').2] at he;exact absurd he (by decide)
 ·obtain⟨cur,e,hb,he⟩:=hty q hs;obtain⟨cur',hb'⟩:=ownsRow.blk h.ug hq;rw[(hb.inj hb').2] at he;exact absurd he (by decide)
 ·rcases hs with rfl | hs
  ·obtain⟨cur,hb⟩:=(h.ku l hl).bool hq;exact absurd (hb.inj h.dU.blk).2 (by decide)
  ·exact(List.pairwise_cons.1 h.apart).1 l hl q hs hq
 ·obtain⟨cur,e,hb,he⟩:=hty q hs;obtain⟨cur',hb',_⟩:=(h.ku l hl).wW.blk hq;rw[(hb.inj hb').2] at he;exact absurd he (by decide)
 ·have ha:=List.pairwise_cons.1 h.apart;exact List.pairwise_cons.2 ⟨ha.1,ha.2⟩
theorem mF.acS {W w:World} {lo Y:Nat} {zs:List Int} {R:RS} (h:mF W w lo Y zs R):∀k,R.tv.ownBlock=some k->∃cur,af w k cur 41:=fun k hk=>by
 obtain⟨cells,h1,_⟩:=h.tabs;exact ownsRow.blk h1 hk
theorem BM {n:Nat} {bs:List Tb} {d0:List Nat} {bss:List (List Bool)} {inv:Value} {vs:List Value} (hn:0<n) (hl:bss.length=n) (h8:bss.length<=8) (h6:∀u,u<bss.length->(bss.getD u []).length<=6) (h:vg bs d0 (dR bss)) (hs:∀b∈bs,dP b (dR bss)):∃d,Dm d/\Closure n bs d0 d/\kM n ⟨inv,vs,bss,oD bss⟩ d:=by
 obtain⟨h1,h2⟩:=h.closure hs hn;have hf:=L9 h8 h6;rw[hl] at hf;cases hb:oD bss with
 | false=>
  have hF:=hf.1 hb;exact⟨_,kK bss,h1 hF,.inr ⟨rfl,rfl,hF⟩⟩
 | true=>
  have hF:¬Full n (dR bss):=fun hF=>by
   rw[hf.2 hF] at hb;cases hb
  exact⟨_,Bv,h2 hF,.inl ⟨rfl,rfl⟩⟩
theorem aan {Y:Nat} {R:RS} {q:Nat} (h:q=Y\/R.now.has q):R.wr Y q:=h.elim .inl (fun h=>.inr (.inl h))
theorem I8 {W w:World} {lo Y:Nat} {zs:List Int} {R:RS} {v value:Nat} {only:Bool} (hlo:W.heap.size<=lo) (hW:Nw W w) (h:mF W w lo Y zs R) (hd:R.now.dead=false) (hv:v<zs.length) (hx:(value:Int)<zs.getD v 0):
  Calls Tryz.prog 58 #[.pointer (some ⟨Y,0,none⟩),.int .i64 (v:Int),.int .i64 (value:Int),.bool only] w fun e w'=>e= .returned (.int .i64 0)/\∃now d,mF W w' lo Y zs {R with now:=now}/\Fr (R.wr Y) w w'/\(∀k,RS.own Y {R with now:=now} k->R.own Y k)/\Dm d/\Closure zs.length (R.ts.map jO.tb) (dR (bM R.now.bss v value only (zs.getD v 0).toNat)) d/\kM zs.length now d:=by
 have hr:=h.dU;rw[hd] at hr;refine(LV W lo Y zs R.az R.now.inv R.now.vs R.now.bss R.tv R.lv R.ts v value only w hlo hW h.t12 h.tok hr h.UD h.acS hv hx).mono ?_
 rintro e w' ⟨rfl,b',h1,h2,h3,h4,h5⟩
 obtain⟨d,k1,k2,k3⟩:=BM (inv:=R.now.inv) (vs:=R.now.vs) (aF h.dU.lJ).1 h1.len h1.LM h1.b6 h3 h4;exact⟨rfl,_,d,h.YO h5 h1,h5.mono (fun q hq=>.inl (aan hq)),fun k hk=>hk,k1,k2,k3⟩
theorem UF (d:List Nat) (q:Nat) (h:∀v,(d.getD q 0).testBit v=false):d.getD q 0=0:=Nat.eq_of_testBit_eq (fun v=>by rw[h v,Nat.zero_testBit])
theorem kM.vals {zs:List Int} {l:RL} {d:List Nat} (h:kM zs.length l d) (h8:l.bss.length<=8) (h6:∀u,u<l.bss.length->(l.bss.getD u []).length<=6) (hl:l.bss.length=zs.length) (q:Nat):vals (d.getD q 0)=if q<zs.length then qH l.bss l.dead q else []:=by
 rcases h with ⟨h1,rfl⟩ | ⟨h1,h2,h3⟩
 ·rw[gG,sJ,h1];simp[qH]
 ·rw[h1,h2];by_cases hq:q<zs.length
  ·rw[if_pos hq,Qc _ h8 h6 q (by rw[hl];exact hq)]
   simp[qH]
  ·rw[if_neg hq,UF _ _ (fun v=>?_),sJ]
   rw[dH _ h8 h6];have:l.bss.getD q []=[]:=by
    simp only[List.getD];rw[List.getElem?_eq_none (by omega)]
    rfl
   rw[this];rfl
structure vz (w:World) (lo:Option Addr) (ls:List Int) (vars:List Int) (l:List Nat):Prop where
 at_:ax w lo ls
 len:l.length=vars.length
 get:∀i,i<vars.length->(vars.getD i 0).toNat<ls.length/\0<=vars.getD i 0/\ls.getD (vars.getD i 0).toNat 0=(l.getD i 0:Nat)/\l.getD i 0<6
theorem vz.nw {w w':World} {lo:Option Addr} {ls vars:List Int} {l:List Nat} (h:vz w lo ls vars l) (f:Nw w w'):vz w' lo ls vars l:=⟨h.at_.nw f,h.len,h.get⟩
def uh (br:List Nat) (live:Nat) (l:List Nat):Nat->Nat
 | 0=>live
 | k+1=>uh br live l k &&& br.getD (k*6+l.getD k 0) 0
theorem FN (br:List Nat) (live:Nat) (l:List Nat) (h:live<18446744073709551616):∀k,uh br live l k<18446744073709551616
 | 0=>h
 | k+1=>Nat.lt_of_le_of_lt Nat.and_le_left (FN br live l h k)
theorem BN (br:List Nat) (live:Nat) (l:List Nat) (j:Nat):∀k,(uh br live l k).testBit j=true↔live.testBit j=true/\∀i,i<k->(br.getD (i*6+l.getD i 0) 0).testBit j=true
 | 0=>by simp[uh]
 | k+1=>by
  unfold uh;rw[Nat.testBit_and,Bool.and_eq_true,BN br live l j k];constructor
  ·rintro⟨⟨h1,h2⟩,h3⟩
   refine⟨h1,fun i hi=>?_⟩
   rcases Nat.lt_succ_iff_lt_or_eq.1 hi with h | h
   ·exact h2 i h
   ·subst h;exact h3
  ·rintro⟨h1,h2⟩
   exact⟨⟨h1,fun i hi=>h2 i (by omega)⟩,h2 k (by omega)⟩
theorem UG {vars:List Int} {rows:List (List Int)} {dn:List Nat} {live:Nat} (h4:vars.length<=4) (hd:∀q,dn.getD q 0<64) (hrow:∀j,j<rows.length->(rows.getD j []).length=vars.length) (hR:A7 vars rows dn live) {l:List Nat} (hO:bZ vars dn l) (nt:Bool):
  ((uh (iZ rows rows.length) live l vars.length != 0) != nt)=true↔wG rows nt l:=by
 have hc:uh (iZ rows rows.length) live l vars.length≠0↔∃j,j<rows.length/\lD (rows.getD j []) l:=by
  constructor
  ·intro h;obtain⟨j,hj⟩:=kz h;rw[BN] at hj;have hjl:=hR.1 j hj.1;refine⟨j,hjl,fun i hi=>?_⟩
   rw[hO.1] at hi;have:=hj.2 i hi
   rw[Nat.mul_comm] at this;exact((kH rows i _ (by omega) (iL (hd _) (hO.2 i hi)) rows.length j).1 this).2.2
  ·rintro⟨j,hj,hcv⟩ h0
   have:(uh (iZ rows rows.length) live l vars.length).testBit j=true:=by
    rw[BN];refine⟨hR.2 j hj ⟨l,hO,hcv⟩,fun i hi=>?_⟩
    rw[Nat.mul_comm];exact(kH rows i _ (by omega) (iL (hd _) (hO.2 i hi)) rows.length j).2 ⟨hj,by rw[hrow j hj];exact hi,hcv i (by rw[hO.1];exact hi)⟩
   rw[h0] at this;simp at this
 unfold wG;cases nt with
 | false=>
  simp only[Bool.false_eq_true,if_false];rw[<-hc];simp
 | true=>
  simp only[if_true];have h2:(∀j,j<rows.length->¬lD (rows.getD j []) l)↔¬uh (iZ rows rows.length) live l vars.length≠0:=by
   rw[hc];exact⟨fun a ⟨j,hj,hh⟩=>a j hj hh,fun a j hj hh=>a ⟨j,hj,hh⟩⟩
  rw[h2];simp
set_option maxRecDepth 1000000 in
theorem FO (G g cap:Nat) (lo:Option Addr) (lc:Nat) (vars ls:List Int) (l:List Nat) (nt:Bool) (br:List Nat) (live:Nat) (w:World) (hG:af w G (bf (.slice (some ⟨g,0,none⟩) vars.length cap) nt br live) 131)
  (hv:Row w (.slice (some ⟨g,0,none⟩) vars.length cap) 3 (vars.map (Value.int .i64))) (sN:br.length=24) (hbr:∀j,br.getD j 0<18446744073709551616) (hlv:live<18446744073709551616) (h4:vars.length<=4) (hL:vz w lo ls vars l):
  Calls Tryz.prog 123 #[.pointer (some ⟨G,0,none⟩),.slice lo ls.length lc] w fun e w'=>e= .returned (.bool ((uh br live l vars.length != 0) != nt))/\∃m,w'=w.drewN m:=by
 have HG:=hd hG;have Hv:=hd hv;have HL:=hd hL;have c0:w.cell? ⟨G,0,none⟩=some (.slice (some ⟨g,0,none⟩) vars.length cap):=hG.cell 0
 have c26:w.cell? ⟨G,26,none⟩=some (.int .u64 (live:Int)):=(hG.cell 26).trans (jH _ _ _ _ sN)
 clear hG hv hL;go_enter Tryz.func123,Tryz.ntmps123
 go_wp2_with fail
 go_loopw [5,6,7,18] (fun c _ _ i wr=>∃k:Nat,k<=vars.length/\i= .int .i64 (k:Int)/\c= .int .u64 ((uh br live l k:Nat):Int)/\∃m,wr=w.drewN m) (fun _ _ _ i _=>vars.length-(intOf i).toNat)
 case atStart=>exact⟨0,by omega,rfl,rfl,0,rfl⟩
 case round=>
  obtain⟨k,hk,rfl,rfl,mm,hmm⟩:=hrel;have HF:Hid (Nw w wr):=by
   rw[hmm];exact(Fr.refl _ w).drewN mm
  have Hmm:=hd hmm;clear hmm;by_cases hlt:k<vars.length
  ·have hdk:(k:Int)<(vars.length:Int):=by omega
   have hk4:(k:Int)<4:=by omega
   obtain⟨g',cap',he,hgo,hgc,_⟩:=(Hv.out.nw HF.out).cell k (by simpa using hlt)
   simp only[List.length_map,Value.slice.injEq,Option.some.injEq,Addr.mk.injEq,and_true,true_and] at he;obtain⟨rfl,rfl⟩:=he;have hgl:g<wr.heap.size:=(Hv.out.nw HF.out).lt rfl;simp only[List.getElem_map] at hgc;obtain⟨h1,h2,h3,h6⟩:=HL.out.get k hlt;have hgd:vars.getD k 0=vars[k]:=by simp[List.getD,hlt]
   obtain⟨u,hu⟩:∃u:Nat,vars.getD k 0=(u:Int):=⟨(vars.getD k 0).toNat,by omega⟩
   rw[<-hgd,hu] at hgc;rw[hu,Int.toNat_natCast] at h1 h3;obtain⟨lb,PO,rfl,afj,hlc⟩:=(HL.out.at_.nw HF.out) u h1;rw[h3] at hlc;have Xa:(u:Int)<(ls.length:Int):=by omega
   obtain⟨x,hx⟩:∃x,l.getD k 0=x:=⟨_,rfl⟩;have hx6:(x:Int)<6:=by omega
   have hbc:wr.cell? ⟨G,2+k*6+x,none⟩=some (.int .u64 (br.getD (k*6+x) 0:Nat)):=by
    rw[Nat.add_assoc];exact((HG.out.nw HF.out).cell _).trans (nH _ _ _ _ _ (by omega))
   have hbl:=hbr (k*6+x);have hcl:=FN br live l hlv k;have V9:G<wr.heap.size:=(HG.out.nw HF.out).lt;have hsucc:uh br live l (k+1)=uh br live l k &&& br.getD (k*6+x) 0:=by rw[<-hx];rfl
   rw[hx] at hlc;obtain⟨y,hy⟩:∃y,br.getD (k*6+x) 0=y:=⟨_,rfl⟩;obtain⟨cv,hcv⟩:∃cv,uh br live l k=cv:=⟨_,rfl⟩;rw[hy] at hbc hbl hsucc;rw[hcv] at hcl hsucc ⊢;have hand:=u64_and_nat cv y hcl hbl;have Hand:=hd hand;have wP:=hd hsucc;clear hx hy hcv hu hgd h3 h2 hgo hand hsucc;go_wp2_with fail
   go_quiet (fail)
   go_wp2_with fail
   refine⟨⟨k+1,by omega,by simp,?_,mm+nq,by rw[Hmm.out];simp[World.drewN,Nat.add_assoc]⟩,by simp[intOf];omega⟩
   rw[wP.out,<-Hand.out]
  ·obtain rfl:k=vars.length:=by omega
   have hdk:¬((vars.length:Int)<(vars.length:Int)):=by omega
   have c1:wr.cell? ⟨G,1,none⟩=some (.bool nt):=(HG.out.nw HF.out).cell 1
   have V9:G<wr.heap.size:=(HG.out.nw HF.out).lt;have hcl:=FN br live l hlv vars.length;obtain⟨cv,hcv⟩:∃cv,uh br live l vars.length=cv:=⟨_,rfl⟩;rw[hcv] at hcl;have Hcv:=hd hcv;rw[Hcv.out];clear hcv;go_wp2_with fail
   go_ret
   refine⟨?_,mm,Hmm.out⟩
   rw[Hcv.out];have e:((cv:Int) != 0)=(cv != 0):=by cases cv <;> rfl
   show Ending.returned (Value.bool (((cv:Int) != 0) != nt))=_
   rw[e]
def yM (os:List (List Nat)) (l:List Nat) (root:Nat):Nat->Nat
 | 0=>root
 | k+1=>nodeAt os (yM os l root k) (l.getD k 0)
theorem BO (os:List (List Nat)) (l:List Nat):∀(m i old:Nat),bI os m old->os.getD 0 []=zero6->(∀j,l.getD j 0<6)->(iK os m i old l↔(List.range m).foldl (fun at_ j=>nodeAt os at_ (l.getD (i+j) 0)) old=1)
 | 0,i,old,hl,_,_=>by simp[iK]
 | m+1,i,old,hl,hz,h6=>by
  have hnext:bI os m (nodeAt os old (l.getD i 0)):=by
   rcases hl with h | ⟨_,_,h⟩
   ·subst h;have:nodeAt os 0 (l.getD i 0)=0:=by
     unfold nodeAt;rw[hz];have:=h6 i
     match l.getD i 0,this with
     | 0,_ | 1,_ | 2,_ | 3,_ | 4,_ | 5,_=>rfl
    rw[this];cases m with
    | zero=>exact(by decide:(0:Nat)<2)
    | succ m=>exact .inl rfl
   ·exact h _ (h6 i)
  have ih:=BO os l m (i+1) _ hnext hz h6;have e:(List.range (m+1)).foldl (fun at_ j=>nodeAt os at_ (l.getD (i+j) 0)) old=(List.range m).foldl (fun at_ j=>nodeAt os at_ (l.getD (i+1+j) 0)) (nodeAt os old (l.getD i 0)):=by
   rw[List.range_succ_eq_map,List.foldl_cons,List.foldl_map];simp only[Nat.add_zero,Nat.add_succ,Nat.succ_add]
  rw[e,<-ih];show (2<=old/\iK os m (i+1) (nodeAt os old (l.getD i 0)) l)↔iK os m (i+1) (nodeAt os old (l.getD i 0)) l
  constructor
  ·exact fun h=>h.2
  ·intro h;rcases hl with h' | ⟨h2,_⟩
   ·subst h';have h0:nodeAt os 0 (l.getD i 0)=0:=by
     unfold nodeAt;rw[hz];have:=h6 i
     match l.getD i 0,this with
     | 0,_ | 1,_ | 2,_ | 3,_ | 4,_ | 5,_=>rfl
    rw[h0] at h;exact absurd h (jh _ _ _ _)
   ·exact⟨h2,h⟩
theorem Ew (os:List (List Nat)) (l:List Nat) (root:Nat):∀k,yM os l root k=(List.range k).foldl (fun at_ j=>nodeAt os at_ (l.getD (0+j) 0)) root
 | 0=>rfl
 | k+1=>by
  rw[List.range_succ,List.foldl_append,<-Ew os l root k];simp[yM]
theorem UH {os:List (List Nat)} {l:List Nat} {root m:Nat} (hl:bI os m root) (hz:os.getD 0 []=zero6) (h6:∀j,l.getD j 0<6):iK os m 0 root l↔yM os l root m=1:=by
 rw[BO os l m 0 root hl hz h6,<-Ew]
theorem Oh {os:List (List Nat)} {l:List Nat} (h2:2<=os.length) (hz:os.getD 0 []=zero6) (h6:∀j,l.getD j 0<6) {root m:Nat} (hl:bI os m root):∀k,k<=m->bI os (m-k) (yM os l root k)
 | 0,_=>hl
 | k+1,hk=>by
  have ih:=Oh h2 hz h6 hl k (by omega)
  rw[show m-k=(m-(k+1))+1 by omega] at ih
  rcases ih with h | ⟨_,_,h⟩
  ·unfold yM;rw[h];have h0:nodeAt os 0 (l.getD k 0)=0:=by
    unfold nodeAt;rw[hz];have:=h6 k
    match l.getD k 0,this with
    | 0,_ | 1,_ | 2,_ | 3,_ | 4,_ | 5,_=>rfl
   rw[h0];cases m-(k+1) with
   | zero=>exact(by decide:(0:Nat)<2)
   | succ m=>exact .inl rfl
  ·exact h _ (h6 k)
theorem UI {os:List (List Nat)} {m k:Nat} (h2:2<=os.length) (h:bI os m k):k<os.length:=by
 cases m with
 | zero=>exact Nat.lt_of_lt_of_le h h2
 | succ m=>rcases h with h | ⟨_,h,_⟩ <;> omega
theorem Me {os:List (List Nat)} (hok:∀n∈os,jP n) (old v:Nat) (h:old<os.length) (hv:v<6):nodeAt os old v<9223372036854775808:=by
 have hm:os.getD old []∈os:=by
  simp only[List.getD,List.getElem?_eq_getElem h,Option.getD_some]
  exact List.getElem_mem h
 have hn:=hok _ hm;unfold nodeAt;have e:(os.getD old []).getD v 0=(os.getD old [])[v]'(by rw[hn.1];exact hv):=by
  generalize os.getD old []=n at hn ⊢
  simp[List.getD,hn.1,hv]
 rw[e];exact Nat.lt_trans (hn.2 _ (List.getElem_mem _)) (by decide)
set_option maxRecDepth 1000000 in
theorem FQ (G g cap:Nat) (lo:Option Addr) (lc:Nat) (vars ls:List Int) (l:List Nat) (nv:Value) (os:List (List Nat)) (root:Nat) (w:World) (hD:yZ w G g cap nv vars os root) (kS:bI os vars.length root) (hz:os.getD 0 []=zero6) (h4:vars.length<=4)
  (hL:vz w lo ls vars l) (h6:∀j,l.getD j 0<6):
  Calls Tryz.prog 115 #[.pointer (some ⟨G,0,none⟩),.slice lo ls.length lc] w fun e w'=>e= .returned (.bool (yM os l root vars.length==1))/\∃m,w'=w.drewN m:=by
 have HD:=hd hD;have HL:=hd hL;have c0:w.cell? ⟨G,0,none⟩=some (.slice (some ⟨g,0,none⟩) vars.length cap):=hD.blk.cell 0
 have c2:w.cell? ⟨G,2,none⟩=some (.int .i64 (root:Int)):=hD.blk.cell 2
 have hon:∃og kR,nv= .slice (some ⟨og,0,none⟩) os.length kR:=by
  rcases hD.row.2 with ⟨_,h0⟩ | ⟨og,kR,cur,h1,_⟩
  ·have:=hD.two
   omega
  ·exact⟨og,kR,h1⟩
 obtain⟨og,kR,rfl⟩:=hon;have hcells:∀(w':World),Nw w w'->∀old v,old<os.length->v<6->w'.cell? ⟨og,old*6+v,none⟩=some (.int .i64 (nodeAt os old v:Nat)):=fun w' hf old v h1 h2=>by
  have:=(ownsRow.fr hD.row hf (fun _ _ x=>x)).cells (g:=og) rfl (old*6+v) _ (yu os hD.ok old v h1 h2)
  rw[WideShapes.add_plain,Nat.zero_add] at this;exact this
 have WU:∀(w':World),Nw w w'->og<w'.heap.size:=fun w' hf=>by
  have:=World.ownsRow.lt (ownsRow.fr hD.row hf (fun _ _ x=>x)) og rfl
  exact this.2
 have aao:=hd hcells;have afk:=hd WU;have hrun:=fun k hk=>Oh hD.two hz h6 kS k hk
 have afl:=hd hrun;have afm:=hD.two;have Hz:=hd hz;clear hD hL hcells WU hrun hz;go_enter Tryz.func115,Tryz.ntmps115
 go_wp2_with fail
 go_loopw [5,7,18] (fun c _ i wr=>∃k:Nat,k<=vars.length/\i= .int .i64 (k:Int)/\c= .int .i64 ((yM os l root k:Nat):Int)/\∃m,wr=w.drewN m) (fun _ _ i _=>vars.length-(intOf i).toNat)
 case atStart=>exact⟨0,by omega,rfl,rfl,0,rfl⟩
 case round=>
  obtain⟨k,hk,rfl,rfl,mm,hmm⟩:=hrel;have HF:Hid (Nw w wr):=by
   rw[hmm];exact(Fr.refl _ w).drewN mm
  have Hmm:=hd hmm;clear hmm;have hat:=UI afm (afl.out k hk);by_cases hlt:k<vars.length
  ·have hdk:(k:Int)<(vars.length:Int):=by omega
   obtain⟨g',cap',he,hgo,hgc,_⟩:=(HD.out.rv.nw HF.out).cell k (by simpa using hlt)
   simp only[List.length_map,Value.slice.injEq,Option.some.injEq,Addr.mk.injEq,and_true,true_and] at he;obtain⟨rfl,rfl⟩:=he;have hgl:g<wr.heap.size:=(HD.out.rv.nw HF.out).lt rfl;simp only[List.getElem_map] at hgc;obtain⟨h1,h2,h3,h6'⟩:=HL.out.get k hlt;have hgd:vars.getD k 0=vars[k]:=by simp[List.getD,hlt]
   obtain⟨u,hu⟩:∃u:Nat,vars.getD k 0=(u:Int):=⟨(vars.getD k 0).toNat,by omega⟩
   rw[<-hgd,hu] at hgc;rw[hu,Int.toNat_natCast] at h1 h3;obtain⟨lb,PO,rfl,afj,hlc⟩:=(HL.out.at_.nw HF.out) u h1;rw[h3] at hlc;have Xa:(u:Int)<(ls.length:Int):=by omega
   have hsucc:yM os l root (k+1)=nodeAt os (yM os l root k) (l.getD k 0):=rfl;obtain⟨x,hx⟩:∃x,l.getD k 0=x:=⟨_,rfl⟩;obtain⟨a,ha⟩:∃a,yM os l root k=a:=⟨_,rfl⟩;rw[hx] at h6' hlc hsucc;rw[ha] at hat hsucc ⊢;have hx6:(x:Int)<6:=by omega
   have hal:(a:Int)<(os.length:Int):=by omega
   have hbc:=aao.out wr HF.out a x hat h6';have ag3:=afk.out wr HF.out;have hsm:=Me HD.out.ok a x hat h6';have c1:wr.cell? ⟨G,1,none⟩=some (.slice (some ⟨og,0,none⟩) os.length kR):=(HD.out.blk.nw HF.out).cell 1
   have V9:G<wr.heap.size:=(HD.out.blk.nw HF.out).lt;obtain⟨y,hy⟩:∃y,nodeAt os a x=y:=⟨_,rfl⟩;rw[hy] at hbc hsm hsucc;have wP:=hd hsucc;clear hx ha hy hu hgd h3 h2 hgo hsucc;go_wp2_with fail
   go_quiet (fail)
   go_wp2_with fail
   refine⟨⟨k+1,by omega,by simp,?_,mm+nq,by rw[Hmm.out];simp[World.drewN,Nat.add_assoc]⟩,by simp[intOf];omega⟩
   rw[wP.out]
  ·obtain rfl:k=vars.length:=by omega
   have hdk:¬((vars.length:Int)<(vars.length:Int)):=by omega
   obtain⟨a,ha⟩:∃a,yM os l root vars.length=a:=⟨_,rfl⟩;have Ha:=hd ha;rw[Ha.out];clear ha;go_wp2_with fail
   go_ret
   refine⟨?_,mm,Hmm.out⟩
   have e:((a:Int)==1)=(a==1):=by
    rw[Bool.eq_iff_iff,beq_iff_eq,beq_iff_eq];omega
   rw[Ha.out,<-e];rfl
def kW (l:List Int):Nat->Int
 | 0=>l.getD 0 0
 | k+1=>max (kW l k) (l.getD k 0)
def lastOf (vars:List Int):Int:=kW vars vars.length
theorem BP (l:List Int):∀k i,i<k->l.getD i 0<=kW l k
 | 0,i,h=>absurd h (Nat.not_lt_zero _)
 | k+1,i,h=>by
  unfold kW;rcases Nat.lt_succ_iff_lt_or_eq.1 h with h' | h'
  ·have:=BP l k i h'
   omega
  ·subst h';omega
theorem tH (l:List Int):∀k,0<k->∃i,i<k/\kW l k=l.getD i 0
 | 0,h=>absurd h (Nat.lt_irrefl _)
 | 1,_=>⟨0,by omega,by simp[kW]⟩
 | k+2,_=>by
  obtain⟨i,hi,he⟩:=tH l (k+1) (by omega)
  by_cases h:kW l (k+1)<=l.getD (k+1) 0
  ·exact⟨k+1,by omega,by unfold kW;omega⟩
  ·exact⟨i,by omega,by rw[<-he];show max (kW l (k+1)) (l.getD (k+1) 0)=_;omega⟩
set_option maxRecDepth 1000000 in
theorem UJ (b o cap:Nat) (l:List Int) (w:World) (h1:1<=l.length) (h4:l.length<=4) (h:ax w (some ⟨b,o,none⟩) l):
  Calls Tryz.prog 120 #[.slice (some ⟨b,o,none⟩) l.length cap] w fun e w'=>e= .returned (.int .i64 (lastOf l))/\w'=w:=by
 have Hh:=hd h;obtain⟨b',o',he,hbl,hc0⟩:=h 0 (by omega)
 simp only[Option.some.injEq,Addr.mk.injEq,and_true] at he;obtain⟨rfl,rfl⟩:=he;rw[Nat.add_zero] at hc0;clear h;go_enter Tryz.func120,Tryz.ntmps120
 go_wp2_with fail
 go_loopw [3,4] (fun m i wr=>wr=w/\∃k:Nat,1<=k/\k<=l.length/\i= .int .i64 (k:Int)/\m= .int .i64 (kW l k)) (fun _ i _=>l.length-(intOf i).toNat)
 case atStart=>exact⟨rfl,1,by omega,by omega,rfl,by simp[kW]⟩
 case round=>
  obtain⟨rfl,k,hk1,hk,rfl,rfl⟩:=hrel;by_cases hlt:k<l.length
  ·have hdk:(k:Int)<(l.length:Int):=by omega
   obtain⟨b',o',he,_,hck⟩:=Hh.out k hlt;simp only[Option.some.injEq,Addr.mk.injEq,and_true] at he;obtain⟨rfl,rfl⟩:=he;have hs:kW l (k+1)=max (kW l k) (l.getD k 0):=rfl;obtain⟨x,hx⟩:∃x,l.getD k 0=x:=⟨_,rfl⟩;obtain⟨m,hm⟩:∃m,kW l k=m:=⟨_,rfl⟩;rw[hx] at hck hs;rw[hm] at hs ⊢;have Hs:=hd hs;clear hx hm hs;go_wp2_with fail
   refine⟨⟨trivial,k+1,by omega,by omega,by simp,?_⟩,by simp[intOf];omega⟩
   rw[Hs.out];congr 1
   split <;> omega
  ·obtain rfl:k=l.length:=by omega
   have hdk:¬((l.length:Int)<(l.length:Int)):=by omega
   go_wp2_with fail
   go_ret
   exact⟨rfl,rfl⟩
set_option maxRecDepth 1000000 in
theorem last_any (b o cap:Nat) (l:List Int) (w:World) (h1:1<=l.length) (h4:l.length<=4) (h:ax w (some ⟨b,o,none⟩) l):
  Calls Tryz.prog 117 #[.agg #[.slice (some ⟨b,o,none⟩) l.length cap]] w fun e w'=>e= .returned (.int .i64 (lastOf l))/\Nw w w':=by
 have hf:Nw w (w.alloc (.cells #[.slice (some ⟨b,o,none⟩) l.length cap] 118)):=(Fr.refl _ w).alloc _;have Hh:=hd (h.nw hf);clear h;go_enter Tryz.func117,Tryz.ntmps117
 go_wp2_with (go_at_call 120;refine(UJ b o cap l _ h1 h4 Hh.out).mono ?_;rintro e w' ⟨rfl,rfl⟩)
 go_ret
 exact⟨rfl,hf⟩
theorem tJ (G:Nat) (v:Value) (W:World) (h:W.cell? ⟨G,0,none⟩=some v):
  (method 292 91 (.pointer (some ⟨G, 0, none⟩)) "Last").run Tryz.prog W = .ok (117, .agg #[v]) W := by
 have h1 : (method 292 91 (.pointer (some ⟨G, 0, none⟩)) "Last").run Tryz.prog W =
   match W.cell? ⟨G,0,none⟩ with
   | some v=>.ok (117,.agg #[v]) W
   | none=>match W.farLoad Tryz.prog ⟨G,0,none⟩ (Mode.plain == .atomic) with
    | .ok (v,_)=>.ok (117,.agg #[v]) W
    | .error h=>.halt h W:=by kernel_rfl
 rw[h1,h]
theorem MB (G:Nat) (v:Value) (W:World) (h:W.cell? ⟨G,0,none⟩=some v):
  (method 292 89 (.pointer (some ⟨G, 0, none⟩)) "Last").run Tryz.prog W = .ok (117, .agg #[v]) W := by
 have h1 : (method 292 89 (.pointer (some ⟨G, 0, none⟩)) "Last").run Tryz.prog W =
   match W.cell? ⟨G,0,none⟩ with
   | some v=>.ok (117,.agg #[v]) W
   | none=>match W.farLoad Tryz.prog ⟨G,0,none⟩ (Mode.plain == .atomic) with
    | .ok (v,_)=>.ok (117,.agg #[v]) W
    | .error h=>.halt h W:=by kernel_rfl
 rw[h1,h]
theorem TS.tJ (t : TS) (G : Nat) (v : Value) (W : World) (h : W.cell? ⟨G, 0, none⟩ = some v) : (method 292 t.ty (.pointer (some ⟨G, 0, none⟩)) "Last").run Tryz.prog W = .ok (117, .agg #[v]) W := by
 cases t with
 | rs nt br live=>exact Go.Proofs.YtkjfpdfkcfgfkaaGreat.tJ G v W h
 | dg nv os root=>exact MB G v W h
theorem I9 (G : Nat) (W : World) : (method 292 91 (.pointer (some ⟨G, 0, none⟩)) "Allows").run Tryz.prog W = .ok (123, .pointer (some ⟨G, 0, none⟩)) W := by kernel_rfl
theorem FT (G : Nat) (W : World) : (method 292 89 (.pointer (some ⟨G, 0, none⟩)) "Allows").run Tryz.prog W = .ok (115, .pointer (some ⟨G, 0, none⟩)) W := by kernel_rfl
def TS.Ja:TS->FuncId
 | .rs ..=>123
 | .dg ..=>115
theorem Jb (G g cap:Nat) (b:Tb) (t:TS) (lo:Option Addr) (lc:Nat) (ls:List Int) (l:List Nat) (dn:List Nat) (w:World) (hb:b.Ok) (hdm:Dm dn) (hT:oN w G g cap b.vars t) (hR:qC b dn t) (hL:vz w lo ls b.vars l) (hO:bZ b.vars dn l):
  Calls Tryz.prog t.Ja #[.pointer (some ⟨G,0,none⟩),.slice lo ls.length lc] w fun e w'=>e= .returned (.bool (jA b.rows b.nt l))/\∃m,w'=w.drewN m:=by
 have h6:∀j,l.getD j 0<6:=fun j=>by
  by_cases hj:j<b.vars.length
  ·exact iL (hdm.lt _) (hO.2 j hj)
  ·have:l.getD j 0=0:=by
    simp only[List.getD];rw[List.getElem?_eq_none (by rw[hO.1];omega)]
    rfl
   rw[this];decide
 cases t with
 | rs nt br live=>
  obtain⟨rfl,rfl,hRs⟩:=hR;obtain⟨h1,h2,h3,h4,h5,_⟩:=hT;refine(FO G g cap lo lc b.vars ls l b.nt _ live w h1 h2 h3 h4 h5 hb.vars.four hL).mono ?_
  rintro e w' ⟨rfl,hf⟩
  refine⟨?_,hf⟩
  have h7:((uh (iZ b.rows b.rows.length) live l b.vars.length != 0) != b.nt)=jA b.rows b.nt l:=by
   rw[Bool.eq_iff_iff,UG hb.vars.four hdm.lt hb.rows hRs hO b.nt,ja]
  rw[h7]
 | dg nv os root=>
  obtain⟨hnz,kS,hD,hz⟩:=hR;obtain⟨h1,_,_,_⟩:=hT;refine(FQ G g cap lo lc b.vars ls l nv os root w h1 kS hz hb.vars.four hL h6).mono ?_
  rintro e w' ⟨rfl,hf⟩
  refine⟨?_,hf⟩
  have h7:(yM os l root b.vars.length==1)=jA b.rows b.nt l:=by
   rw[Bool.eq_iff_iff,beq_iff_eq,<-UH kS hz h6,ja];exact hD l hO
  rw[h7]
def picks (vars:List Int) (l:List Nat):List Nat:=vars.map (fun v=>l.getD v.toNat 0)
theorem yN (vars:List Int) (l:List Nat) (i:Nat) (h:i<vars.length):(picks vars l).getD i 0=l.getD (vars.getD i 0).toNat 0:=by
 simp[picks,List.getD,h]
def l7 (bs:List Tb) (l:List Nat):Bool:=bs.all (fun b=>decide (lastOf b.vars≠(l.length:Int)-1) || jA b.rows b.nt (picks b.vars l))
def je (d:List Nat) (bs:List Tb):Nat->List Nat->List (List Nat)
 | 0,l=>[l]
 | m+1,l=>(vals (d.getD l.length 0)).flatMap (fun v=>if l7 bs (l++[v]) then je d bs m (l++[v]) else [])
def dY (ts:List Tab) (i:Nat):List Tab:=ts.filter (fun x=>decide (lastOf x.vars=(i:Int)))
def dD (X:Nat) (dZ:List Value) (lv yv:Value):Array Value:=(.pointer (some ⟨X,0,none⟩)::(dZ++[lv,yv])).toArray
theorem rZ (X:Nat) (dZ:List Value) (lv yv:Value) (i:Nat) (h:i<dZ.length):(dD X dZ lv yv)[1+i]? = some (dZ.getD i undef):=by
 rw[Nat.add_comm];simp[dD,List.getElem?_append_left,h,List.getD]
theorem jL (X:Nat) (dZ:List Value) (lv yv:Value) (h:dZ.length=8):(dD X dZ lv yv)[9]? = some lv:=by
 simp[dD,h]
theorem Du (X:Nat) (dZ:List Value) (lv yv:Value) (h:dZ.length=8):(dD X dZ lv yv)[10]? = some yv:=by
 simp[dD,h]
theorem zS (X:Nat) (dZ:List Value) (lv yv v:Value) (h:dZ.length=8):(dD X dZ lv yv).setIfInBounds 9 v=dD X dZ v yv:=by
 match dZ,h with
 | [a0,a1,a2,a3,a4,a5,a6,a7],_=>rfl
theorem xq (l:List Nat):ints l=(l.map (fun (x:Nat)=>(x:Int))).map (Value.int .i64):=by simp[ints]
theorem UK (l:List Nat) (k:Nat):(l.map (fun (x:Nat)=>(x:Int))).getD k 0=((l.getD k 0:Nat):Int):=by
 simp only[List.getD,List.getElem?_map]
 cases l[k]? <;> rfl
structure uj (W:World) (G X:Nat) (ts:List Tab) (dZ:List Value) (lv yv:Value) (l:List Nat):Prop where
 blk:af W G (dD X dZ lv yv) 158
 len:dZ.length=8
 dZ:∀i,i<8->Row W (dZ.getD i undef) 73 ((dY ts i).map Tab.val)
 list:Row W lv 3 (ints l)
noncomputable def Oi:Array Oper:=gU Tryz.f97 4
theorem Jc {b:Tb} {d:List Nat} {l:List Nat} (hv:∀i,i<b.vars.length->0<=b.vars.getD i 0) (hl:lastOf b.vars=(l.length:Int)-1) (hin:∀q,q<l.length->(d.getD q 0).testBit (l.getD q 0)=true):bZ b.vars d (picks b.vars l):=by
 refine⟨by simp[picks],fun i hi=>?_⟩
 rw[yN _ _ _ hi];have h1:=BP b.vars b.vars.length i hi;have h2:=hv i hi;unfold lastOf at hl;exact hin _ (by omega)
set_option maxRecDepth 1000000 in
theorem fits_any (G X:Nat) (zs:List Int) (s:WS) (dZ:List Value) (lv yv:Value) (l:List Nat) (W:World) (hA:iM W X zs s) (hG:uj W G X s.ts dZ lv yv l) (hl1:1<=l.length) (hl8:l.length<=8) (hin:∀q,q<l.length->(s.d.getD q 0).testBit (l.getD q 0)=true):
  Calls Tryz.prog 97 #[.pointer (some ⟨G,0,none⟩)] W fun e w'=>e= .returned (.bool (l7 s.bs l))/\∃m,w'=W.drewN m:=by
 obtain⟨lo,lc,hlf,_⟩:=hG.list.form;have hll:(ints l).length=l.length:=by simp[ints]
 rw[hll] at hlf;subst hlf;obtain⟨v,hv⟩:∃v:Nat,l.length=v+1:=⟨l.length-1,by omega⟩
 obtain⟨rv,yT⟩:∃rv,dZ.getD v undef=rv:=⟨_,rfl⟩;have hrow:=hG.dZ v (by omega)
 rw[yT] at hrow;obtain⟨ro,rc,hrf,_⟩:=hrow.form;rw[List.length_map] at hrf;subst hrf;have c9:W.cell? ⟨G,9,none⟩=some (.slice lo (v+1) lc):=by
  rw[<-hv];exact(hG.blk.cell 9).trans (jL _ _ _ _ hG.len)
 have cr:W.cell? ⟨G,1+v,none⟩=some (.slice ro (dY s.ts v).length rc):=by
  rw[<-yT];exact(hG.blk.cell _).trans (rZ _ _ _ _ _ (by rw[hG.len];omega))
 have V9:=hG.blk.lt;have jv:(v:Int)<8:=by omega
 have HA:=hd hA;have HG:=hd hG;have Xz:=hd hrow;have Hv:=hd hv;have YE:=hd hin;clear hA hG hrow hv hin hll yT;have hmf:∀(fn:Fn) (first cap:Array Value) (w:World),(Instr.makeFunc fn first cap).run Tryz.prog w= .ok (.func fn first cap) w:=fun _ _ _ _=>rfl
 go_enter Tryz.func97,Tryz.ntmps97
 go_wp2_with fail
 go_quiet (fail)
 go_wp2_with fail
 have UL:∀j,j<(dY s.ts v).length->∃q,q<s.ts.length/\s.ts.getD q aH=(dY s.ts v).getD j aH/\lastOf (s.ts.getD q aH).vars=(v:Int):=fun j hj=>by
  have hm:(dY s.ts v).getD j aH∈dY s.ts v:=by
   simp only[List.getD,List.getElem?_eq_getElem hj,Option.getD_some]
   exact List.getElem_mem hj
  obtain⟨h1,h2⟩:=List.mem_filter.1 hm;obtain⟨q,hq,he⟩:=List.getElem_of_mem h1;have e2:s.ts.getD q aH=(dY s.ts v).getD j aH:=by rw[<-he];simp[List.getD,hq]
  exact⟨q,hq,e2,by rw[e2];simpa using h2⟩
 have aap:=hd UL;clear UL;go_loopw [4,17] (fun _ i wr=>∃(k m:Nat),k<=(dY s.ts v).length/\i= .int .i64 (k:Int)/\wr=W.drewN m/\Hid (∀j,j<k->∀q,q<s.ts.length->s.ts.getD q aH=(dY s.ts v).getD j aH->wG (s.bs.getD q tb0).rows (s.bs.getD q tb0).nt (picks (s.bs.getD q tb0).vars l))) (fun _ i _=>(dY s.ts v).length-(intOf i).toNat)
 case atStart=>exact⟨0,nq,by omega,rfl,rfl,fun j hj=>absurd hj (Nat.not_lt_zero _)⟩
 case round=>
  obtain⟨k,m,hk,rfl,rfl,HP⟩:=hrel;have h12:(dY s.ts v).length<=12:=Nat.le_trans (List.length_filter_le _ _) HA.out.mem.t12;have HFm:Hid (Nw W (W.drewN m)):=(Fr.refl _ W).drewN m;by_cases hlt:k<(dY s.ts v).length
  ·have hdk:(k:Int)<((dY s.ts v).length:Int):=by omega
   obtain⟨q,hq,hqe,La⟩:=aap.out k hlt;obtain⟨rg,au,hre,UM,hrc,_⟩:=(Xz.out.nw HFm.out).cell k (by simpa using hlt)
   simp only[List.length_map,Value.slice.injEq] at hre;obtain⟨rfl,_,rfl⟩:=hre;have ag4:=(Xz.out.nw HFm.out).lt UM;simp only[List.getElem_map] at hrc;have hxk:(dY s.ts v)[k]=s.ts.getD q aH:=by rw[hqe];simp[List.getD,hlt]
   rw[hxk] at hrc;have hqb:q<s.bs.length:=by rw[<-HA.out.mem.fits.1];exact hq
   have YI:=HA.out.mem.yI q hqb;have hT:=HA.out.mem.tabs.at_ q hq;have hRep:=HA.out.good.rep q hqb;rw[tq] at hRep;have hvars:=HA.out.mem.fits.2 q hqb;rw[hvars] at hT La;obtain⟨b,hb⟩:∃b,s.bs.getD q tb0=b:=⟨_,rfl⟩;obtain⟨⟨xG,xg,afn,agy,xt⟩,hx⟩:∃x,s.ts.getD q aH=x:=⟨_,rfl⟩;rw[hb] at YI hT hRep La;rw[hx] at hT hRep hrc;dsimp only[Tab.val] at hT hRep hrc
   have hO:bZ b.vars s.d (picks b.vars l):=Jc (fun i hi=>(YI.1.vars.ok i hi).1) (by rw[La,Hv.out];omega) YE.out
   have hL:vz W lo (l.map (fun (x:Nat)=>(x:Int))) b.vars (picks b.vars l):=by
    refine⟨?_,by simp[picks],fun i hi=>?_⟩
    ·have h9:=HG.out.list;rw[xq,<-List.length_map (f:=fun (x:Nat)=>(x:Int))] at h9
     exact h9.oC
    ·have g1:=BP b.vars b.vars.length i hi;have g2:=(YI.1.vars.ok i hi).1;have g3:(b.vars.getD i 0).toNat<l.length:=by
      have:=Hv.out
      unfold lastOf at La;omega
     refine⟨by rw[List.length_map];exact g3,g2,?_,?_⟩
     ·rw[yN _ _ _ hi];exact UK _ _
     ·rw[yN _ _ _ hi];exact iL (HA.out.good.dm.lt _) (YE.out _ g3)
   have hcall:=fun m'=>Jb xG xg afn b xt lo lc (l.map (fun (x:Nat)=>(x:Int))) (picks b.vars l) s.d (W.drewN m') YI.1 HA.out.good.dm (by
    have:=hT
    cases xt with
    | rs nt br live=>exact this
    | dg nv os root=>exact⟨⟨this.1.blk,this.1.rv,this.1.row,this.1.ok,this.1.two⟩,this.2⟩) hRep (hL.nw ((Fr.refl _ W).drewN m')) hO
   have e9:(l.map (fun (x:Nat)=>(x:Int))).length=v+1:=by rw[List.length_map];exact Hv.out
   rw[e9] at hcall;have aK:Hid (∀m',Calls Tryz.prog xt.Ja #[.pointer (some ⟨xG,0,none⟩),.slice lo (v+1) lc] (W.drewN m') fun e w'=>e= .returned (.bool (jA b.rows b.nt (picks b.vars l)))/\∃m,w'=(W.drewN m').drewN m):=hcall
   have Hx:=hd hx;have Hb:=hd hb;have Hqe:=hd hqe;have Hql:=hd La;clear hcall hL hO hRep hT YI hvars hqe hxk hx hb La UM;cases xt with
   | rs nt br live=>
    have hm:=fun W'=>I9 xG W'
    have hna : ∀ W', (nilAhead 292 91 (.pointer (some ⟨xG, 0, none⟩)) "Allows").run Tryz.prog W' = .ok (some false) W' := fun W' => by kernel_rfl
    have Hq:Hid (∀n',Calls Tryz.prog 123 #[.pointer (some ⟨xG,0,none⟩),.slice lo (v+1) lc] ((W.drewN m).drewN n') fun e w'=>e= .returned (.bool (jA b.rows b.nt (picks b.vars l)))/\∃k,w'=((W.drewN m).drewN n').drewN k):=fun n'=>by
     rw[World.drewN_drewN];exact aK.out (m+n')
    obtain⟨ab,hab⟩:∃ab,jA b.rows b.nt (picks b.vars l)=ab:=⟨_,rfl⟩;rw[hab] at Hq;have Hab:=hd hab;clear hab;go_wp2_with fail
    have hK0:∃n',(W.drewN m).drew=(W.drewN m).drewN n':=⟨1,rfl⟩;refine eF Oi 10 (fun w''=>∃n',w''=(W.drewN m).drewN n') (by kernel_rfl) (by kernel_rfl) (by kernel_rfl) ?_
    refine take_at (i:=0) (d:=some 21) (v:=.iface 91 (.pointer (some ⟨xG,0,none⟩))) (by kernel_rfl) (by kernel_rfl) (fun _ _ _ h=>h) (fun w'' hS=>by kernel_rfl) hK0 ?_
    refine take_at (i:=1) (d:=some 22) (v:=.pointer (some ⟨G,0,none⟩)) (by kernel_rfl) (by kernel_rfl) (fun _ _ _ h=>h) (fun w'' hS=>by kernel_rfl) hK0 ?_
    refine take_at (i:=2) (d:=some 23) (v:=.pointer (some ⟨G,0,none⟩)) (by kernel_rfl) (by kernel_rfl) (fun _ _ _ h=>h) (fun w'' hS=>by kernel_rfl) hK0 ?_
    refine take_at (i:=3) (d:=some 24) (v:=.pointer (some ⟨G,9,none⟩)) (by kernel_rfl) (by kernel_rfl) (fun _ _ _ h=>h) (fun w'' hS=>by kernel_rfl) hK0 ?_
    refine take_at (i:=4) (d:=some 25) (v:=.slice lo (v+1) lc) (by kernel_rfl) (by kernel_rfl) (fun _ _ _ h=>h) (fun w'' hS=>aj 22 (.tmp 24) (by kernel_rfl) (by kernel_rfl) (by kernel_rfl) (by obtain⟨n',rfl⟩:=hS;exact c9)) hK0 ?_
    refine take_at (i := 5) (d := some 26) (v := .func (.method "Allows") #[.iface 91 (.pointer (some ⟨xG, 0, none⟩))] #[]) (by kernel_rfl) (by kernel_rfl) (fun _ _ _ h => h) (fun w'' hS => by kernel_rfl) hK0 ?_
    refine take_at (i := 6) (d := some 27) (v := .func (.method "Allows") #[.iface 91 (.pointer (some ⟨xG, 0, none⟩))] #[]) (by kernel_rfl) (by kernel_rfl) (fun _ _ _ h => h) (fun w'' hS => by kernel_rfl) hK0 ?_
    refine take_at (i:=7) (d:=some 28) (v:=.iface 91 (.pointer (some ⟨xG,0,none⟩))) (by kernel_rfl) (by kernel_rfl) (fun _ _ _ h=>h) (fun w'' hS=>by kernel_rfl) hK0 ?_
    refine enter_at (i:=8) (d:=some 29) (f:=123) (args:=#[.pointer (some ⟨xG,0,none⟩),.slice lo (v+1) lc]) (w':=(W.drewN m).drew) (by kernel_rfl) (by kernel_rfl) (by kernel_rfl) ?_
    refine(Hq.out 1).mono ?_
    rintro e w2 ⟨rfl,n2,rfl⟩
    have hK2:∃n',((W.drewN m).drewN 1).drewN n2=(W.drewN m).drewN n':=⟨1+n2,by simp only[World.drewN_drewN,Nat.add_assoc]⟩
    refine⟨_,rfl,hK2,?_⟩
    refine dG (i:=9) (d:=some 30) (v:=.bool (!ab)) (w':=((W.drewN m).drewN 1).drewN n2) (by kernel_rfl) (by kernel_rfl) (by kernel_rfl) hK2 ?_
    refine wpAnyH_done (by kernel_rfl) ?_ _
    simp only[Act.put,bQ,bW,bU];cases ab with
    | true=>
     go_wp2_with fail
     refine⟨⟨k+1,m+1+n2,by omega,by simp,rfl,fun j hj q' hq' he=>?_⟩,by simp[intOf];omega⟩
     rcases Nat.lt_succ_iff_lt_or_eq.1 hj with h | h
     ·exact HP.out j h q' hq' he
     ·subst h;obtain rfl:q'=q:=HA.out.mem.inj q' q hq' hq (by rw[he,<-Hqe.out])
      rw[Hb.out];exact(ja _ _ _).1 Hab.out
    | false=>
     go_wp2_with fail
     go_ret
     refine⟨?_,m+1+n2,by simp only[World.drewN_drewN]⟩
     have hfb:l7 s.bs l=false:=by
      rw[<-Bool.not_eq_true];intro hall;have h1:=List.all_eq_true.1 hall b (by
       rw[<-Hb.out];simp only[List.getD,List.getElem?_eq_getElem hqb,Option.getD_some]
       exact List.getElem_mem hqb)
      rw[Hab.out,Bool.or_false,decide_eq_true_eq] at h1;exact h1 (by rw[Hql.out,Hv.out];omega)
     rw[hfb];rfl
   | dg nv os root=>
    have hm:=fun W'=>FT xG W'
    have hna : ∀ W', (nilAhead 292 89 (.pointer (some ⟨xG, 0, none⟩)) "Allows").run Tryz.prog W' = .ok (some false) W' := fun W' => by kernel_rfl
    have Hq:Hid (∀n',Calls Tryz.prog 115 #[.pointer (some ⟨xG,0,none⟩),.slice lo (v+1) lc] ((W.drewN m).drewN n') fun e w'=>e= .returned (.bool (jA b.rows b.nt (picks b.vars l)))/\∃k,w'=((W.drewN m).drewN n').drewN k):=fun n'=>by
     rw[World.drewN_drewN];exact aK.out (m+n')
    obtain⟨ab,hab⟩:∃ab,jA b.rows b.nt (picks b.vars l)=ab:=⟨_,rfl⟩;rw[hab] at Hq;have Hab:=hd hab;clear hab;go_wp2_with fail
    have hK0:∃n',(W.drewN m).drew=(W.drewN m).drewN n':=⟨1,rfl⟩;refine eF Oi 10 (fun w''=>∃n',w''=(W.drewN m).drewN n') (by kernel_rfl) (by kernel_rfl) (by kernel_rfl) ?_
    refine take_at (i:=0) (d:=some 21) (v:=.iface 89 (.pointer (some ⟨xG,0,none⟩))) (by kernel_rfl) (by kernel_rfl) (fun _ _ _ h=>h) (fun w'' hS=>by kernel_rfl) hK0 ?_
    refine take_at (i:=1) (d:=some 22) (v:=.pointer (some ⟨G,0,none⟩)) (by kernel_rfl) (by kernel_rfl) (fun _ _ _ h=>h) (fun w'' hS=>by kernel_rfl) hK0 ?_
    refine take_at (i:=2) (d:=some 23) (v:=.pointer (some ⟨G,0,none⟩)) (by kernel_rfl) (by kernel_rfl) (fun _ _ _ h=>h) (fun w'' hS=>by kernel_rfl) hK0 ?_
    refine take_at (i:=3) (d:=some 24) (v:=.pointer (some ⟨G,9,none⟩)) (by kernel_rfl) (by kernel_rfl) (fun _ _ _ h=>h) (fun w'' hS=>by kernel_rfl) hK0 ?_
    refine take_at (i:=4) (d:=some 25) (v:=.slice lo (v+1) lc) (by kernel_rfl) (by kernel_rfl) (fun _ _ _ h=>h) (fun w'' hS=>aj 22 (.tmp 24) (by kernel_rfl) (by kernel_rfl) (by kernel_rfl) (by obtain⟨n',rfl⟩:=hS;exact c9)) hK0 ?_
    refine take_at (i := 5) (d := some 26) (v := .func (.method "Allows") #[.iface 89 (.pointer (some ⟨xG, 0, none⟩))] #[]) (by kernel_rfl) (by kernel_rfl) (fun _ _ _ h => h) (fun w'' hS => by kernel_rfl) hK0 ?_
    refine take_at (i := 6) (d := some 27) (v := .func (.method "Allows") #[.iface 89 (.pointer (some ⟨xG, 0, none⟩))] #[]) (by kernel_rfl) (by kernel_rfl) (fun _ _ _ h => h) (fun w'' hS => by kernel_rfl) hK0 ?_
    refine take_at (i:=7) (d:=some 28) (v:=.iface 89 (.pointer (some ⟨xG,0,none⟩))) (by kernel_rfl) (by kernel_rfl) (fun _ _ _ h=>h) (fun w'' hS=>by kernel_rfl) hK0 ?_
    refine enter_at (i:=8) (d:=some 29) (f:=115) (args:=#[.pointer (some ⟨xG,0,none⟩),.slice lo (v+1) lc]) (w':=(W.drewN m).drew) (by kernel_rfl) (by kernel_rfl) (by kernel_rfl) ?_
    refine(Hq.out 1).mono ?_
    rintro e w2 ⟨rfl,n2,rfl⟩
    have hK2:∃n',((W.drewN m).drewN 1).drewN n2=(W.drewN m).drewN n':=⟨1+n2,by simp only[World.drewN_drewN,Nat.add_assoc]⟩
    refine⟨_,rfl,hK2,?_⟩
    refine dG (i:=9) (d:=some 30) (v:=.bool (!ab)) (w':=((W.drewN m).drewN 1).drewN n2) (by kernel_rfl) (by kernel_rfl) (by kernel_rfl) hK2 ?_
    refine wpAnyH_done (by kernel_rfl) ?_ _
    simp only[Act.put,bQ,bW,bU];cases ab with
    | true=>
     go_wp2_with fail
     refine⟨⟨k+1,m+1+n2,by omega,by simp,rfl,fun j hj q' hq' he=>?_⟩,by simp[intOf];omega⟩
     rcases Nat.lt_succ_iff_lt_or_eq.1 hj with h | h
     ·exact HP.out j h q' hq' he
     ·subst h;obtain rfl:q'=q:=HA.out.mem.inj q' q hq' hq (by rw[he,<-Hqe.out])
      rw[Hb.out];exact(ja _ _ _).1 Hab.out
    | false=>
     go_wp2_with fail
     go_ret
     refine⟨?_,m+1+n2,by simp only[World.drewN_drewN]⟩
     have hfb:l7 s.bs l=false:=by
      rw[<-Bool.not_eq_true];intro hall;have h1:=List.all_eq_true.1 hall b (by
       rw[<-Hb.out];simp only[List.getD,List.getElem?_eq_getElem hqb,Option.getD_some]
       exact List.getElem_mem hqb)
      rw[Hab.out,Bool.or_false,decide_eq_true_eq] at h1;exact h1 (by rw[Hql.out,Hv.out];omega)
     rw[hfb];rfl
  ·obtain⟨R,hR⟩:∃R,(dY s.ts v).length=R:=⟨_,rfl⟩;have hkR:k=(dY s.ts v).length:=by omega
   have hfb:l7 s.bs l=true:=by
    unfold l7;rw[List.all_eq_true];intro b hb;obtain⟨q,hq,he⟩:=List.getElem_of_mem hb;have hgb:s.bs.getD q tb0=b:=by rw[<-he];simp[List.getD,hq]
    by_cases hlast:lastOf b.vars=(l.length:Int)-1
    ·have hqt:q<s.ts.length:=by rw[HA.out.mem.fits.1];exact hq
     have hmem:s.ts.getD q aH∈dY s.ts v:=by
      unfold dY;rw[List.mem_filter];refine⟨?_,?_⟩
      ·simp only[List.getD,List.getElem?_eq_getElem hqt,Option.getD_some]
       exact List.getElem_mem hqt
      ·rw[HA.out.mem.fits.2 q hq,hgb,decide_eq_true_eq,hlast,Hv.out];omega
     obtain⟨j,hj,hje⟩:=List.getElem_of_mem hmem;have hall:=HP.out j (by omega) q hqt (by rw[<-hje];simp[List.getD,hj])
     rw[hgb] at hall;rw[(ja _ _ _).2 hall,Bool.or_true]
    ·rw[decide_eq_true hlast,Bool.true_or]
   have Xr:=hd hfb;rw[hR] at hkR hlt hk ⊢;subst hkR;have hdk:¬((k:Int)<(k:Int)):=by omega
   clear hfb hlt hk hR;go_wp2_with fail
   go_ret
   exact⟨by rw[Xr.out];rfl,m,rfl⟩
def Qi (l:List Int):Nat->Int
 | 0=>-1
 | k+1=>max (Qi l k) (l.getD k 0)
theorem UN (l:List Int) (h:∀i,i<l.length->0<=l.getD i 0):∀k,k<l.length->Qi l (k+1)=kW l (k+1)
 | 0,hk=>by
  have:=h 0 hk
  simp only[Qi,kW];omega
 | k+1,hk=>by
  have ih:=UN l h k (by omega)
  have e1:Qi l (k+1+1)=max (Qi l (k+1)) (l.getD (k+1) 0):=rfl;have e2:kW l (k+1+1)=max (kW l (k+1)) (l.getD (k+1) 0):=rfl;rw[e1,e2,ih]
theorem UO (l:List Int) (h:∀i,i<l.length->0<=l.getD i 0) (h1:1<=l.length):Qi l l.length=lastOf l:=by
 obtain⟨k,hk⟩:∃k,l.length=k+1:=⟨l.length-1,by omega⟩
 have:=UN l h k (by omega)
 unfold lastOf;rw[hk];exact this
theorem UQ (l:List Int):∀k i,i<k->l.getD i 0<=Qi l k
 | 0,i,h=>absurd h (Nat.not_lt_zero _)
 | k+1,i,h=>by
  have e1:Qi l (k+1)=max (Qi l k) (l.getD k 0):=rfl;rw[e1];by_cases he:i=k
  ·subst he;omega
  ·have:=UQ l k i (by omega)
   omega
theorem MC (vars:List Int) (l:List Nat) (k:Nat) (hk:k<vars.length):picks (vars.take (k+1)) l=picks (vars.take k) l++[l.getD (vars.getD k 0).toNat 0]:=by
 unfold picks;rw[List.take_succ_eq_append_getElem hk,List.map_append,aN vars k 0 hk];rfl
theorem YP {w w1:World} {e:TypeId} {v v' x:Value} {xs:List Value} {n:Nat} (hn:xs.length=n) (h1:w1.ownsRow 0 e 1 v' (n+1) (xs++[x])) (hg:(w.alloc (.cells #[x] e)).grownBy w1 v.ownBlock) (hat:v'.ownBlock=v.ownBlock\/v'.ownBlock=some (w.alloc (.cells #[x] e)).heap.size):
  ∃g cap,v'= .slice (some ⟨g,0,none⟩) (n+1) cap/\Row w1 v' e (xs++[x])/\Fr (fun k=>v.ownBlock=some k) w w1/\(v.ownBlock=some g\/g=w.heap.size+1)/\g<w1.heap.size:=by
 subst hn;exact app1 h1 hg hat
def Qj (l:List Nat) (b:Tb):Bool:=decide (lastOf b.vars≠(l.length:Int)-1) || jA b.rows b.nt (picks b.vars l)
set_option maxRecDepth 1000000 in
theorem Jd (W:World) (lo Y:Nat) (zs:List Int) (R:RS) (ao:Option Addr) (afo:Nat) (l:List Nat) (w:World) (hW:Nw W w) (hR:mF W w lo Y zs R) (hl:l.length<=8) (ha:ax w ao (jc l)):
  Calls Tryz.prog 78 #[.pointer (some ⟨Y,0,none⟩),.slice ao l.length afo] w fun e w'=>e= .returned (.bool (l7 (R.ts.map jO.tb) l))/\Nw w w':=by
 obtain⟨i0,hi0,hz0,hz1,hz2⟩:=info_parts Tryz.jU;obtain⟨cells,t1,_⟩:=hR.tabs;obtain⟨qP,aI,sZ⟩:=iQ t1;have IU:=hR.t12;have HR:=hd hR;have HW:=hd hW;have HA:=hd ha;have Ob:=hd sZ;obtain⟨tn,htn⟩:∃tn,R.ts.length=tn:=⟨_,rfl⟩;have Gv:=hd htn;rw[htn] at IU;obtain⟨res,hres⟩:∃res,l7 (R.ts.map jO.tb) l=res:=⟨_,rfl⟩;rw[hres];have pz:=hd (show (R.ts.map jO.tb).all (Qj l)=res from hres)
 clear hW hR ha sZ htn hres t1;go_enter Tryz.func78,Tryz.ntmps78
 go_wp2_with fail
 go_loopw [5,6,7,8,9,10] (fun k _ _ _ _ _ wr=>∃i:Nat,i<=tn/\k= .int .i64 (i:Int)/\Hid (Nw w wr)/\Hid ((R.ts.take i).all (fun t=>Qj l t.tb)=true)) (fun k _ _ _ _ _ _=>tn-(intOf k).toNat)
 case atStart=>exact⟨0,Nat.zero_le _,rfl,Fr.refl _ _,rfl⟩
 case round=>
  obtain⟨i,hi,rfl,HF,HA1⟩:=hrel;have d3:wr.cell? ⟨Y,3,none⟩=some (.slice qP tn aI):=by
   have:=(HR.out.nw HF.out).dU.blk.cell 3
   rw[Ob.out,Gv.out] at this;exact this
  have hYl:=(HR.out.nw HF.out).dU.blk.lt;by_cases hlt:i<tn
  ·have hdk:(i:Int)<(tn:Int):=by omega
   obtain⟨g,cap,vo,ak,ro,au,he,hgl,c0,c1,c2,c3,Ux,hRr⟩:=(HR.out.nw HF.out).UD.cell i (by rw[Gv.out];exact hlt)
   have hok:=HR.out.tok i (by rw[Gv.out];exact hlt)
   have htk:R.ts.take (i+1)=R.ts.take i++[R.ts.getD i jk]:=by
    rw[List.take_succ_eq_append_getElem (by rw[Gv.out];exact hlt),aN _ _ _ (by rw[Gv.out];exact hlt)]
   have hmem:R.ts.getD i jk∈R.ts:=by
    rw[aN _ _ _ (by rw[Gv.out];exact hlt)]
    exact List.getElem_mem _
   obtain⟨⟨⟨vars,rows,nt⟩,way⟩,htb⟩:∃t,R.ts.getD i jk=t:=⟨_,rfl⟩;rw[htb] at c0 c1 c2 c3 Ux hRr hok htk hmem;dsimp only at c0 c1 c2 c3 Ux hRr hok
   rw[Ob.out,Gv.out] at he;simp only[Value.slice.injEq] at he;obtain⟨rfl,_,_⟩:=he;obtain⟨_,hv1,IJ,LH,hvn,hrl⟩:=lM hok (aF HR.out.dU.lJ).2;have hv4:=LH.four;have Htk:=hd htk;have RU:=hd hmem;have Wp:=hd LH;have Hrl:=hd hrl;have HIv:=hd Ux;have HRr:=hd hRr;obtain⟨wt,hwt⟩:∃wt,wr.alloc (.cells #[.slice vo vars.length ak,.slice ro rows.length au,.bool nt,.int .i64 way] 41)=wt:=⟨_,rfl⟩;clear htk hmem LH hrl Ux hRr hok htb hvn;have hfT:Nw wr wt:=by rw[<-hwt];exact(Fr.refl _ wr).alloc _
   have pU:af wt wr.heap.size #[.slice vo vars.length ak,.slice ro rows.length au,.bool nt,.int .i64 way] 41:=by rw[<-hwt];exact af.new _ _ _
   have HfT:=hd hfT;have rM:=hd pU;have HWt:=hd ((HW.out.trans HF.out (fun _ x=>x.elim)).trans hfT (fun _ x=>x.elim))
   have HAt:=hd ((HA.out.nw HF.out).nw hfT);have hlZ:=iE l;have HlZ:=hd hlZ;clear hfT pU hlZ;go_wp2_with fail
   clear hwt c0 c1 c2 c3 hgl d3 hYl;go_loopw [7,8,9] (fun mn la j wq=>∃(k:Nat) (xs:List Nat),k<=vars.length/\j= .int .i64 (k:Int)/\la= .int .i64 (Qi vars k)/\xs.length<=k/\Hid (Mine wt wq mn 3 (ints xs))/\Hid ((∀q,q<k->vars.getD q 0<(l.length:Int))->xs=picks (vars.take k) l)) (fun _ _ j _=>vars.length-(intOf j).toNat)
   case atStart=>exact⟨0,[],Nat.zero_le _,rfl,rfl,Nat.le_refl _,Mine.nil (Fr.refl _ _) _,hd (fun _=>rfl)⟩
   case round=>
    rename World=>wq
    obtain⟨k,xs,hk,rfl,rfl,hxl,HM,HX⟩:=hrel;obtain⟨mo,mc,hmf,_⟩:=HM.out.row.form;rw[show (ints xs).length=xs.length from by simp[ints]] at hmf
    subst hmf;have b0:wq.cell? ⟨wr.heap.size,0,none⟩=some (.slice vo vars.length ak):=(rM.out.nw HM.out.nw).cell 0
    have hBl:=(rM.out.nw HM.out.nw).lt;obtain⟨mx,hmx⟩:∃mx,Qi vars k=mx:=⟨_,rfl⟩;by_cases hkl:k<vars.length
    ·have hdl:(k:Int)<(vars.length:Int):=by omega
     obtain⟨vb,iT,Wh,hvl,CW⟩:=((HIv.out.nw HWt.out).nw HM.out.nw) k hkl;obtain⟨hv0,jv⟩:=Wp.out.ok k hkl;obtain⟨u,hu⟩:∃u:Nat,vars.getD k 0=(u:Int):=⟨(vars.getD k 0).toNat,by omega⟩
     have hs:Qi vars (k+1)=max (Qi vars k) (vars.getD k 0):=rfl;have hpt:=MC vars l k hkl;rw[hu] at CW hs hpt jv;rw[hmx] at hs ⊢;rw[Int.toNat_natCast] at hpt;have Hs:=hd hs;have Hpt:=hd hpt;have Hu:=hd hu;subst Wh;clear hs hpt hu hmx hv0;by_cases Xa:u<l.length
     ·have hdu:(u:Int)<(l.length:Int):=by omega
      obtain⟨lb,PO,hle,hll,hlc⟩:=(HAt.out.nw HM.out.nw) u (by rw[HlZ.out];exact Xa)
      rw[Bh] at hlc;obtain⟨lv,hlv⟩:∃lv,l.getD u 0=lv:=⟨_,rfl⟩;rw[hlv] at hlc;have Hlv:=hd hlv;subst hle;clear hlv;go_wp2_with (at_builtin;refine wpList_append_own_at _ rfl _ _ 22 rfl 0 3 i0 (.int .i64 0) 1 8 Tryz.underlying22 hi0 hz0 hz1 hz2 rfl (by decide) (.slice mo xs.length mc) xs.length (ints xs) rfl (by have:=HM.out.row.alloc (.cells #[.int .i64 (lv:Int)] 3);unfold Row at this;rw[show (ints xs).length=xs.length from by simp[ints]] at this;exact this) ⟨wq.heap.size,0,none⟩ 1 1 [.int .i64 (lv:Int)] rfl rfl (cell_one_new _ _ _) (by simp[Value.oneCell']) (by unfold maxLen;omega) (by omega) (Nat.zero_le _) ?_;intro v' w3 hown' hgrow _ hat;obtain⟨g3,cap3,rfl,aaq,hf3,AA,hlt3⟩:=YP (show (ints xs).length=xs.length from by simp[ints]) hown' hgrow hat;have hr3:Row w3 (.slice (some ⟨g3,0,none⟩) (xs.length+1) cap3) 3 (ints (xs++[lv])):=(by have e:ints (xs++[lv])=ints xs++[.int .i64 (lv:Int)]:=(by simp[ints]);unfold Row;rw[e,List.length_append,show (ints xs).length=xs.length from by simp[ints]];exact hown');have HM3:=hd (HM.out.more (g:=g3) hr3 hf3 rfl (AA.imp (fun h=>h) (fun h=>by omega)));clear hown' hgrow hat hr3 aaq hf3 AA hlt3)
      refine⟨⟨k+1,xs++[lv],by omega,by simp,?_,by rw[List.length_append];exact Nat.succ_le_succ hxl,HM3,hd (fun hall=>?_)⟩,by simp[intOf];omega⟩
      ·rw[Hs.out];congr 1
       split <;> omega
      ·rw[Hpt.out,Hlv.out,<-HX.out (fun q hq=>hall q (by omega))]
     ·have hdu:¬((u:Int)<(l.length:Int)):=by omega
      go_wp2_with fail
      refine⟨⟨k+1,xs,by omega,by simp,?_,by omega,HM,hd (fun hall=>?_)⟩,by simp[intOf];omega⟩
      ·rw[Hs.out];congr 1
       split <;> omega
      ·have:=hall k (by omega)
       rw[Hu.out] at this;omega
    ·obtain rfl:vars.length=k:=by omega
     have hdl:¬((vars.length:Int)<(vars.length:Int)):=by omega
     have hlast:lastOf vars=mx:=by rw[<-UO vars (fun i hi=>(Wp.out.ok i hi).1) hv1];exact hmx
     have hge:=UQ vars vars.length;rw[hmx] at hge;have YQ:=hd hlast;have Hge:=hd hge;have ag5:-9223372036854775808<=mx/\mx<9223372036854775807:=by
      obtain⟨q,hq,he⟩:=tH vars vars.length (by omega)
      have h2:=Wp.out.ok q hq;unfold lastOf at hlast;omega
     rw[hmx];clear hmx hge hlast;by_cases hm:mx=(l.length:Int)-1
     ·have hmb:(mx==(l.length:Int)-1)=true:=by rw[hm];simp
      have hxs:=HX.out (fun q hq=>by have:=Hge.out q hq;omega)
      rw[List.take_length] at hxs;have Je:xs.length=vars.length:=by rw[hxs];simp[picks]
      have b1:wq.cell? ⟨wr.heap.size,1,none⟩=some (.slice ro rows.length au):=(rM.out.nw HM.out.nw).cell 1
      have b2:wq.cell? ⟨wr.heap.size,2,none⟩=some (.bool nt):=(rM.out.nw HM.out.nw).cell 2
      have b3:wq.cell? ⟨wr.heap.size,3,none⟩=some (.int .i64 way):=(rM.out.nw HM.out.nw).cell 3
      have hIx:ax wq mo (jc xs):=by
       have hr:=HM.out.row;have e:ints xs=(jc xs).map (Value.int .i64):=by simp[ints,jc]
       rw[e,<-iE xs] at hr;exact hr.oC
      have xX:=hd (uD vo ro mo ak au mc vars.length (jc xs) rows nt way wq hv4 (by rw[iE];exact Je) IJ Hrl.out ((HRr.out.nw HWt.out).nw HM.out.nw) hIx)
      rw[Eb (fun j hj=>by rw[Hrl.out j hj,Je])] at xX
      have Hxs:=hd hxs;have agz:=hd Je;obtain⟨al,hal⟩:∃al,jA rows nt xs=al:=⟨_,rfl⟩;rw[hal] at xX;have Hal:=hd hal;have hfit:Qj l ⟨vars,rows,nt⟩=al:=by
       unfold Qj;rw[show lastOf (Tb.vars ⟨vars,rows,nt⟩)=(l.length:Int)-1 from by show lastOf vars=_;rw[YQ.out,hm],<-hal,hxs]
       simp
      have XA:=hd hfit;rw[Je] at HM ⊢;have Gw:=hd ((HF.out.trans HfT.out (fun _ x=>x.elim)).trans HM.out.nw (fun _ x=>x.elim))
      clear hxs Je hIx hal hfit hm;cases al with
      | true=>
       go_wp2_with (go_at_call 92;refine xX.out.mono ?_;rintro e w5 ⟨rfl,hf5⟩;have Wj:=hd hf5;clear hf5)
       refine⟨⟨i+1,by omega,by simp,hd (Gw.out.trans Wj.out (fun _ x=>x.elim)),hd ?_⟩,by simp[intOf];omega⟩
       rw[Htk.out,List.all_append,HA1.out];simp[XA.out]
      | false=>
       have hrf:res=false:=by
        rw[<-pz.out,Bool.eq_false_iff];intro h;have:=List.all_eq_true.1 h ⟨vars,rows,nt⟩ (List.mem_map.2 ⟨_,RU.out,rfl⟩)
        rw[XA.out] at this;cases this
       have Hrf:=hd hrf;clear hrf;go_wp2_with (go_at_call 92;refine xX.out.mono ?_;rintro e w5 ⟨rfl,hf5⟩;have Wj:=hd hf5;clear hf5)
       go_ret
       exact⟨by rw[Hrf.out];rfl,Gw.out.trans Wj.out (fun _ x=>x.elim)⟩
     ·have hmb:(mx==(l.length:Int)-1)=false:=by rw[beq_eq_false_iff_ne];exact hm
      have hfit:Qj l ⟨vars,rows,nt⟩=true:=by
       unfold Qj;rw[show lastOf (Tb.vars ⟨vars,rows,nt⟩)=mx from YQ.out]
       simp[hm]
      have XA:=hd hfit;have Gw:=hd ((HF.out.trans HfT.out (fun _ x=>x.elim)).trans HM.out.nw (fun _ x=>x.elim))
      clear hfit hm;go_wp2_with fail
      refine⟨⟨i+1,by omega,by simp,Gw,hd ?_⟩,by simp[intOf];omega⟩
      rw[Htk.out,List.all_append,HA1.out];simp[XA.out]
  ·obtain rfl:tn=i:=by omega
   have hdk:¬((tn:Int)<(tn:Int)):=by omega
   have hrt:res=true:=by
    have h1:=HA1.out;rw[<-Gv.out,List.take_length] at h1;rw[<-pz.out,List.all_map];exact h1
   have Hrt:=hd hrt;clear hrt;go_wp2_with fail
   go_ret
   exact⟨by rw[Hrt.out];rfl,HF.out⟩
theorem Tryz.xu:(Tryz.prog.info? 22).map (fun i=>(i.zero,i.size,i.bytes))=some (some (.slice none 0 0),1,24):=by kernel_rfl
def dI (zs:List Int) (k:Nat):Array Value:=((List.replicate k (-7)++(zs++[78]).drop k).map (Value.int .i64)).toArray
theorem Dv (zs:List Int):dI zs 0=((zs++[78]).map (Value.int .i64)).toArray:=by simp[dI]
theorem oV (zs:List Int) (k:Nat) (hk:k<=zs.length+1):(dI zs k).size=zs.length+1:=by simp[dI];omega
theorem Dw (zs:List Int) (k:Nat) (hk:k<zs.length+1):(dI zs k).setIfInBounds k (.int .i64 (-7))=dI zs (k+1):=by
 apply Array.ext
 ·simp[oV zs k (by omega),oV zs (k+1) (by omega)]
 ·intro i h1 h2;simp only[dI,bQ,eH,List.getElem_set,List.getElem_map];by_cases h:k=i
  ·subst h;simp
  ·rw[if_neg h];congr 1
   simp only[List.getElem_append,List.length_replicate,List.getElem_replicate,List.getElem_drop];by_cases h3:i<k
   ·simp[h3,show i<k+1 by omega]
   ·simp only[h3,show ¬i<k+1 by omega,dite_false]
    have e1:k+(i-k)=i:=by omega
    have e2:k+1+(i-(k+1))=i:=by omega
    simp only[e1,e2]
theorem FU (zs:List Int):dI zs (zs.length+1)=(List.replicate (zs.length+1) (Value.int .i64 (-7))).toArray:=by
 simp[dI]
set_option maxRecDepth 1000000 in
theorem kN (B g:Nat) (ao:Option Addr) (cap:Nat) (zs:List Int) (s0 s1 tv s3:Value) (xs:List Value) (w:World) (hz:zs.length*8<=140737488355328)
  (hB:af w B #[s0,s1,tv,s3] 29) (sZ:Row w tv 22 xs) (hxs:(xs.length+1)*24<=140737488355328)
  (hg:af w g ((zs++[78]).map (Value.int .i64)).toArray 3) (hl:ax w ao zs):
  Calls Tryz.prog 16 #[.pointer (some ⟨B,0,none⟩),.slice (some ⟨g,0,none⟩) (zs.length+1) (zs.length+1),.slice ao zs.length cap] w fun e w'=>
   e= .returned (.bool true)/\∃tv',Fr (fun k=>k=B\/k=g\/tv.ownBlock=some k) w w'/\af w' B #[s0,s1,tv',s3] 29 /\
    Row w' tv' 22 (xs++[.slice (some ⟨g,0,none⟩) (zs.length+1) (zs.length+1)])/\af w' g (dI zs (zs.length+1)) 3 /\
    (∀k,tv'.ownBlock=some k->tv.ownBlock=some k\/w.heap.size<=k):=by
 obtain⟨i0,hi,hz0,hz1,hz2⟩:=info_parts Tryz.xu;have afp:w.cell? ⟨g,zs.length,none⟩=some (.int .i64 78):=by rw[hg.cell];simp
 have hown:ax w (some ⟨g,0,none⟩) zs:=ax.pW hg 0 zs (fun i hi=>by
  simp[List.getElem?_append_left,hi])
 go_enter Tryz.func16,Tryz.ntmps16
 go_wp2_with (go_at_call 33;refine(qW _ _ _ _ zs _ hz hown hl).mono ?_;rintro e w' ⟨rfl,n,rfl⟩)
 have hgn:af (w.drewN n) g (dI zs 0) 3:=by rw[Dv];exact hg
 have acT:Fr (fun k=>k=g) w (w.drewN n):=(Fr.refl _ w).drewN n
 clear afp hown hl;go_loopw [10] (fun i wr=>∃k:Nat,k<=zs.length+1/\i= .int .i64 k/\Hid (af wr g (dI zs k) 3)/\Fr (fun k=>k=g) w wr) (fun i _=>zs.length+1-(intOf i).toNat)
 case atStart=>exact⟨0,Nat.zero_le _,rfl,hgn,acT⟩
 case round=>
  obtain⟨k,hk,rfl,hb,hf⟩:=hrel;clear hgn acT;by_cases hlt:k<zs.length+1
  ·have hfz:=hb.out.free k;have hck:wr.cell? ⟨g,k,none⟩=some _:=(hb.out.cell k).trans (Array.getElem?_eq_getElem (by rw[oV zs k hk];exact hlt))
   go_wp2
   go_roundw
   case rel=>exact⟨k+1,by omega,by go_num,by rw[<-Dw zs k hlt];exact hb.out.set k _,hf.setCell _ _ (.inl rfl)⟩
   case measure=>simp[intOf];omega
  ·obtain rfl:k=zs.length+1:=by omega
   have hgB:g≠B:=fun e=>by subst e;have:=(hg.inj hB).2;revert this;decide
   have hBr:af wr B #[s0,s1,tv,s3] 29:=hB.fr hf (fun e=>hgB e.symm)
   have htr:Row wr tv 22 xs:=sZ.fr hf (fun k hk e=>by subst e;exact sZ.ne hg (by decide) hk)
   have hc2:wr.cell? ⟨B,2,none⟩=some tv:=hBr.cell 2
   go_wp2_with (at_builtin;refine wpList_append_own_at _ rfl _ _ 26 rfl 0 22 i0 (.slice none 0 0) 1 24 Tryz.underlying26 hi hz0 hz1 hz2 rfl (by decide) _ _ _ rfl (htr.alloc _) ⟨wr.heap.size,0,none⟩ 1 1 [.slice (some ⟨g,0,none⟩) (zs.length+1) (zs.length+1)] rfl rfl (cell_one_new _ _ _) (by simp[Value.oneCell']) (by unfold maxLen;omega) (by omega) (Nat.zero_le _) ?_;intro v' w1 hown' hgrow _ hat;obtain⟨g',cap',rfl,hr1,hf1,ha1,hlt1⟩:=app1 hown' hgrow hat;have hB1:af w1 B #[s0,s1,tv,s3] 29:=hBr.fr hf1 (fun e=>htr.ne hBr (by decide) e);have ag6:=hB1.free 2;have ag7:w1.cell? ⟨B,2,none⟩=some tv:=hB1.cell 2;clear hown' hgrow hat)
   have hb1:af w1 g (dI zs (zs.length+1)) 3:=hb.out.fr hf1 (fun e=>htr.ne hb.out (by decide) e)
   have Qk:g'≠B:=fun e=>by
    subst e;exact hr1.ne hB1 (by decide) rfl
   go_ret
   refine⟨rfl,.slice (some ⟨g',0,none⟩) (xs.length+1) cap',?_,?_,?_,hb1.other _ _ hgB,?_⟩
   ·exact((hf.mono (fun i e=>.inl (.inr (.inl e)))).trans hf1 (fun i e=>.inl (.inr (.inr e)))).setCell _ _ (.inl (.inl rfl))
   ·have:=hB1.set 2 (.slice (some ⟨g',0,none⟩) (xs.length+1) cap')
    simpa using this
   ·exact hr1.fr ((Fr.refl (fun k=>k=B) w1).setCell ⟨B,2,none⟩ _ (.inl rfl)) (fun k hk e=>Qk (by cases hk;exact e))
   ·intro k hk;cases hk;rcases ha1 with h | h
    ·exact .inl h
    ·exact .inr (by have:=hf.size;simp only[h];omega)
end Go.Proofs.YtkjfpdfkcfgfkaaGreat
