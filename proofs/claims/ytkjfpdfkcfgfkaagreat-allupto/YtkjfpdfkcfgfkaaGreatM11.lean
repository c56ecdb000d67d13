/- The statement's world: going. -/
import Derived.Test.YtkjfpdfkcfgfkaaGreatM10
set_option maxHeartbeats 6400000
namespace Go.Proofs.YtkjfpdfkcfgfkaaGreat
open Go.RowKit Go.Shelf
attribute [local go_sem] Oper.semAt_some
def hasB (ops:Array Oper) (i:Nat) (d:Option Tmp):Bool:=decide (i<ops.size)&&decide ((opAt ops i).dst=d)
theorem abe {P:Program} {Q:Exit->Act->World->Prop} {ops:Array Oper} {i:Nat} {d:Option Tmp} {a:Act} {w w':World} {f:FuncId} {args:Array Value} {K:Act->World->Prop} (hB:hasB ops i d=true) (hw:Region.wanted (opAt ops i) (yielded ops a.tmps)=true)
  (hr:(execOp a.eval (opAt ops i)).run P w= .ok (.enter f args) w') (h:Calls P f args w' (fun e w''=>∃v,e= .returned v/\K (a.put d v) w'')):wpOp P ops Q i K a w:=by
 simp only[hasB,Bool.and_eq_true,decide_eq_true_eq] at hB;obtain⟨h4,h5⟩:=hB;subst h5;exact dF (jK h4) hw hr h
theorem abf {P:Program} {Q:Exit->Act->World->Prop} {ops:Array Oper} {i:Nat} {d:Option Tmp} {a:Act} {w w':World} {v:Value} {K:Act->World->Prop} (hB:hasB ops i d=true) (hw:Region.wanted (opAt ops i) (yielded ops a.tmps)=true)
  (hr:(execOp a.eval (opAt ops i)).run P w= .ok (.value v) w') (h:K (a.put d v) w'):wpOp P ops Q i K a w:=by
 simp only[hasB,Bool.and_eq_true,decide_eq_true_eq] at hB;obtain⟨h4,h5⟩:=hB;subst h5;exact aA (jK h4) hw hr h
def Gq (xs:Nat->Value) (D b3 b5:Nat) (sq:Value) (t:Int):Array Value:=#[xs 0,.pointer (some ⟨D,0,none⟩),xs 2,.pointer (some ⟨b3,0,none⟩),xs 4,.pointer (some ⟨b5,0,none⟩),xs 6,sq,xs 8,xs 9,.int .i64 t,xs 11,xs 12,xs 13,xs 14,xs 15,xs 16,xs 17,xs 18,xs 19,xs 20,xs 21,xs 22,xs 23,xs 24,xs 25,xs 26,xs 27,xs 28,xs 29,xs 30,xs 31,xs 32,xs 33,xs 34,xs 35,xs 36,xs 37,xs 38,xs 39,xs 40,xs 41,xs 42,xs 43,xs 44,xs 45,xs 46,xs 47,xs 48,xs 49,xs 50,xs 51,xs 52,xs 53,xs 54,xs 55,xs 56,xs 57,xs 58,xs 59,xs 60,xs 61,xs 62,xs 63,xs 64,xs 65,xs 66,xs 67,xs 68,xs 69,xs 70,xs 71,xs 72,xs 73,xs 74,xs 75,xs 76,xs 77,xs 78,xs 79,xs 80,xs 81,xs 82,xs 83,xs 84,xs 85,xs 86,xs 87,xs 88,xs 89,xs 90,xs 91,xs 92,xs 93,xs 94,xs 95,xs 96,xs 97,xs 98,xs 99,xs 100,xs 101,xs 102,xs 103,xs 104,xs 105,xs 106,xs 107,xs 108,xs 109,xs 110,xs 111,xs 112,xs 113,xs 114,xs 115,xs 116,xs 117,xs 118,xs 119,xs 120,xs 121,xs 122,xs 123,xs 124,xs 125,xs 126,xs 127,xs 128,xs 129,xs 130,xs 131,xs 132,xs 133,xs 134,xs 135,xs 136,xs 137,xs 138,xs 139,xs 140,xs 141,xs 142,xs 143,xs 144,xs 145,xs 146,xs 147,xs 148,xs 149,xs 150,xs 151,xs 152,xs 153,xs 154,xs 155,xs 156,xs 157,xs 158,xs 159,xs 160,xs 161,xs 162,xs 163,xs 164,xs 165]
theorem EL {T:Array Value} {D b3 b5:Nat} {sq:Value} {t:Int} (h:T=Gq (fun k=>T.getD k undef) D b3 b5 sq t):∃xs,T=Gq xs D b3 b5 sq t:=⟨_,h⟩
noncomputable def ad1:Array Oper:=gU Tryz.f34 8
noncomputable def abg:Array Oper:=gU Tryz.f34 19
noncomputable def abh:Array Oper:=gU Tryz.f34 33
set_option maxRecDepth 1000000 in
theorem Rh (W:World) (lo B:Nat) (L:LW) (ds:List Sd) (i:Nat) (d:Sd) (o:kU) (F M:List kU) (w:World) (h:LI W w lo B L ds) (hi:i<ds.length) (hget:ds[i]=d) (hn2:ds.length<=2) (ho:Gf W o) (hN:vK W o F M) (h4:L.nums.length % 4=0)
  (hrn:L.nums.length+4800*jF o F M<=68719476736) (hrt:L.turned.length+jF o F M<=8388608) (hrr:L.rows.length+jF o F M<=8388608):
  Calls Tryz.prog 34 #[.pointer (some ⟨B,0,none⟩),.pointer (some ⟨d.D,0,none⟩),.agg o.cells] w fun e w'=>e= .returned (.bool true)/\∃L' ds',kX W w' lo B ds.length L L' ds' (4800*jF o F M) (jF o F M):=by
 refine(xM (R:=fun v w'=>v= .bool true/\∃L' ds',kX W w' lo B ds.length L L' ds' (4800*jF o F M) (jF o F M)) Tryz.func34 rfl ?_).mono (fun e w' ⟨v,he,hv,hp⟩=>⟨by rw[he,hv],hp⟩)
 simp only[Tryz.ntmps34,List.size_toArray,List.length_cons,List.length_nil,Nat.reduceAdd,Nat.reduceSub,Array.replicate_succ,Array.replicate_zero,List.push_toArray,List.append_toArray,List.nil_append,List.cons_append];obtain⟨D0,hD0⟩:∃D0,D0=d.D:=⟨_,rfl⟩;obtain⟨X0,hX0⟩:∃X0,X0=d.X:=⟨_,rfl⟩;rw[<-hD0];obtain⟨b3,hb3⟩:∃b3,b3=w.heap.size:=⟨_,rfl⟩;obtain⟨b5,hb5⟩:∃b5,b5=w.heap.size+1:=⟨_,rfl⟩;obtain⟨V,hV⟩:∃V,V=(w.alloc (.cells #[.pointer (some ⟨B,0,none⟩)] 24)).alloc (.cells o.cells 54):=⟨_,rfl⟩;have fA:Nw w V:=by rw[hV];exact((Fr.refl _ w).alloc _).alloc _
 have hG:yS V B b3 b5 o:=by
  have h1:af (w.alloc (.cells #[.pointer (some ⟨B,0,none⟩)] 24)) w.heap.size #[.pointer (some ⟨B,0,none⟩)] 24:=af.new _ _ _;have h2:=af.new (w.alloc (.cells #[.pointer (some ⟨B,0,none⟩)] 24)) o.cells 54;rw[show (w.alloc (.cells #[.pointer (some ⟨B,0,none⟩)] 24)).heap.size=w.heap.size+1 from by simp] at h2
  rw[hV,hb3,hb5];exact⟨h1.alloc _,h2⟩
 have uk:LI W V lo B L ds:=h.nw fA;have hS:eX W V lo d:=hget▸uk.sides _ (List.getElem_mem hi);have x0:V.cell? ⟨D0,0,none⟩=some (.pointer (some ⟨X0,0,none⟩)):=by rw[hD0,hX0];exact hS.blk.cell 0
 have hDl:D0<V.heap.size:=by rw[hD0];exact hS.blk.lt
 have aK:=hd (o8 X0 V);have aaT:∀w':World,(binOp .eql 50 (.func (.func 77) #[.pointer (some ⟨X0,0,none⟩)] #[]) .nilFunc).run Tryz.prog w'= .ok (.bool false) w':=fun w'=>by kernel_rfl
 have HLV:=hd uk;have HG:=hd hG;have ad2:=hd hget;have HDX:=hd (And.intro hD0 hX0);obtain⟨fo,fc,hfv,hF⟩:=hN.f;obtain⟨mo,mc,hmv,hM,hMs⟩:=hN.m;have HMs:=hd hMs;have HF:=hd hF;have HM:=hd hM;have Hfv:=hd hfv;have C9:=hd hmv;have Ho:=hd ho;obtain⟨gc,hgc⟩:∃gc,jF o F M=gc:=⟨_,rfl⟩;have Hgc:=hd hgc;rw[hgc] at hrn hrt hrr ⊢;have HR:=hd (And.intro hrn (And.intro hrt hrr));have H4:=hd h4;obtain⟨RR,hRR⟩:∃RR:Value->World->Prop,RR=fun v w'=>v= .bool true/\∃L' ds',kX W w' lo B ds.length L L' ds' (4800*gc) gc:=⟨_,rfl⟩
 rw[<-hRR];have HRR:=hd hRR;clear hMs hD0 hX0 h hget uk hS hG fA hF hM hfv hmv hN ho hgc hrn hrt hrr h4 hRR;go_upto_region 1 with fail
 rw[<-hV,<-hb5,<-hb3];clear hV hb3 hb5;go_upto_region 4 with (go_at_call 50;refine aK.out.mono ?_;rintro e w1 ⟨rfl,rfl⟩)
 have hFl:=sG F;have ahI:jS o+aP F+2*aP M=gc:=Hgc.out;have HSx:Hid (∃hi:i<ds.length,ds[i].D=D0/\ds[i].X=X0):=⟨hi,by rw[ad2.out,HDX.out.1],by rw[ad2.out,HDX.out.2]⟩
 have HE0:Hid (kX W w1 lo B ds.length L L ds (4*0) (aP (F.take 0))):=⟨HLV.out,rfl,by omega,by omega,by omega,H4.out⟩
 have hcF:=vJ F;have HcF:=hd hcF;have hFb:F.length<=8388608:=by have:=HR.out.2.1;omega
 clear x0 hDl aK aaT hcF;go_wp2_with fail
 go_loopw [8,9] (fun v _ wr=>∃(k:Nat) (L':LW) (ds':List Sd),k<=F.length/\v= .int .i64 (k:Int)/\Hid (kX W wr lo B ds.length L L' ds' (4*k) (aP (F.take k)))/\Hid (∃hi:i<ds'.length,ds'[i].D=D0/\ds'[i].X=X0)/\Hid (yS wr B b3 b5 o)) (fun v _ _=>F.length-(intOf v).toNat)
 case atStart=>exact⟨0,L,ds,Nat.zero_le _,rfl,HE0,HSx,HG⟩
 case round=>
  clear HE0 HSx HG HLV;obtain⟨k,L',ds',hk,rfl,HE,HS,HG⟩:=hrel;have c8:wr.cell? ⟨b5,8,none⟩=some (.slice fo F.length fc):=(HG.out.k5.cell 8).trans (by rw[<-Hfv.out];rfl)
  have c3:wr.cell? ⟨b3,0,none⟩=some (.pointer (some ⟨B,0,none⟩)):=HG.out.k3.cell 0
  have VS:=HG.out.k5.lt;have ad3:=HG.out.k3.lt;by_cases hlt:k<F.length
  ·have hdk:(k:Int)<(F.length:Int):=by omega
   obtain⟨ob,oo,hoe,JG,hoc,hok⟩:=HF.out k hlt;have X4:=hd (show ∀w',Nw W w'->∀c,c<10->w'.cell? ⟨ob,oo+k*10+c,none⟩=(F.getD k WE).cells[c]? from fun w' f c hc=>(f.cell JG (fun x=>x)).trans (hoc c hc))
   have hct:=xI F k hlt;have hcl:=HcF.out (k+1);have hcl0:=HcF.out k;obtain⟨op,hop⟩:∃op,F.getD k WE=op:=⟨_,rfl⟩;rw[hop] at X4 hok hct;have c0:wr.cell? ⟨ob,oo+k*10,none⟩=some (.int .i64 op.kind):=X4.out wr HE.out.li.env.nw 0 (by omega)
   have VH:ob<wr.heap.size:=Nat.lt_of_lt_of_le JG HE.out.li.env.nw.size;have qU:=hd hok;have Hct:=hd hct;subst hoe;clear hoc hop hok hct;have q1:=HE.out.a;have q2:=HE.out.b;have q3:=HE.out.r;by_cases hk7:op.kind<=7
   ·have hdm:¬((7:Int)<op.kind):=by omega
    obtain⟨ix,hix⟩:∃ix,(if op.which then L'.ss.length-1 else 0)=ix:=⟨_,rfl⟩
    have hlen:=HE.out.len;have sH:L'.ss.length=ds.length:=by rw[HE.out.li.ss,List.length_map,hlen]
    have xJ:ix<ds'.length:=by
     rw[<-hix,hlen,sH];split <;> omega
    obtain⟨dx,IW⟩:∃dx,dx=ds'[ix]'xJ:=⟨_,rfl⟩;have JH:L'.ss.getD ix undef= .pointer (some ⟨dx.D,0,none⟩):=by
     rw[HE.out.li.ss,IW];simp[List.getD,xJ]
    have CJ:=hd (yQ lo B L' op wr.drew (HE.out.li.law.nw ((Fr.refl _ wr).drew)) (by rw[sH];omega) (by rw[sH];omega))
    rw[hix,JH] at CJ;have Gi:=hd xJ;have Hdx:=hd (show ds'[ix]'Gi.out=dx from IW.symm)
    have hroom:zF L':=⟨by have:=HR.out.1;omega,by have:=HR.out.2.1;omega,by have:=HR.out.2.2;omega,HE.out.four⟩
    have Zf:=hd hroom;clear hroom hix sH xJ JH IW hlen;go_wp2_with fail
    have hK0:Nw wr wr.drew:=(Fr.refl _ wr).drew;refine eF ad1 15 (fun w''=>Nw W w''/\w''.cell? ⟨b3,0,none⟩=some (.pointer (some ⟨B,0,none⟩))/\w''.cell? ⟨b5,8,none⟩=some (.slice (some ⟨ob,oo,none⟩) F.length fc)) (by kernel_rfl) (by kernel_rfl) (by kernel_rfl) ?_
    have hK:Nw W wr.drew/\wr.drew.cell? ⟨b3,0,none⟩=some (.pointer (some ⟨B,0,none⟩))/\wr.drew.cell? ⟨b5,8,none⟩=some (.slice (some ⟨ob,oo,none⟩) F.length fc):=⟨HE.out.li.env.nw.drew,c3,c8⟩
    refine take_at (i:=0) (d:=some 40) (v:=.pointer (some ⟨B,0,none⟩)) (by kernel_rfl) (by kernel_rfl) (fun _ _ _ h=>h) (fun w'' hS=>aj 24 (.tmp 3) (by kernel_rfl) (by kernel_rfl) (by kernel_rfl) hS.2.1) hK ?_
    refine take_at (i:=1) (d:=some 41) (v:=.pointer (some ⟨B,0,none⟩)) (by kernel_rfl) (by kernel_rfl) (fun _ _ _ h=>h) (fun w'' hS=>aj 24 (.tmp 3) (by kernel_rfl) (by kernel_rfl) (by kernel_rfl) hS.2.1) hK ?_
    refine take_at (i:=2) (d:=some 42) (v:=.pointer (some ⟨b5,8,none⟩)) (by kernel_rfl) (by kernel_rfl) (fun _ _ _ h=>h) (fun w'' hS=>by kernel_rfl) hK ?_
    refine take_at (i:=3) (d:=some 43) (v:=.slice (some ⟨ob,oo,none⟩) F.length fc) (by kernel_rfl) (by kernel_rfl) (fun _ _ _ h=>h) (fun w'' hS=>aj 23 (.tmp 42) (by kernel_rfl) (by kernel_rfl) (by kernel_rfl) hS.2.2) hK ?_
    refine take_at (i:=4) (d:=some 44) (v:=.int .i64 (k:Int)) (by kernel_rfl) (by kernel_rfl) (fun _ _ _ h=>h) (fun w'' hS=>by kernel_rfl) hK ?_
    refine take_at (i:=5) (d:=some 45) (v:=.pointer (some ⟨ob,oo+k*10,none⟩)) (by kernel_rfl) (by kernel_rfl) (fun _ _ _ h=>h) (fun w'' hS=>ny (i:=k) (n:=F.length) (cap:=fc) 23 54 (.tmp 43) (.tmp 44) (by kernel_rfl) (by kernel_rfl) (by kernel_rfl) hlt (by kernel_rfl) (by kernel_rfl)) hK ?_
    refine take_at (i:=6) (d:=some 46) (v:=.agg op.cells) (by kernel_rfl) (by kernel_rfl) (fun _ _ _ h=>h) (fun w'' hS=>kD 54 (.tmp 45) (by kernel_rfl) (by kernel_rfl) (by kernel_rfl) (by kernel_rfl) (X4.out w'' hS.1)) hK ?_
    refine take_at (i:=8) (d:=some 48) (v:=.pointer (some ⟨b5,8,none⟩)) (by kernel_rfl) (by kernel_rfl) (fun _ _ _ h=>h) (fun w'' hS=>by kernel_rfl) hK ?_
    refine take_at (i:=9) (d:=some 49) (v:=.slice (some ⟨ob,oo,none⟩) F.length fc) (by kernel_rfl) (by kernel_rfl) (fun _ _ _ h=>h) (fun w'' hS=>aj 23 (.tmp 48) (by kernel_rfl) (by kernel_rfl) (by kernel_rfl) hS.2.2) hK ?_
    refine take_at (i:=10) (d:=some 50) (v:=.int .i64 (k:Int)) (by kernel_rfl) (by kernel_rfl) (fun _ _ _ h=>h) (fun w'' hS=>by kernel_rfl) hK ?_
    refine take_at (i:=11) (d:=some 51) (v:=.pointer (some ⟨ob,oo+k*10,none⟩)) (by kernel_rfl) (by kernel_rfl) (fun _ _ _ h=>h) (fun w'' hS=>ny (i:=k) (n:=F.length) (cap:=fc) 23 54 (.tmp 49) (.tmp 50) (by kernel_rfl) (by kernel_rfl) (by kernel_rfl) hlt (by kernel_rfl) (by kernel_rfl)) hK ?_
    refine take_at (i:=12) (d:=some 52) (v:=.agg op.cells) (by kernel_rfl) (by kernel_rfl) (fun _ _ _ h=>h) (fun w'' hS=>kD 54 (.tmp 51) (by kernel_rfl) (by kernel_rfl) (by kernel_rfl) (by kernel_rfl) (X4.out w'' hS.1)) hK ?_
    refine enter_at (i:=7) (d:=some 47) (w':=wr.drew) (f:=18) (args:=#[.pointer (some ⟨B,0,none⟩),.agg op.cells]) (by kernel_rfl) (by kernel_rfl) (by kernel_rfl) ?_
    refine CJ.out.mono ?_
    rintro e w2 ⟨rfl,hf2⟩
    have su:Nw wr w2:=hK0.trans hf2 (fun _ x=>x.elim)
    have hE2:=HE.out.nw su;have hG2:=HG.out.nw su;refine⟨_,rfl,⟨hE2.li.env.nw,hG2.k3.cell 0,(hG2.k5.cell 8).trans (by rw[<-Hfv.out];rfl)⟩,?_⟩
    refine enter_at (i:=13) (d:=some 53) (w':=w2) (f:=35) (args:=#[.pointer (some ⟨B,0,none⟩),.pointer (some ⟨dx.D,0,none⟩),.agg op.cells]) (by kernel_rfl) (by kernel_rfl) (by kernel_rfl) ?_
    have abj:LS W w2 lo B L' dx:=Hdx.out▸hE2.li.one ix Gi.out;have VT:dx.bz=false:=Hdx.out▸hE2.li.free _ (List.getElem_mem Gi.out);refine(yP W lo B L' dx op w2 abj VT qU.out Zf.out).mono ?_
    rintro e w3 ⟨rfl,L2,d2,ad4,hst3,Yh⟩
    have abk:=hE2.li.step ix Gi.out ad4 (Hdx.out.symm▸hst3);have hG3:=hG2.step abj hst3;have hK3:Nw W w3/\w3.cell? ⟨b3,0,none⟩=some (.pointer (some ⟨B,0,none⟩))/\w3.cell? ⟨b5,8,none⟩=some (.slice (some ⟨ob,oo,none⟩) F.length fc):=⟨abk.env.nw,hG3.k3.cell 0,(hG3.k5.cell 8).trans (by rw[<-Hfv.out];rfl)⟩
    refine⟨_,rfl,hK3,?_⟩
    refine dG (i:=14) (d:=some 9) (v:=.bool true) (w':=w3) (by kernel_rfl) (by kernel_rfl) (by kernel_rfl) hK3 ?_
    refine wpAnyH_done (by kernel_rfl) ?_ _
    simp only[Act.put,bQ,bW,bU];have r1:=Yh.a;have r2:=Yh.b;have r3:=Yh.c;have r4:=Hct.out;have HE3:Hid (kX W w3 lo B ds.length L L2 (ds'.set ix d2) (4*(k+1)) (aP (F.take (k+1)))):=⟨abk,by rw[List.length_set];exact HE.out.len,by omega,by omega,by omega,by rw[hst3.four];exact HE.out.four⟩
    have HS3:Hid (∃hi:i<(ds'.set ix d2).length,(ds'.set ix d2)[i].D=D0/\(ds'.set ix d2)[i].X=X0):=by
     obtain⟨hi',s1,s2⟩:=HS.out;refine⟨by rw[List.length_set];exact hi',?_⟩
     by_cases e:ix=i
     ·subst e;rw[List.getElem_set_self,hst3.dd,hst3.EH.2.2,<-Hdx.out];exact⟨s1,s2⟩
     ·rw[List.getElem_set_ne e];exact⟨s1,s2⟩
    have Zp:=hd hG3;clear abk ad4 hst3 Yh r1 r2 r3 r4 VT abj hE2 hG2 hG3 hK hK0 hK3 hf2 su q1 q2 q3 Zf Hdx Gi CJ c0 c3 c8 ad3 VS VH HE HG HS;go_wp2_with fail
    exact⟨⟨k+1,L2,ds'.set ix d2,by omega,by simp,HE3,HS3,Zp⟩,by simp[intOf];omega⟩
   ·have hdm:(7:Int)<op.kind:=by omega
    go_wp2_with fail
    have r4:=Hct.out;exact⟨⟨k+1,L',ds',by omega,by simp,⟨HE.out.li,HE.out.len,by omega,by omega,by omega,HE.out.four⟩,HS,HG⟩,by simp[intOf];omega⟩
  ·obtain rfl:F.length=k:=by omega
   have hdk:¬((F.length:Int)<(F.length:Int)):=by omega
   have HE1:=HE.out;rw[List.take_length] at HE1;have HE2:=hd HE1;clear HE HE1;go_wp2_with fail
   clear HcF HF Hfv;refine wp_loop (fun a wq=>∃(t:Nat) (Ds:List Nat) (L2:LW) (ds2:List Sd),t<=2/\(∃xs,a.tmps=Gq xs D0 b3 b5 (.func (.func 77) #[.pointer (some ⟨X0,0,none⟩)] #[]) (t:Int))/\a.defers=Ds.map mark/\Hid (kX W wq lo B ds.length L L2 ds2 (4*F.length+2400*t) (aP F+t*aP M))/\Hid (∃hi:i<ds2.length,ds2[i].D=D0/\ds2[i].X=X0)/\Hid (yS wq B b3 b5 o)/\Hid (Ds.Nodup/\∀D∈Ds,wq.heap[D]? = some (.deferred (some []))/\lo<=D)) (fun a _=>2-(intOf (a.tmps.getD 10 undef)).toNat) ⟨0,[],L',ds',Nat.zero_le _,EL (by kernel_rfl),rfl,?start,HS,HG,hd ⟨List.nodup_nil,fun D hD=>absurd hD (List.not_mem_nil)⟩⟩ ?turn
   case start=>exact⟨HE2.out.li,HE2.out.len,by have:=HE2.out.a;omega,by have:=HE2.out.b;omega,by have:=HE2.out.r;omega,HE2.out.four⟩
   case turn=>
    clear HE2 HS HG c3 c8 ad3 VS;rintro⟨tmps,dfs⟩ wq ⟨t,Ds,L2,ds2,ht,⟨xs,hxs⟩,hdf,HE,HS,HG,V4⟩
    dsimp only at hxs hdf
    subst hxs;subst hdf;obtain⟨hi2,hD2,hX2⟩:=HS.out;obtain⟨dq,Xw⟩:∃dq,ds2[i]'hi2=dq:=⟨_,rfl⟩;rw[Xw] at hD2 hX2;simp only[Gq];by_cases ht2:t<2
    ·have hdt:(t:Int)<2:=by omega
     have hSq:eX W wq lo dq:=Xw▸HE.out.li.sides _ (List.getElem_mem hi2);have abl:dq.lt= .nilFunc\/Clo dq.lt dq.X:=Xw▸HE.out.li.EH _ (List.getElem_mem hi2);have e1:wq.cell? ⟨D0,1,none⟩=some (.pointer (some ⟨dq.Y,0,none⟩)):=by rw[<-hD2];exact hSq.blk.cell 1
     have e4:wq.cell? ⟨D0,4,none⟩=some dq.lt:=by rw[<-hD2];exact hSq.blk.cell 4
     have hDl:D0<wq.heap.size:=by rw[<-hD2];exact hSq.blk.lt
     rw[hX2] at abl;have agm:=hd abl;have Hdq:=hd Xw;have HD2:=hd hD2;have Wl:=hd hX2;have HSq:=hd hSq;clear abl Xw hD2 hX2 hSq;go_upto_region 14 with fail
     go_cut [68] from 56 to 165 (fun cv wx=>(∃b,cv= .bool b/\(b=true->dq.lt= .func (.func 77) #[.pointer (some ⟨X0,0,none⟩)] #[]))/\wx=wq)
     case first=>
      obtain rfl | rfl:t=0\/t=1:=by omega
      ·go_wp2_with fail
       go_meet
       exact⟨⟨_,rfl,fun h=>by cases h⟩,rfl⟩
      ·rcases agm.out with hl | hl
       ·rw[hl] at e4;have hnq:∀w':World,(binOp .neq 50 .nilFunc .nilFunc).run Tryz.prog w'= .ok (.bool false) w':=fun w'=>by kernel_rfl
        go_wp2_with fail
        go_meet
        exact⟨⟨_,rfl,fun h=>by cases h⟩,rfl⟩
       ·have hl':dq.lt= .func (.func 77) #[.pointer (some ⟨X0,0,none⟩)] #[]:=hl;rw[hl'] at e4;have hnq:∀w':World,(binOp .neq 50 (.func (.func 77) #[.pointer (some ⟨X0,0,none⟩)] #[]) .nilFunc).run Tryz.prog w'= .ok (.bool true) w':=fun w'=>by kernel_rfl
        go_wp2_with fail
        go_meet
        exact⟨⟨_,rfl,fun _=>hl'⟩,rfl⟩
     case rest=>
      obtain⟨⟨bt,rfl,hbt⟩,rfl⟩:=hcut;have Hbt:=hd hbt;clear hbt;go_upto_if 68 with fail
      go_cut [7] from 69 to 165 (fun sv wx=>sv= .func (.func 77) #[.pointer (some ⟨X0,0,none⟩)] #[]/\wx=wc)
      case first=>
       cases bt with
       | false=>
        go_wp2_with fail
        go_meet
        exact⟨rfl,rfl⟩
       | true=>
        rw[Hbt.out rfl] at e4;go_wp2_with fail
        go_meet
        exact⟨rfl,rfl⟩
      case rest=>
      obtain⟨rfl,rfl⟩:=hcut;obtain⟨jT,abm⟩:∃jT:Nat,(if 0<=o.a then min o.a.toNat 300 else 300)=jT:=⟨_,rfl⟩
      have VD:jT<=300:=by
       rw[<-abm];split <;> omega
      have abn:=hd abm;have c1:wc.cell? ⟨b5,1,none⟩=some (.int .i64 o.a):=HG.out.k5.cell 1
      have VS:=HG.out.k5.lt;clear abm;go_upto_region 17 with fail
      obtain⟨bm,hbm⟩:∃bm,bm=wc.heap.size:=⟨_,rfl⟩;obtain⟨wm,hwm⟩:∃wm,wm=wc.alloc (.cells #[.int .i64 300] 3):=⟨_,rfl⟩;have hfm:Nw wc wm:=by rw[hwm];exact(Fr.refl _ wc).alloc _
      have Dl:af wm bm #[.int .i64 300] 3:=by rw[hwm,hbm];exact af.new _ _ _
      have m1:wm.cell? ⟨b5,1,none⟩=some (.int .i64 o.a):=(hfm.cell VS (fun x=>x)).trans c1
      have agn:=Nat.lt_of_lt_of_le VS hfm.size;have m0:wm.cell? ⟨bm,0,none⟩=some (.int .i64 300):=Dl.cell 0
      have m0f:=Dl.free 0;have m0l:=Dl.lt;rw[<-hwm,<-hbm];have P6:=hd Dl;have Hfm:=hd hfm;have Hbm:=hd hbm;clear hwm hbm Dl hfm;go_upto_if 75 with fail
      go_cut [] from 73 to 165 (fun wx=>Hid (af wx bm #[.int .i64 (jT:Int)] 3)/\Hid (Nw wc wx))
      case first=>
       by_cases ha:0<=o.a
       ·go_wp2_with fail
        all_goals go_meet
        all_goals refine⟨hd ?_,hd (Hfm.out.setCell _ _ (.inr (by have:=Hbm.out;show wc.heap.size<=bm;omega)))⟩
        all_goals first
         | (rw[show (jT:Int)=300 from by rw[<-abn.out,if_pos ha];omega];exact P6.out.set 0 _)
         | (rw[show (jT:Int)=o.a from by rw[<-abn.out,if_pos ha];omega];exact P6.out.set 0 _)
       ·have ha':¬((0:Int)<=o.a):=ha;go_wp2_with fail
        go_meet
        refine⟨?_,Hfm⟩
        have:jT=300:=by rw[<-abn.out,if_neg (by omega)]
        rw[this];exact P6
      case rest=>
       obtain⟨Yi,Ri⟩:=hcut;rename World=>wn
       obtain⟨xE,VU⟩:∃xE,je dq.s.d dq.s.bs dq.zs.length []=xE:=⟨_,rfl⟩;have Hso:=hd (show ∀w1,Nw wn w1->Calls Tryz.prog 51 #[.pointer (some ⟨dq.Y,0,none⟩),.slice none 0 0,.int .i64 ((jT+1:Nat):Int)] w1 (fun e w'=>∃v vs,e= .returned v/\fK w1 w' v vs (xE.take (jT+1))) from fun w1 f1=>by
        have hS1:=(HSq.out.nw Ri.out).nw f1;have:=BU W lo dq.Y dq.zs dq.R dq.s.d hS1.pair.doms dq.zs.length [] (.slice none 0 0) (jT+1) w1 (by simp) ((HE.out.li.env.step Ri.out).step f1).nw hS1.pair.ref (.inl ⟨rfl,rfl⟩) (by omega)
        rw[hS1.pair.xE,VU] at this;exact this)
       have VV:=hd VU;have n1:wn.cell? ⟨D0,1,none⟩=some (.pointer (some ⟨dq.Y,0,none⟩)):=(Ri.out.cell hDl (fun x=>x)).trans e1
       have hDn:=Nat.lt_of_lt_of_le hDl Ri.out.size;have n2:wn.cell? ⟨bm,0,none⟩=some (.int .i64 (jT:Int)):=Yi.out.cell 0
       have hbn:=Yi.out.lt;clear VU m1 agn m0 m0f m0l P6 Hfm e1 e4 c1;go_upto_region 19 with fail
       go_cut [12] from 76 to 165 (fun wv wx=>∃bw v vs,wv= .pointer (some ⟨bw,0,none⟩)/\Hid (af wx bw #[v] 26)/\Hid (fK wn wx v vs (xE.take (jT+1)))/\wn.heap.size<=bw)
       case first=>
        have hK0:Nw wn wn.drew:=(Fr.refl _ wn).drew;refine eF abg 9 (fun w''=>Nw wn w'') (by kernel_rfl) (by kernel_rfl) (by kernel_rfl) ?_
        refine take_at (i:=0) (d:=some 79) (v:=.pointer (some ⟨D0,0,none⟩)) (by kernel_rfl) (by kernel_rfl) (fun _ _ _ h=>h) (fun w'' hS=>by kernel_rfl) hK0 ?_
        refine take_at (i:=1) (d:=some 80) (v:=.pointer (some ⟨D0,0,none⟩)) (by kernel_rfl) (by kernel_rfl) (fun _ _ _ h=>h) (fun w'' hS=>by kernel_rfl) hK0 ?_
        refine take_at (i:=2) (d:=some 81) (v:=.pointer (some ⟨D0,1,none⟩)) (by kernel_rfl) (by kernel_rfl) (fun _ _ _ h=>h) (fun w'' hS=>by kernel_rfl) hK0 ?_
        refine take_at (i:=3) (d:=some 82) (v:=.pointer (some ⟨dq.Y,0,none⟩)) (by kernel_rfl) (by kernel_rfl) (fun _ _ _ h=>h) (fun w'' hS=>aj 46 (.tmp 81) (by kernel_rfl) (by kernel_rfl) (by kernel_rfl) ((hS.cell hDn (fun x=>x)).trans n1)) hK0 ?_
        refine take_at (i:=4) (d:=some 83) (v:=.int .i64 (jT:Int)) (by kernel_rfl) (by kernel_rfl) (fun _ _ _ h=>h) (fun w'' hS=>aj 3 (.tmp 11) (by kernel_rfl) (by kernel_rfl) (by kernel_rfl) ((hS.cell hbn (fun x=>x)).trans n2)) hK0 ?_
        refine take_at (i:=5) (d:=some 84) (v:=.int .i64 ((jT+1:Nat):Int)) (by kernel_rfl) (by kernel_rfl) (fun _ _ _ h=>h) (fun w'' hS=>Tz (jT:Int) 1 ((jT+1:Nat):Int) (.tmp 83) (.const (.int .i64 1)) (by kernel_rfl) (by kernel_rfl) (by kernel_rfl) (by omega) (by omega)) hK0 ?_
        refine wpAnyH_all (rs:=[6,7]) (by kernel_rfl) (by simp) (fun j hj=>?_)
        have hj2:j=6\/j=7:=by simpa using hj
        rcases hj2 with rfl | rfl
        ·refine abe (d:=some 85) (w':=wn.drew) (f:=51) (args:=#[.pointer (some ⟨dq.Y,0,none⟩),.slice none 0 0,.int .i64 ((jT+1:Nat):Int)]) (by kernel_rfl) (by kernel_rfl) (by kernel_rfl) ?_
         refine(Hso.out wn.drew hK0).mono ?_
         rintro e w2 ⟨v,vs,rfl,hS2⟩
         have hf2:=hK0.trans hS2.mine.nw (fun _ x=>x.elim)
         refine⟨_,rfl,hf2,?_⟩
         have hal:Nw w2 (w2.alloc (.cells #[.slice none 0 0] 26)):=(Fr.refl _ w2).alloc _;have hba:af (w2.alloc (.cells #[.slice none 0 0] 26)) w2.heap.size #[.slice none 0 0] 26:=af.new _ _ _;have hf3:=hf2.trans hal (fun _ x=>x.elim)
         have hv1:v.oneCell'=true:=by
          obtain⟨so,sc,rfl,_⟩:=hS2.mine.row.form;rfl
         refine dG (i:=7) (d:=some 12) (v:=.pointer (some ⟨w2.heap.size,0,none⟩)) (w':=w2.alloc (.cells #[.slice none 0 0] 26)) (by kernel_rfl) (by kernel_rfl) (by kernel_rfl) hf3 ?_
         have hfs:Fr (fun k=>k=w2.heap.size) (w2.alloc (.cells #[.slice none 0 0] 26)) ((w2.alloc (.cells #[.slice none 0 0] 26)).setCell ⟨w2.heap.size,0,none⟩ v):=(Fr.refl (fun k=>k=w2.heap.size) _).setCell _ _ (.inl rfl)
         have hf4:Nw wn ((w2.alloc (.cells #[.slice none 0 0] 26)).setCell ⟨w2.heap.size,0,none⟩ v):=hf3.trans hfs (fun k hk=>.inr (by have:=hf2.size;omega))
         refine Ac (i:=8) (d:=none) (w':=(w2.alloc (.cells #[.slice none 0 0] 26)).setCell ⟨w2.heap.size,0,none⟩ v) (by kernel_rfl) (by kernel_rfl) (jC (old:=.slice none 0 0) 26 (.tmp 12) (.tmp 85) (by kernel_rfl) (by kernel_rfl) (by kernel_rfl) hv1 (by kernel_rfl) (hba.cell 0) (hba.free 0)) hf4 ?_
         refine wpAnyH_done (by kernel_rfl) ?_ _
         simp only[Act.put,bQ,bW,bU];have hS4:fK wn ((w2.alloc (.cells #[.slice none 0 0] 26)).setCell ⟨w2.heap.size,0,none⟩ v) v vs (xE.take (jT+1)):=((hS2.lower hK0).step hal).fr hfs hf4 (fun k cur e hb hk e'=>by
          subst e';rcases hk with hk | hk
          ·rw[hk] at hb;exact absurd (hb.inj hba).2 (by decide)
          ·obtain⟨cur',hb',_⟩:=(hS2.mine.row.nw hal).blk hk;exact absurd (hb'.inj hba).2 (by decide))
         have HS4:=hd hS4;have Hb4:=hd (hba.set 0 v);have hle:=hf2.size;clear hS4 hS2 hba hfs hf4 hf3 hf2 hal hv1 hK0;go_wp2_with fail
         go_meet
         exact⟨w2.heap.size,v,vs,rfl,Hb4,HS4,hle⟩
        ·have hal:Nw wn (wn.drew.alloc (.cells #[.slice none 0 0] 26)):=hK0.alloc _;have hba:af (wn.drew.alloc (.cells #[.slice none 0 0] 26)) wn.heap.size #[.slice none 0 0] 26:=af.new wn.drew _ _;refine abf (d:=some 12) (w':=wn.drew.alloc (.cells #[.slice none 0 0] 26)) (v:=.pointer (some ⟨wn.heap.size,0,none⟩)) (by kernel_rfl) (by kernel_rfl) (by kernel_rfl) ⟨hal,?_⟩
         refine enter_at (i:=6) (d:=some 85) (w':=wn.drew.alloc (.cells #[.slice none 0 0] 26)) (f:=51) (args:=#[.pointer (some ⟨dq.Y,0,none⟩),.slice none 0 0,.int .i64 ((jT+1:Nat):Int)]) (by kernel_rfl) (by kernel_rfl) (by kernel_rfl) ?_
         refine(Hso.out _ hal).mono ?_
         rintro e w2 ⟨v,vs,rfl,hS2⟩
         have hb2:=hba.nw hS2.mine.nw;have hf2:=hal.trans hS2.mine.nw (fun _ x=>x.elim)
         refine⟨_,rfl,hf2,?_⟩
         have hv1:v.oneCell'=true:=by
          obtain⟨so,sc,rfl,_⟩:=hS2.mine.row.form;rfl
         have hfs:Fr (fun k=>k=wn.heap.size) w2 (w2.setCell ⟨wn.heap.size,0,none⟩ v):=(Fr.refl (fun k=>k=wn.heap.size) _).setCell _ _ (.inl rfl)
         have hf4:Nw wn (w2.setCell ⟨wn.heap.size,0,none⟩ v):=hf2.trans hfs (fun k hk=>.inr (by omega))
         refine Ac (i:=8) (d:=none) (w':=w2.setCell ⟨wn.heap.size,0,none⟩ v) (by kernel_rfl) (by kernel_rfl) (jC (old:=.slice none 0 0) 26 (.tmp 12) (.tmp 85) (by kernel_rfl) (by kernel_rfl) (by kernel_rfl) hv1 (by kernel_rfl) (hb2.cell 0) (hb2.free 0)) hf4 ?_
         refine wpAnyH_done (by kernel_rfl) ?_ _
         simp only[Act.put,bQ,bW,bU];have hS4:fK wn (w2.setCell ⟨wn.heap.size,0,none⟩ v) v vs (xE.take (jT+1)):=(hS2.lower hal).fr hfs hf4 (fun k cur e hb hk e'=>by
          subst e';rcases hk with hk | hk
          ·rw[hk] at hb;exact absurd (hb.inj hb2).2 (by decide)
          ·obtain⟨cur',hb',_⟩:=hS2.mine.row.blk hk;exact absurd (hb'.inj hb2).2 (by decide))
         have HS4:=hd hS4;have Hb4:=hd (hb2.set 0 v);clear hS4 hS2 hba hb2 hfs hf4 hf2 hal hv1 hK0;go_wp2_with fail
         go_meet
         exact⟨wn.heap.size,v,vs,rfl,Hb4,HS4,Nat.le_refl _⟩
       case rest=>
        obtain⟨bw,v,vs,rfl,HbW,Wv,ahJ⟩:=hcut;rename World=>wv
        have hfv:=Wv.out.mine.nw;have abo:Nw wc wv:=Ri.out.trans hfv (fun _ x=>x.elim)
        have hSv:=HSq.out.nw abo;have abp:dq.bz=false:=Hdq.out▸HE.out.li.free _ (List.getElem_mem hi2);go_upto_region 22 with fail
        obtain⟨ba,hba⟩:∃ba,ba=wv.heap.size:=⟨_,rfl⟩;obtain⟨bk,hbk⟩:∃bk,bk=wv.heap.size+1:=⟨_,rfl⟩;obtain⟨wz,hwz⟩:∃wz,wz=(wv.alloc (.cells #[.int .i64 0] 3)).alloc (.cells #[.bool true] 4):=⟨_,rfl⟩;have hfz:Nw wv wz:=by rw[hwz];exact((Fr.refl _ wv).alloc _).alloc _
        have Rj:af wz ba #[.int .i64 0] 3:=by rw[hwz,hba];exact(af.new wv _ _).alloc _
        have hbK:af wz bk #[.bool true] 4:=by
         have h2:=af.new (wv.alloc (.cells #[.int .i64 0] 3)) #[.bool true] 4;rw[show (wv.alloc (.cells #[.int .i64 0] 3)).heap.size=wv.heap.size+1 from by simp] at h2
         rw[hwz,hbk];exact h2
        rw[<-hwz,<-hbk,<-hba];have hSz:=hSv.nw hfz;have z2:wz.cell? ⟨D0,2,none⟩=some (.bool false):=by rw[<-HD2.out,<-abp];exact hSz.blk.cell 2
        have z2f:wz.frozen? ⟨D0,2,none⟩=false:=by rw[<-HD2.out];exact hSz.blk.free 2
        have hDz:D0<wz.heap.size:=by rw[<-HD2.out];exact hSz.blk.lt
        have hst:=vF (w:=wz.setCell ⟨D0,2,none⟩ (.bool true)) (a:=⟨D0,3,none⟩) (old:=dq.sq) (.func 77) #[.pointer (some ⟨X0,0,none⟩)] #[] (by rw[<-HD2.out];exact(hSz.blk.set 2 (.bool true)).cell 3) (by rw[<-HD2.out];exact(hSz.blk.set 2 (.bool true)).free 3)
        have Hba:=hd hba;have P9:=hd hbk;have Oz:=hd hfz;have HbA:=hd Rj;have HbK:=hd hbK;have HSz:=hd hSz;have ad5:=hd abp;have Hfv:=hd hfv;have Yj:=hd abo;clear hwz hba hbk hfz Rj hbK hSz abp hfv abo hSv;go_wp2_with fail
        obtain⟨wy,hwy⟩:∃wy,wy=(wz.setCell ⟨D0,2,none⟩ (.bool true)).setCell ⟨D0,3,none⟩ (.func (.func 77) #[.pointer (some ⟨X0,0,none⟩)] #[]):=⟨_,rfl⟩;rw[<-hwy];obtain⟨sq,WG⟩:∃sq:Value,sq= .func (.func 77) #[.pointer (some ⟨X0,0,none⟩)] #[]:=⟨_,rfl⟩;obtain⟨hSt,ad6,hAt,hC0,WA⟩:=VP (w1:=wy) (n:=ds.length) (cn:=L2.nums.length+8*0) (ct:=L2.turned.length+aP (M.take 0)) (cr:=L2.rows.length+aP (M.take 0)) sq (HE.out.li.nw Yj.out) hi2 Hdq.out Oz.out (Nat.le_of_eq Hba.out.symm) (by have:=P9.out;omega) (by have:=Hba.out;have:=P9.out;omega) HbA.out HbK.out (by rw[hwy,HD2.out,WG]) HE.out.len ⟨by omega,by omega,by omega,HE.out.four⟩
        have hya:wv.heap.size<=wy.heap.size:=Nat.le_trans Oz.out.size WA.size;have hcv:=Yj.out.size;have hK:∀k,GoK b3 b5 bm bw v vs (xE.take (jT+1)) k->Ns wy.heap.size (OO B L2 ds2 i) (dq.going sq) ba bk k:=fun k hk=>by
         have e1:=Hba.out;have e2:=P9.out;have e3:=Hbm.out;have hmn:=Ri.out.size;have hnew:wc.heap.size<=k->k<wv.heap.size->Ns wy.heap.size (OO B L2 ds2 i) (dq.going sq) ba bk k:=fun h1 h2=>Yg sq HE.out.li hi2 Hdq.out h1 (by omega) (by omega) (by omega)
         rcases hk with hk | hk | hk | hk | hk | ⟨j,hj,hk⟩
         ·rw[hk];exact OJ sq HE.out.li hi2 Hdq.out HG.out.k3 (by decide) (by omega) (by omega) (by omega)
         ·rw[hk];exact OJ sq HE.out.li hi2 Hdq.out HG.out.k5 (by decide) (by omega) (by omega) (by omega)
         ·exact hnew (by omega) (by rw[hk];exact Nat.lt_of_lt_of_le Yi.out.lt Hfv.out.size)
         ·exact hnew (by omega) (by rw[hk];exact HbW.out.lt)
         ·exact hnew (Nat.le_trans hmn (Wv.out.mine.since k hk)) (Wv.out.mine.row.lt hk)
         ·exact hnew (Nat.le_trans hmn (Wv.out.new j hj k hk)) ((Wv.out.each j hj).lt hk)
        have hFx:JQ wy B b3 b5 bm bw o jT v vs (xE.take (jT+1)):=(JQ.nw ⟨HG.out.nw Yj.out,Yi.out.nw Hfv.out,HbW.out,Wv.out.mine.row,Wv.out.len,Wv.out.each⟩ Oz.out).fr WA (fun k hk e=>(hK k hk).dd e)
        have ad7:dq.s.l.busy=false:=by rw[HSz.out.pair.busy];exact ad5.out
        have NM:=(aF HSz.out.pair.at_.mem.lJ).2;have hG0:GI W wy lo B i ds.length (dq.going sq) (OO B L2 ds2 i) ba bk (L2.nums.length+8*min ([]:List (List Nat)).length jT) (L2.turned.length+aP (M.take (min ([]:List (List Nat)).length jT))) (L2.rows.length+aP (M.take (min ([]:List (List Nat)).length jT))) (min ([]:List (List Nat)).length jT) (fun k=>OO B L2 ds2 i k\/k=dq.D\/k=ba\/k=bk) wy:=by rw[show min ([]:List (List Nat)).length jT=0 from Nat.zero_min _];exact⟨_,_,_,ad6⟩
        have Hya:=hd (And.intro hya hcv);have Ud:=hd hSt;have HAt:=hd hAt;have HC0:=hd hC0;have Hfy:=hd WA;have HK:=hd hK;have HFx:=hd hFx;have Hz8:=hd NM;have Hsq:=hd WG;clear hya hcv hK hFx NM hSt ad6 hAt hC0 WA WG hst z2 z2f hDz hwy n1 hDn n2 hbn;refine VQ (n:=9) (X:=dq.X) (m:=jT) (zs:=dq.zs) (s:=dq.s) (id:=4) 15 ?hgv HAt.out ad7 (fun l v W' K hK'=>?asg) (fun done C A=>GI W wy lo B i ds.length (dq.going sq) (OO B L2 ds2 i) ba bk (L2.nums.length+8*min done.length jT) (L2.turned.length+aP (M.take (min done.length jT))) (L2.rows.length+aP (M.take (min done.length jT))) (min done.length jT) C A) (fun R=>GI.inv Ud.out (fun done=>L2.nums.length+8*min done.length jT) (fun done=>L2.turned.length+aP (M.take (min done.length jT))) (fun done=>L2.rows.length+aP (M.take (min done.length jT))) (fun done=>min done.length jT) R) _ HC0.out hG0 ?round ?leave ?fin
        case hgv=>
         rw[Wl.out];rfl
        case asg=>
         simp only[bQ,bW,bU] at hK' ⊢;gi_wp2
         exact hK'
        case round=>
         rintro lp done C x b cap Wr hpre hdm ⟨Lr,Zg,ltr,xN⟩ hAr hbN hbC hrow
         simp only[bQ,bW,bU];rw[VV.out] at hpre;obtain⟨hdl,IW,hxm⟩:=JM (d:=[]) hpre;have hFr:=HFx.out.fr xN.fr (fun k hk=>(HK.out k hk).out)
         rw[Nat.min_eq_left hdm] at xN;have cA:Wr.cell? ⟨ba,0,none⟩=some (.int .i64 (done.length:Int)):=xN.at_.cell 0
         have cAf:=xN.at_.free 0;have cAl:=xN.at_.lt;have cK:Wr.cell? ⟨bk,0,none⟩=some (.bool true):=xN.ok.cell 0
         have cKf:=xN.ok.free 0;have cKl:=xN.ok.lt;have cM:Wr.cell? ⟨bm,0,none⟩=some (.int .i64 (jT:Int)):=hFr.m.cell 0
         have cMl:=hFr.m.lt;have hj:done.length<(xE.take (jT+1)).length:=by rw[List.length_take];omega
         have hjv:done.length<vs.length:=by rw[hFr.len];exact hj
         obtain⟨g2,c2,hv,hown2,hcj,_⟩:=hFr.row.cell done.length hjv;have cW:Wr.cell? ⟨bw,0,none⟩=some (.slice (some ⟨g2,0,none⟩) vs.length c2):=by rw[<-hv];exact hFr.wb.cell 0
         have cWl:=hFr.wb.lt;have OL:=hd xN;have HFr:=hd hFr;have HAr:=hd hAr;by_cases he:done.length=jT
         ·have hge:(jT:Int)<=(done.length:Int):=by omega
          have ab1:(done.length:Int)<(vs.length:Int):=by omega
          clear xN hFr hAr hrow hcj hown2 IW hxm;gi_wp2_with fail
          have hdec:decide (jT<vs.length)=true:=by rw[decide_eq_true_eq];omega
          have hmn:min (done++[x]).length jT=done.length:=by rw[List.length_append,List.length_singleton];omega
          have hne:=Ud.out.blo;rw[hdec,hmn];have hfb:Fr (fun k=>k=ba\/k=bk) Wr (Wr.setCell ⟨bk,0,none⟩ (.bool true)):=(Fr.refl _ Wr).setCell _ _ (.inl (.inr rfl))
          have Yk:Fr (fun k=>k=bk) Wr (Wr.setCell ⟨bk,0,none⟩ (.bool true)):=(Fr.refl _ Wr).setCell _ _ (.inl rfl)
          have hmd:=(Mid.start (b:=b) OL.out Ud.out HAr.out hbN (Fr.refl _ Wr)).box hfb (OL.out.at_.fr Yk hne.2.2.2.2) (OL.out.ok.set 0 (.bool true));obtain⟨C',h1,h2,h3⟩:=hmd.end OL.out hbN OL.out.cost;exact⟨rfl,C',h1,h2,h3,by rw[List.length_append,List.length_singleton];omega⟩
         ·have hlm:done.length<jT:=by omega
          have hge:¬((jT:Int)<=(done.length:Int)):=by omega
          have ab1:(done.length:Int)<(vs.length:Int):=by omega
          obtain⟨u,hu⟩:∃u,vs[done.length]=u:=⟨_,rfl⟩;rw[hu] at hcj;have hxs:(xE.take (jT+1)).getD done.length []=x:=by
           rw[<-IW];simp[List.getD,List.getElem?_take_of_lt (show done.length<jT+1 by omega)]
          have hru:Row Wr u 3 (ints x):=by
           have:=hFr.each done.length hj
           rw[hxs,aN _ _ _ hjv,hu] at this;exact this
          obtain⟨uo,uc,hue,_⟩:=hru.form;have hil:(ints x).length=x.length:=by simp[ints]
          obtain⟨zl,hzl⟩:∃zl:List Int,zl=x.map (fun (n:Nat)=>(n:Int)):=⟨_,rfl⟩
          have hzn:zl.length=x.length:=by rw[hzl,List.length_map]
          rw[hil] at hue;subst hue;have hI1:ax Wr (some ⟨b,0,none⟩) zl:=by
           have h:=hrow;rw[xq,<-hzl,<-hzn] at h;exact h.oC
          have hI2:ax Wr uo zl:=by
           have h:=hru;rw[xq,<-hzl,<-hzn] at h;exact h.oC
          have hx8:x.length<=8:=by
           have h1:=EK dq.s.d dq.s.bs dq.zs.length [] x (by rw[VV.out];exact hxm)
           have h2:=Hz8.out;rw[List.length_nil] at h1;omega
          have VW:=hd (qW (some ⟨b,0,none⟩) uo cap uc zl Wr (by omega) hI1 hI2)
          rw[hzn] at VW;have adO:g2<Wr.heap.size:=hFr.row.lt hown2;obtain⟨ahK,hgb,_⟩:=hrow.blk (k:=b) rfl;have Xz:=hd hrow;have Hgb:=hd hgb;have Wu:=hd hil;have Hhv:=hd hv;have cB:=xN.cost;clear xN hFr hAr hrow hown2 IW hxm hI1 hI2 hgb hzl hzn hxs hru hu hv hil hpre;gi_wp2_with fail
          refine⟨trivial,?_⟩
          refine(CallsIn.inRound lp (callsIn_wide.2 VW.out)).mono ?_
          rintro e wk ⟨rfl,nn,hnn⟩
          have Ws:Nw Wr wk:=by rw[hnn];exact(Fr.refl _ Wr).drewN nn
          have hFk:=HFr.out.nw Ws;have k3:wk.cell? ⟨b3,0,none⟩=some (.pointer (some ⟨B,0,none⟩)):=hFk.bx.k3.cell 0
          have k3l:=hFk.bx.k3.lt;clear hnn VW cA cAf cAl cK cKf cKl cM cMl cW cWl hcj adO hFk;gi_wp2_with fail
          refine⟨trivial,?_⟩
          have hmid:=Mid.start (b:=b) OL.out Ud.out HAr.out hbN Ws;have hlow:=Ud.out.blo;have u1:=HE.out.a;have u2:=HE.out.b;have u3:=HE.out.r;have u4:=HR.out;have u5:=Hgc.out;have u6:=vJ M done.length;have u7:=sG F;have u8:1<=jS o:=by unfold jS;omega
          have u9:t*aP M<=aP M:=by
           have:t*aP M<=1*aP M:=Nat.mul_le_mul_right _ (by omega)
           omega
          unfold jF at u5;have hkp:=keep_any lo B Lr b x.length cap (ints x) wk hmid.lj.law Wu.out (Xz.out.nw Ws) (by omega) (by omega) cB.2.2.2 (fun ho=>hbC ((OL.out.c b).2 (.inl (.inl ho)))) (by omega) hmid.lj.env.le
          refine(CallsIn.inRound lp (callsIn_wide.2 hkp)).mono ?_
          rintro e wp ⟨rfl,nv,news,hn4,hL4,hf4,abq⟩
          obtain⟨Lk,hLk⟩:∃Lk,Lk=({Lr with nv:=nv,nums:=Lr.nums++news}:LW):=⟨_,rfl⟩
          rw[<-hLk] at hL4 abq;have hm2:Mid W Wr wp lo B i Lr Lk Zg Zg (dq.going sq) ltr b ba bk done.length:=Mid.keep OL.out Ud.out hmid hbN hbC (Hgb.out.nw Ws) hL4 hf4 abq (by rw[hLk])
          have Zh:=hd (show Lk.nums.length=Lr.nums.length+4/\Lk.turned=Lr.turned/\Lk.rows=Lr.rows from by rw[hLk];exact⟨by show (Lr.nums++news).length=_;rw[List.length_append,hn4],rfl,rfl⟩)
          have p1:wp.cell? ⟨bk,0,none⟩=some (.bool true):=hm2.ok.cell 0
          have p1f:=hm2.ok.free 0;have p1l:=hm2.ok.lt;have Hm2:=hd hm2;clear hkp hmid hL4 hf4 abq hLk hm2 k3 k3l hn4;gi_upto_region 31 with fail
          obtain⟨DI,VX⟩:∃DI,DI=wp.setCell ⟨bk,0,none⟩ (.bool true):=⟨_,rfl⟩;rw[<-VX];have hfb:Fr (fun k=>k=ba\/k=bk) wp DI:=by rw[VX];exact(Fr.refl _ wp).setCell _ _ (.inl (.inr rfl))
          have Yk:Fr (fun k=>k=bk) wp DI:=by rw[VX];exact(Fr.refl _ wp).setCell _ _ (.inl rfl)
          have VD:=Hm2.out.box (a':=done.length) hfb (Hm2.out.at_.fr Yk hlow.2.2.2.2) (by rw[VX];exact Hm2.out.ok.set 0 (.bool true))
          have hF3:=HFr.out.fr VD.fr (fun k hk=>VD.out OL.out hbN (HK.out k hk))
          have p2:DI.cell? ⟨ba,0,none⟩=some (.int .i64 (done.length:Int)):=VD.at_.cell 0
          have p2f:=VD.at_.free 0;have p2l:=VD.at_.lt;have p3:DI.cell? ⟨bk,0,none⟩=some (.bool true):=VD.ok.cell 0
          have p3l:=VD.ok.lt;have p5:DI.cell? ⟨b5,9,none⟩=some (.slice mo M.length mc):=(hF3.bx.k5.cell 9).trans (by rw[<-C9.out];rfl)
          have p5l:=hF3.bx.k5.lt;have p6:DI.cell? ⟨b3,0,none⟩=some (.pointer (some ⟨B,0,none⟩)):=hF3.bx.k3.cell 0
          have p6l:=hF3.bx.k3.lt;have hmn:min (done.length+1) jT=done.length+1:=by omega
          have hll:done.length+1<=jT:=hlm;have hlt3:(done.length:Int)+1<9223372036854775808:=by omega
          have Hm3:=hd VD;have HF3:=hd hF3;have Hmn:=hd hmn;have Hll:=hd hll;have WR:=hd hlow.2.2.2.2;clear VX hfb Yk Hm2 VD hF3 p1 p1f p1l hmn hll;by_cases hmm:done.length<M.length
          ·have hdM:(done.length:Int)<(M.length:Int):=by omega
           obtain⟨ob,oo,hoe,JG,hoc,hok⟩:=HM.out done.length hmm;have hct:=xI M done.length hmm;obtain⟨op,hop⟩:∃op,M.getD done.length WE=op:=⟨_,rfl⟩;rw[hop] at hoc hok hct;have hW2:=Hm3.out.lj.env.nw;have hcell:∀c v,c<10->op.cells[c]? = some v->DI.cell? ⟨ob,oo+done.length*10+c,none⟩=some v:=fun c v hc he=>((hW2.cell JG (fun x=>x)).trans (hoc c hc)).trans he
           obtain⟨⟨za,zn,zc,hzf⟩,⟨xa,xn,xc,hzm⟩⟩:=HMs.out op (by rw[<-hop,aN _ _ _ hmm];exact List.getElem_mem hmm)
           have y0:=hcell 0 (.int .i64 op.kind) (by decide) rfl
           have y1:=hcell 1 (.int .i64 op.a) (by decide) rfl
           have y2:=hcell 2 (.int .i64 op.b) (by decide) rfl
           have y3:=hcell 3 (.slice op.vo op.vars.length op.ak) (by decide) rfl
           have y4:=hcell 4 (.slice op.ro op.rows.length op.au) (by decide) rfl
           have y5:=hcell 5 (.bool op.nt) (by decide) rfl
           have y6:=hcell 6 (.int .i64 op.way) (by decide) rfl
           have y7:=hcell 7 (.bool op.which) (by decide) rfl
           have y8:=hcell 8 (.slice za zn zc) (by decide) (by rw[<-hzf];rfl)
           have y9:=hcell 9 (.slice xa xn xc) (by decide) (by rw[<-hzm];rfl)
           rw[Nat.add_zero] at y0;have VH:ob<DI.heap.size:=Nat.lt_of_lt_of_le JG hW2.size;have qU:=hd hok;have Hct:=hd hct;subst hoe;have Hzf:=hd hzf;have Hzm:=hd hzm;clear hoc hop hok hct hcell hW2 hzf hzm;gi_upto_region 33 with fail
           obtain⟨bo,hbo⟩:∃bo,bo=DI.heap.size:=⟨_,rfl⟩;have ad8:#[Value.int .i64 op.kind,.int .i64 op.a,.int .i64 op.b,.slice op.vo op.vars.length op.ak,.slice op.ro op.rows.length op.au,.bool op.nt,.int .i64 op.way,.bool op.which,.slice za zn zc,.slice xa xn xc]=op.cells:=by rw[<-Hzf.out,<-Hzm.out];rfl
           obtain⟨wx,hwx⟩:∃wx,wx=DI.alloc (.cells op.cells 54):=⟨_,rfl⟩;rw[ad8,<-hwx,<-hbo];have hfx:Nw DI wx:=by rw[hwx];exact(Fr.refl _ DI).alloc _
           have hbO:af wx bo op.cells 54:=by rw[hwx,hbo];exact af.new _ _ _
           have hmx:=Hm3.out.nw hfx;have abr:=HF3.out.nw hfx;have hlen:Zg.length=ds.length:=OL.out.len;have sH:Lk.ss.length=Zg.length:=by rw[hmx.lj.ss,List.length_map]
           have hi0:=hi;obtain⟨ix,hix⟩:∃ix,(if op.which then Lk.ss.length-1 else 0)=ix:=⟨_,rfl⟩
           have xJ:ix<Zg.length:=by
            rw[<-hix,sH];split <;> omega
           have JH:Lk.ss.getD ix undef= .pointer (some ⟨(Zg[ix]'xJ).D,0,none⟩):=by
            rw[hmx.lj.ss];simp[List.getD,xJ]
           have CJ:=hd (yQ lo B Lk op wx.drew (hmx.lj.law.nw ((Fr.refl _ wx).drew)) (by omega) (by omega))
           rw[hix,JH] at CJ;have l1:=Zh.out.1;have hroom:zF Lk:=⟨by omega,by rw[Zh.out.2.1];omega,by rw[Zh.out.2.2];omega,by omega⟩
           have hK0:Nw wx wx.drew:=(Fr.refl _ wx).drew;refine MG abh 7 (fun w''=>w''.cell? ⟨b3,0,none⟩=some (.pointer (some ⟨B,0,none⟩))/\af w'' bo op.cells 54) (by kernel_rfl) (by kernel_rfl) (by kernel_rfl) (fun _ _ h=>h) ?_
           have hK:wx.drew.cell? ⟨b3,0,none⟩=some (.pointer (some ⟨B,0,none⟩))/\af wx.drew bo op.cells 54:=⟨(abr.nw hK0).bx.k3.cell 0,hbO.nw hK0⟩
           refine take_at (i:=0) (d:=some 137) (v:=.pointer (some ⟨B,0,none⟩)) (by kernel_rfl) (by kernel_rfl) (fun _ _ _ h=>h) (fun w'' hS=>aj 24 (.tmp 3) (by kernel_rfl) (by kernel_rfl) (by kernel_rfl) hS.1) hK ?_
           refine take_at (i:=1) (d:=some 138) (v:=.pointer (some ⟨B,0,none⟩)) (by kernel_rfl) (by kernel_rfl) (fun _ _ _ h=>h) (fun w'' hS=>aj 24 (.tmp 3) (by kernel_rfl) (by kernel_rfl) (by kernel_rfl) hS.1) hK ?_
           refine take_at (i:=2) (d:=some 139) (v:=.agg op.cells) (by kernel_rfl) (by kernel_rfl) (fun _ _ _ h=>h) (fun w'' hS=>kD 54 (.tmp 17) (by kernel_rfl) (by kernel_rfl) (by kernel_rfl) (by kernel_rfl) (fun c hc=>by rw[Nat.zero_add];exact hS.2.cell c)) hK ?_
           refine take_at (i:=4) (d:=some 141) (v:=.agg op.cells) (by kernel_rfl) (by kernel_rfl) (fun _ _ _ h=>h) (fun w'' hS=>kD 54 (.tmp 17) (by kernel_rfl) (by kernel_rfl) (by kernel_rfl) (by kernel_rfl) (fun c hc=>by rw[Nat.zero_add];exact hS.2.cell c)) hK ?_
           refine enter_at (i:=3) (d:=some 140) (w':=wx.drew) (f:=18) (args:=#[.pointer (some ⟨B,0,none⟩),.agg op.cells]) (by kernel_rfl) (by kernel_rfl) (by kernel_rfl) ?_
           refine CJ.out.mono ?_
           rintro e w2 ⟨rfl,hf2⟩
           have su:Nw wx w2:=hK0.trans hf2 (fun _ x=>x.elim)
           have hm2:=hmx.nw su;have hb2:=hbO.nw su;refine⟨_,rfl,⟨(abr.nw su).bx.k3.cell 0,hb2⟩,?_⟩
           refine enter_at (i:=5) (d:=some 142) (w':=w2) (f:=35) (args:=#[.pointer (some ⟨B,0,none⟩),.pointer (some ⟨(Zg[ix]'xJ).D,0,none⟩),.agg op.cells]) (by kernel_rfl) (by kernel_rfl) (by kernel_rfl) ?_
           obtain⟨hi3,VY⟩:=hm2.get;refine(VO W lo B i Lk Zg {dq.going sq with lt:=ltr} op w2 hm2.lj hi3 VY rfl (show sq=_ from by rw[Hsq.out,<-Wl.out];rfl) hm2.free ix xJ qU.out hroom).mono ?_
           rintro e w3 ⟨rfl,Lp,dsp,ltp,hpl⟩
           have Yl:=hm2.plain hpl;have hgs:=Hm3.out.lj.out hi3 VY;have hDb:(dq.going sq).D<DI.heap.size:=hgs.blk.lt;have hb3:=hb2.fr hpl.fr (fun ho=>by
            rcases ho with ho | ho
            ·have:=(hgs.lt ho).1
             omega
            ·have ho':bo=(dq.going sq).D:=ho;omega)
           have hF5:=HFr.out.fr Yl.fr (fun k hk=>Yl.out OL.out hbN (HK.out k hk))
           refine⟨_,rfl,⟨hF5.bx.k3.cell 0,hb3⟩,?_⟩
           have hfk:Fr (fun k=>k=ba\/k=bk) w3 (w3.setCell ⟨bk,0,none⟩ (.bool true)):=(Fr.refl _ w3).setCell _ _ (.inl (.inr rfl))
           have abt:Fr (fun k=>k=bk) w3 (w3.setCell ⟨bk,0,none⟩ (.bool true)):=(Fr.refl _ w3).setCell _ _ (.inl rfl)
           have JS:=Yl.box (a':=done.length) hfk (Yl.at_.fr abt WR.out) (Yl.ok.set 0 (.bool true));have hF6:=HFr.out.fr JS.fr (fun k hk=>JS.out OL.out hbN (HK.out k hk))
           have ad9:bo≠bk:=fun e=>by
            rw[e] at hb3;exact absurd (hb3.inj Yl.ok).2 (by decide)
           refine Ac (i:=6) (d:=none) (w':=w3.setCell ⟨bk,0,none⟩ (.bool true)) (by kernel_rfl) (by kernel_rfl) (jC (old:=.bool true) 4 (.tmp 14) (.tmp 142) (by kernel_rfl) (by kernel_rfl) (by kernel_rfl) rfl (by kernel_rfl) (Yl.ok.cell 0) (Yl.ok.free 0)) ⟨hF6.bx.k3.cell 0,hb3.fr abt ad9⟩ ?_
           refine wpAnyH_done (by kernel_rfl) ?_ _
           simp only[Act.put,bQ,bW,bU];obtain⟨w4,hw4⟩:∃w4,w4=w3.setCell ⟨bk,0,none⟩ (.bool true):=⟨_,rfl⟩;rw[<-hw4] at JS ⊢;have Hm6:=hd JS;have r1:w4.cell? ⟨ba,0,none⟩=some (.int .i64 (done.length:Int)):=JS.at_.cell 0
           have r1f:=JS.at_.free 0;have r1l:=JS.at_.lt;have r2:w4.cell? ⟨bk,0,none⟩=some (.bool true):=JS.ok.cell 0
           have r2l:=JS.ok.lt;have Hco:=hd hpl.cost;have Hfo:=hd hpl.four;clear hw4 JS hF6 hfk abt hb3 Yl hF5 hgs hDb hpl VY hm2 hb2 su hf2 hK hK0 hroom CJ JH hix sH abr hmx hbO hfx hwx ad8 hbo y0 y1 y2 y3 y4 y5 y6 y7 y8 y9 p2 p2f p2l p3 p3l p5 p5l p6 p6l ad9 VH;gi_wp2_with fail
           rw[show (done++[x]).length=done.length+1 from by simp,Hmn.out]
           have hfa:Fr (fun k=>k=ba\/k=bk) w4 (w4.setCell ⟨ba,0,none⟩ (.int .i64 ((done.length:Int)+1))):=(Fr.refl _ w4).setCell _ _ (.inl (.inl rfl))
           have abu:Fr (fun k=>k=ba) w4 (w4.setCell ⟨ba,0,none⟩ (.int .i64 ((done.length:Int)+1))):=(Fr.refl _ w4).setCell _ _ (.inl rfl)
           have hm7:=Hm6.out.box (a':=done.length+1) hfa (Hm6.out.at_.set 0 (.int .i64 ((done.length:Int)+1))) (Hm6.out.ok.fr abu (fun e=>WR.out e.symm))
           have v1:=Hco.out.a;have v2:=Hco.out.b;have v3:=Hco.out.c;have v4:=Hfo.out;have v5:=Hct.out;rw[Zh.out.2.1] at v2;rw[Zh.out.2.2] at v3;obtain⟨C',h1,h2,h3⟩:=hm7.end (Yd:=L2.nums.length+8*(done.length+1)) (Ye:=L2.turned.length+aP (M.take (done.length+1))) (Yf:=L2.rows.length+aP (M.take (done.length+1))) OL.out hbN ⟨by omega,by omega,by omega,by omega⟩
           exact⟨C',h1,h2,h3,Hll.out⟩
          ·have hdM:¬((done.length:Int)<(M.length:Int)):=by omega
           gi_wp2_with fail
           rw[Hmn.out];have hfa:Fr (fun k=>k=ba\/k=bk) DI (DI.setCell ⟨ba,0,none⟩ (.int .i64 ((done.length:Int)+1))):=(Fr.refl _ DI).setCell _ _ (.inl (.inl rfl))
           have abu:Fr (fun k=>k=ba) DI (DI.setCell ⟨ba,0,none⟩ (.int .i64 ((done.length:Int)+1))):=(Fr.refl _ DI).setCell _ _ (.inl rfl)
           have hm4:=Hm3.out.box (a':=done.length+1) hfa (Hm3.out.at_.set 0 (.int .i64 ((done.length:Int)+1))) (Hm3.out.ok.fr abu (fun e=>WR.out e.symm))
           have htk:M.take (done.length+1)=M.take done.length:=by rw[List.take_of_length_le (by omega),List.take_of_length_le (by omega)]
           have l1:=Zh.out.1;obtain⟨C',h1,h2,h3⟩:=hm4.end (Yd:=L2.nums.length+8*(done.length+1)) (Ye:=L2.turned.length+aP (M.take (done.length+1))) (Yf:=L2.rows.length+aP (M.take (done.length+1))) OL.out hbN ⟨by omega,by rw[Zh.out.2.1,htk];exact cB.2.1,by rw[Zh.out.2.2,htk];exact cB.2.2.1,by rw[l1];have:=cB.2.2.2;omega⟩
           exact⟨C',h1,h2,h3,Hll.out⟩
        case leave=>
         intro a W' h;refine wpIn_exit ?_
         exact h
        case fin=>
         rintro D C' done Wd hD hpre hor ⟨Ld,dsd,ltd,xN⟩ hAd hKD
         rw[VV.out] at hpre hor;have hFd:=HFx.out.fr xN.fr (fun k hk=>(HK.out k hk).out)
         have hpl:=hpre.length_le;have hvl:vs.length=min (jT+1) xE.length:=by rw[hFd.len,List.length_take]
         have hat:min vs.length jT=min done.length jT:=by
          rcases hor with ⟨h1,h2⟩ | h1
          ·rw[<-h1] at hvl;omega
          ·omega
         obtain⟨at',hat'⟩:∃at',min done.length jT=at':=⟨_,rfl⟩;rw[hat'] at xN hat;have Zd:=abd xN Ud.out hAd ad5.out ad7;rw[show (⟨dq.D,2,none⟩:Addr)=⟨D0,2,none⟩ from by rw[HD2.out]] at Zd
         have hfe:Fr (fun k=>k=dq.D) Wd (Wd.setCell ⟨D0,2,none⟩ (.bool false)):=(Fr.refl (fun k=>k=dq.D) Wd).setCell _ _ (.inl HD2.out.symm)
         have e2:Wd.cell? ⟨D0,2,none⟩=some (.bool true):=by rw[<-HD2.out];exact xN.gs.blk.cell 2
         have e2f:Wd.frozen? ⟨D0,2,none⟩=false:=by rw[<-HD2.out];exact xN.gs.blk.free 2
         have e2l:D0<Wd.heap.size:=by rw[<-HD2.out];exact xN.gs.blk.lt
         have hDq:=Ud.out.off _ (.inl rfl);have agp:dq.D<ba/\dq.D<bk:=hDq.2;have WH:=hFd.fr hfe (fun k hk e=>(HK.out k hk).dd e)
         have WQ:=xN.at_.fr hfe (by omega)
         have hK5:=xN.ok.fr hfe (by omega)
         obtain⟨we,hwe⟩:∃we,we=Wd.setCell ⟨D0,2,none⟩ (.bool false):=⟨_,rfl⟩;rw[<-hwe] at Zd hfe WH WQ hK5;have q0:we.cell? ⟨b3,0,none⟩=some (.pointer (some ⟨B,0,none⟩)):=WH.bx.k3.cell 0
         have q0l:=WH.bx.k3.lt;have q1:we.cell? ⟨ba,0,none⟩=some (.int .i64 (at':Int)):=WQ.cell 0
         have q1l:=WQ.lt;have q2:we.cell? ⟨bk,0,none⟩=some (.bool true):=hK5.cell 0
         have q2l:=hK5.lt;have q3:we.cell? ⟨bm,0,none⟩=some (.int .i64 (jT:Int)):=WH.m.cell 0
         have q3l:=WH.m.lt;obtain⟨so',sc',hv',_⟩:=WH.row.form;have q4:we.cell? ⟨bw,0,none⟩=some (.slice so' vs.length sc'):=by rw[<-hv'];exact WH.wb.cell 0
         have q4l:=WH.wb.lt;have Zi:Fr (fun k=>OO B L2 ds2 i k\/k=dq.D\/k=ba\/k=bk\/k=dq.X) wc we:=((((Yj.out.mono (fun _ x=>x.elim)).trans Oz.out (fun _ x=>x.elim)).trans Hfy.out (fun k hk=>.inl (.inr (.inl hk)))).trans xN.fr (fun k hk=>.inl hk)).trans hfe (fun k hk=>.inl (.inr (.inl hk)))
         have aea:D<Wd.heap.size:=(Array.getElem?_eq_some_iff.1 hKD).1
         have hy:=Hya.out;have hdc:=HSq.out.blk.lt;have agq:=Hba.out;have hbk':=P9.out;have aeb:(D::Ds).Nodup/\∀D'∈D::Ds,we.heap[D']? = some (.deferred (some []))/\lo<=D':=by
          refine⟨List.nodup_cons.2 ⟨fun hm=>?_,V4.out.1⟩,fun D' hm=>?_⟩
          ·have:=(Array.getElem?_eq_some_iff.1 (V4.out.2 D hm).1).1
           omega
          ·rcases List.mem_cons.1 hm with rfl | hm
           ·refine⟨?_,by have:=Ud.out.blo;omega⟩
            rw[hfe.block _ aea (by omega)]
            exact hKD
           ·exact⟨VR HE.out.li hi2 Hdq.out Zi (by omega) (by omega) (V4.out.2 D' hm).1,(V4.out.2 D' hm).2⟩
         have hS5:∃hi:i<(dsd.set i {dq with sq:=sq,lt:=ltd}).length,(dsd.set i {dq with sq:=sq,lt:=ltd})[i].D=D0/\(dsd.set i {dq with sq:=sq,lt:=ltd})[i].X=X0:=by
          obtain⟨hi3,_⟩:=xN.gs.get;refine⟨by rw[List.length_set];exact hi3,?_⟩
          rw[List.getElem_set_self];exact⟨HD2.out,Wl.out⟩
         have hE5:kX W we lo B ds.length L Ld (dsd.set i {dq with sq:=sq,lt:=ltd}) (4*F.length+2400*(t+1)) (aP F+(t+1)*aP M):=by
          have r1:=xN.cost.1;have r2:=xN.cost.2.1;have r3:=xN.cost.2.2.1;have r4:=vJ M at';have r5:=HE.out.a;have r6:=HE.out.b;have r7:=HE.out.r;have r8:(t+1)*aP M=t*aP M+aP M:=Nat.succ_mul _ _;exact⟨Zd,by rw[List.length_set];exact xN.len,by omega,by omega,by omega,xN.cost.2.2.2⟩
         have HE5:=hd hE5;have HS5:=hd hS5;have agr:=hd aeb;have HG5:=hd WH.bx;have HL5:=hd Zd;have hav:((vs.length:Int)<=(jT:Int)/\vs.length=at')\/(¬((vs.length:Int)<=(jT:Int))/\jT=at'):=by omega
         clear hE5 hS5 aeb Zd WH hFd WQ hK5 Zi hfe xN hAd hor hpre hat' hpl hvl hat hv' hDq agp hKD aea hy hdc agq hbk';go_upto_region 37 with fail
         rw[<-hwe];clear hwe e2 e2f e2l;go_upto_region 38 with (go_at_call 19;refine(sF B _ _ _ _ _ _ _ _ HL5.out.law.blk HL5.out.law.keeps).mono ?_;rintro e w4 ⟨rfl,rfl⟩)
         have ht1:(t:Int)+1<9223372036854775808:=by omega
         rcases hav with ⟨hle,rfl⟩ | ⟨hle,rfl⟩
         all_goals go_wp2_with fail
         all_goals exact⟨⟨t+1,D::Ds,Ld,_,by omega,EL (by kernel_rfl),rfl,HE5,HS5,HG5,agr⟩,by show 2-(intOf (Value.int .i64 ((t:Int)+1))).toNat<2-(intOf (Value.int .i64 (t:Int))).toNat;simp only[intOf];omega⟩
    ·obtain rfl:t=2:=by omega
     go_wp2_with fail
     have q1:=HE.out.a;have q2:=HE.out.b;have q3:=HE.out.r;have ahL:1<=jS o:=by unfold jS;omega
     refine⟨⟨Ds,rfl,V4.out.1,fun D hD=>(V4.out.2 D hD).1,fun W' hW'=>⟨.bool true,by kernel_rfl,?_⟩⟩⟩
     rw[HRR.out];have hnb:∀D cur e,D∈Ds->¬af wq D cur e:=fun D cur e hD hb=>by
      have hb':wq.heap[D]? = some (.cells cur e (0,0)):=hb
      rw[(V4.out.2 D hD).1] at hb';cases hb'
     refine⟨rfl,L2,ds2,⟨HE.out.li.toLJ.fr hW' (fun D hD=>⟨(V4.out.2 D hD).2,fun ho=>?_,fun e he ho=>?_⟩) (fun D cur hD=>hnb D cur _ hD),HE.out.li.free⟩,HE.out.len,by omega,by omega,by omega,HE.out.four⟩
     ·obtain⟨cur,e,hb,_⟩:=HE.out.li.law.ty ho;exact hnb D cur e hD hb
     ·obtain⟨cur,e',hb,_⟩:=(HE.out.li.sides e he).ty ho;exact hnb D cur e' hD hb
theorem VZ:Af:=Rh
end Go.Proofs.YtkjfpdfkcfgfkaaGreat
