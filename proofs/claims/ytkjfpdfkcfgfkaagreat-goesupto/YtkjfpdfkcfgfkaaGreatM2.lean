/- Parts of the proof, number 2: contracts of the functions that the statement calls. -/
import Derived.Test.YtkjfpdfkcfgfkaaGreatM1
import Derived.Sort.CutIn
import Derived.Deep.MidRow
set_option maxHeartbeats 6400000
namespace Go.Proofs.YtkjfpdfkcfgfkaaGreat
open Go.RowKit Go.Maps Go.Shelf
attribute [local go_sem] Oper.semAt_some
set_option maxRecDepth 1000000 in
theorem O9 (b M Dm:Nat) (vo:Option Addr) (ak:Nat) (mW:Value) (way:Int) (vars:List Int) (dn:List Nat) (m i:Nat)
  (h8:dn.length=8) (h4:vars.length<=4) (hv:∀i,i<vars.length->0<=vars.getD i 0/\vars.getD i 0<8) (aX:∀q,dn.getD q 0<64)
  (hi:i<vars.length) (ih:EX b M Dm vo ak mW true way vars dn m (i+1)) (rows:List (List Int)) (ns:List (List Nat)) (nv:Value) (ro:Option Addr) (au:Nat) (w:World)
  (hrl:rows.length<=60) (hrow:∀j,j<rows.length->(rows.getD j []).length=vars.length) (hne:rows=[]) (hcnt:ns.length+cnt (m+1)<100000) (hB:sS w b M nv ns) (hvs:IntsIn w (fun k=>¬FP b M nv k) vo vars) (hrs:RowsIn w (fun k=>¬FP b M nv k) ro rows) (yg:af w Dm (ay dn) 60):
  Calls Tryz.prog 67 #[.pointer (some ⟨b,0,none⟩),.agg #[.slice vo vars.length ak,mW,.bool true,.int .i64 way],.slice ro rows.length au,.int .i64 i,.pointer (some ⟨Dm,0,none⟩)] w fun e w'=>
   e= .returned (.int .i64 ((aY vars true dn (m+1) i rows ns).2:Nat))/\∃uy,sS w' b M uy (aY vars true dn (m+1) i rows ns).1/\Fr (FP b M nv) w w'/\(∀k,uy.ownBlock=some k->nv.ownBlock=some k\/w.heap.size<=k):=by
 have hmf:∀(fn:Fn) (first cap:Array Value) (w:World),(Instr.makeFunc fn first cap).run Tryz.prog w= .ok (.func fn first cap) w:=fun _ _ _ _=>rfl
 obtain⟨hv0,jv⟩:=hv i hi;obtain⟨q,hq⟩:∃q:Nat,vars.getD i 0=(q:Int):=⟨(vars.getD i 0).toNat,by omega⟩
 obtain⟨vb,iT,hvo,Zw,aeq,CW⟩:=hvs i hi;subst hvo;rw[hq] at hv0 jv CW;have hq8:q<8:=by omega
 have hDN:¬FP b M nv Dm:=hB.other yg (by decide) (by decide)
 obtain⟨sx,mM⟩:∃sx,dn.getD q 0=sx:=⟨_,rfl⟩;have hsx:=aX q;rw[mM] at hsx;obtain⟨fin,hfin⟩:∃fin,(vals sx).foldl (dA (aY vars true dn m (i+1)) rows i) (ns,zero6)=fin:=⟨_,rfl⟩;have hbt:aY vars true dn (m+1) i rows ns=aB fin.1 fin.2:=by
  have hne':(rows.isEmpty && !true)=false:=by simp
  rw[aY,hne',hq,Int.toNat_natCast,mM,hfin];simp
 rw[hbt];have hg1:((rows.length:Int)==0)=true:=by rw[hne];rfl
 have WR:=hd hne;clear hne;have hin0:((i:Int)==(vars.length:Int))=false:=by simp;omega
 obtain⟨W,hW⟩:∃W,W=boxedB w b #[.slice (some ⟨vb,iT,none⟩) vars.length ak,mW,.bool true,.int .i64 way] (.slice ro rows.length au) i Dm:=⟨_,rfl⟩;have dM:Nw w W:=by rw[hW];exact yj ..
 have hbx:oM W w.heap.size b #[.slice (some ⟨vb,iT,none⟩) vars.length ak,mW,.bool true,.int .i64 way] (.slice ro rows.length au) i Dm:=by rw[hW];exact uK ..
 have hsW:W.heap.size=w.heap.size+5:=by rw[hW];simp[boxedB]
 have a1:W.cell? ⟨w.heap.size+1,0,none⟩=some (.slice (some ⟨vb,iT,none⟩) vars.length ak):=hbx.b1.cell 0
 have a2:W.cell? ⟨w.heap.size+1,2,none⟩=some (.bool true):=hbx.b1.cell 2
 have a3:W.cell? ⟨w.heap.size+1+1,0,none⟩=some (.slice ro rows.length au):=hbx.b2.cell 0
 have a4:W.cell? ⟨w.heap.size+1+1+1,0,none⟩=some (.int .i64 (i:Int)):=hbx.b3.cell 0
 have HW:=hd hW;have DU:=hd hbx;have uq:=hd hsW;have HB:=hd hB;have zV:=hd hvs;have DZ:=hd hrs;have HDm:=hd yg;have fQ:=hd hfin;have Ku:=hd mM;have Hq:=hd hq;have JV:=hd ih;clear hW hbx hsW hB hvs hrs yg hfin mM hq hbt ih;refine(callsIn_wide (n:=9)).1 ?_
 refine callsIn_of_wp_marks Tryz.func67 rfl trivial ?_ rfl
 simp only[Tryz.ntmps67,List.size_toArray,List.length_cons,List.length_nil,Nat.reduceAdd,Nat.reduceSub,Array.replicate_succ,Array.replicate_zero,List.push_toArray,List.append_toArray,List.nil_append,List.cons_append];gi_upto_region 1 with fail
 rw[show ((((w.alloc (.cells #[.pointer (some ⟨b,0,none⟩)] 113)).alloc (.cells #[.slice (some ⟨vb,iT,none⟩) vars.length ak,mW,.bool true,.int .i64 way] 41)).alloc (.cells #[.slice ro rows.length au] 26)).alloc (.cells #[.int .i64 (i:Int)] 3)).alloc (.cells #[.pointer (some ⟨Dm,0,none⟩)] 116)=W from HW.out.symm]
 clear HW;gi_upto_region 7 with fail
 gi_upto_region 8 with fail
 obtain⟨Z,hZ⟩:∃Z,Z=W.alloc (.cells (aT zero6).toArray 151):=⟨_,rfl⟩;have qm:Nw W Z:=by rw[hZ];exact(Fr.refl _ W).alloc _
 have uw:af Z W.heap.size (aT zero6).toArray 151:=by rw[hZ];exact af.new _ _ _
 rw[show W.alloc (Obj.cells #[Value.int .i64 0,.int .i64 0,.int .i64 0,.int .i64 0,.int .i64 0,.int .i64 0] 151)=Z from hZ.symm]
 have G6:Nw w Z:=dM.trans qm (fun i h=>h.elim)
 have Gt:M<w.heap.size:=HB.out.lt (.inr (.inl rfl));have hbl:b<w.heap.size:=HB.out.lt (.inl rfl);have hI0:wo w Z b M Dm nv #[.slice (some ⟨vb,iT,none⟩) vars.length ak,mW,.bool true,.int .i64 way] (.slice ro rows.length au) i W.heap.size (ns,zero6):=
  ⟨G6.mono (fun i h=>h.elim),DU.out.fr qm (fun k _ _ x=>x),uw,⟨nv,HB.out.nw G6,fun k hk=>.inl hk,fun e=>by have:=HB.out.lt (.inr (.inr e));have:=uq.out;omega⟩⟩
 have a1':Z.cell? ⟨w.heap.size+1,0,none⟩=some (.slice (some ⟨vb,iT,none⟩) vars.length ak):=hI0.bx.b1.cell 0
 have a4':Z.cell? ⟨w.heap.size+1+1+1,0,none⟩=some (.int .i64 (i:Int)):=hI0.bx.b3.cell 0
 have a5':Z.cell? ⟨w.heap.size+1+1+1+1,0,none⟩=some (.pointer (some ⟨Dm,0,none⟩)):=hI0.bx.b4.cell 0
 have aV:Z.cell? ⟨vb,iT+i,none⟩=some (.int .i64 (q:Int)):=(G6.cell Zw (fun x=>x)).trans CW
 have aD:Z.cell? ⟨Dm,q,none⟩=some (.int .u8 (sx:Int)):=by rw[<-Ku.out];exact((HDm.out.nw G6).cell q).trans (dh dn q (by omega))
 have Sv:w.heap.size+6<=Z.heap.size:=by have:=uw.lt;have:=uq.out;omega
 have HI0:=hd hI0;have hiV:(i:Int)<(vars.length:Int):=by omega
 clear hI0 hZ uw a1 a2 a3 a4 CW;refine wpIn_wide.2 ?_
 go_still (by kernel_rfl)
 go_wp2
 gi_wp2_with fail
 show Code.wpIn _ _ _ _ _ _ Z.drew
 have wu:Z.drew.heap.size=Z.heap.size:=rfl;refine pX (show sx<256 by omega) rfl (by simp) (fun pre A=>wo w A b M Dm nv #[.slice (some ⟨vb,iT,none⟩) vars.length ak,mW,.bool true,.int .i64 way] (.slice ro rows.length au) i W.heap.size (pre.foldl (dA (aY vars true dn m (i+1)) rows i) (ns,zero6)))
  (fun pre A B h hb=>h.bk hb (by rw[wu];omega) (by rw[wu];omega)) HI0.out.drew ?body ?done
 case body=>
  rintro l pre v A hpre hI
  have hmem:v∈vals sx:=hpre.subset (List.mem_append_right pre (List.mem_singleton.2 rfl));have hv6:v<6:=fE hsx hmem;have gz:pre.length+1<=6:=by
   have h1:=hpre.length_le;have h2:=lX hsx;simp at h1
   omega
  obtain⟨st,hst⟩:∃st,pre.foldl (dA (aY vars true dn m (i+1)) rows i) (ns,zero6)=st:=⟨_,rfl⟩;rw[hst] at hI;have hstep:(pre++[v]).foldl (dA (aY vars true dn m (i+1)) rows i) (ns,zero6)=dA (aY vars true dn m (i+1)) rows i st v:=by rw[List.foldl_append,hst];rfl
  rw[hstep];obtain⟨hlen,hs6,jY⟩:=zY vars true dn aX m i rows ns HB.out.two pre st hst;have hcm:st.1.length+cnt m<100000:=by
   have h1:pre.length*cnt m<=5*cnt m:=Nat.mul_le_mul_right _ (by omega)
   simp only[cnt] at hcnt;omega
  obtain⟨kE,O7,hnk,mD⟩:=hI.vO;obtain⟨r,hre⟩:∃r,aY vars true dn m (i+1) (aJ rows i v) st.1=r:=⟨_,rfl⟩;have hrl2:=pq vars true dn aX m (i+1) (aJ rows i v) st.1 (by have:=HB.out.two;omega)
  rw[hre] at hrl2;obtain⟨st',hst'⟩:∃st',dA (aY vars true dn m (i+1)) rows i st v=st':=⟨_,rfl⟩;have hst2:st'=(r.1,st.2.set v r.2):=by rw[<-hst'];unfold dA;rw[hre]
  rw[hst'];have O8:=hd hst2;clear hst hstep hst' hst2 hpre hmem a1' a4' a5' aV aD HI0;have HI:=hd hI;have uM:=hd O7;have Zt:=hd hre;clear hI O7 hre;gi_wp2_with fail
  have hK0:oM A.drew w.heap.size b #[.slice (some ⟨vb,iT,none⟩) vars.length ak,mW,.bool true,.int .i64 way] (.slice ro rows.length au) i Dm:=⟨HI.out.bx.b0,HI.out.bx.b1,HI.out.bx.b2,HI.out.bx.b3,HI.out.bx.b4⟩;refine EW (S:=fun w''=>oM w'' w.heap.size b #[.slice (some ⟨vb,iT,none⟩) vars.length ak,mW,.bool true,.int .i64 way] (.slice ro rows.length au) i Dm) (by kernel_rfl) (fun a w h=>h) ?_
  refine wpAnyH_take (i:=0) (v:=.int .i64 (v:Int)) rfl (by kernel_rfl) (by kernel_rfl) (by kernel_rfl) (fun _ _ _ h=>h) (.inl ⟨by kernel_rfl,fun w'' hS=>by kernel_rfl⟩) hK0 ?_
  refine wpAnyH_take (i:=1) (v:=.pointer (some ⟨b,0,none⟩)) rfl (by kernel_rfl) (by kernel_rfl) (by kernel_rfl) (fun _ _ _ h=>h) (.inl ⟨by kernel_rfl,fun w'' hS=>?_⟩) hK0 ?_
  ·have q0:w''.cell? ⟨w.heap.size,0,none⟩=some (.pointer (some ⟨b,0,none⟩)):=hS.b0.cell 0
   clear hK0 hS hg1 hin0 hcnt hv0 jv hcm hlen hrl2 gz hnk mD hrow hv aX hmf;simp only[Act.put,bQ,bW,bU,eH,eY,fC];go_simp
  refine wpAnyH_take (i:=2) (v:=.agg #[.slice (some ⟨vb,iT,none⟩) vars.length ak,mW,.bool true,.int .i64 way]) rfl (by kernel_rfl) (by kernel_rfl) (by kernel_rfl) (fun _ _ _ h=>h) (.inl ⟨by kernel_rfl,fun w'' hS=>?_⟩) hK0 ?_
  ·have q0:w''.cell? ⟨w.heap.size+1,0,none⟩=some (.slice (some ⟨vb,iT,none⟩) vars.length ak):=hS.b1.cell 0
   have q1:w''.cell? ⟨w.heap.size+1,1,none⟩=some mW:=hS.b1.cell 1
   have q2:w''.cell? ⟨w.heap.size+1,2,none⟩=some (.bool true):=hS.b1.cell 2
   have q3:w''.cell? ⟨w.heap.size+1,3,none⟩=some (.int .i64 way):=hS.b1.cell 3
   clear hK0 hS hg1 hin0 hcnt hv0 jv hcm hlen hrl2 gz hnk mD hrow hv aX hmf;simp only[Act.put,bQ,bW,bU,eH,eY,fC];go_simp
  refine wpAnyH_take (i:=3) (v:=.slice ro rows.length au) rfl (by kernel_rfl) (by kernel_rfl) (by kernel_rfl) (fun _ _ _ h=>h) (.inl ⟨by kernel_rfl,fun w'' hS=>?_⟩) hK0 ?_
  ·have q0:w''.cell? ⟨w.heap.size+1+1,0,none⟩=some (.slice ro rows.length au):=hS.b2.cell 0
   clear hK0 hS hg1 hin0 hcnt hv0 jv hcm hlen hrl2 gz hnk mD hrow hv aX hmf;simp only[Act.put,bQ,bW,bU,eH,eY,fC];go_simp
  refine wpAnyH_take (i:=4) (v:=.int .i64 (i:Int)) rfl (by kernel_rfl) (by kernel_rfl) (by kernel_rfl) (fun _ _ _ h=>h) (.inl ⟨by kernel_rfl,fun w'' hS=>?_⟩) hK0 ?_
  ·have q0:w''.cell? ⟨w.heap.size+1+1+1,0,none⟩=some (.int .i64 (i:Int)):=hS.b3.cell 0
   clear hK0 hS hg1 hin0 hcnt hv0 jv hcm hlen hrl2 gz hnk mD hrow hv aX hmf;simp only[Act.put,bQ,bW,bU,eH,eY,fC];go_simp
  refine wpAnyH_take (i:=5) (v:=.int .i64 (v:Int)) rfl (by kernel_rfl) (by kernel_rfl) (by kernel_rfl) (fun _ _ _ h=>h) (.inl ⟨by kernel_rfl,fun w'' hS=>by kernel_rfl⟩) hK0 ?_
  refine wpAnyH_take (i:=7) (v:=.int .i64 (i:Int)) rfl (by kernel_rfl) (by kernel_rfl) (by kernel_rfl) (fun _ _ _ h=>h) (.inl ⟨by kernel_rfl,fun w'' hS=>?_⟩) hK0 ?_
  ·have q0:w''.cell? ⟨w.heap.size+1+1+1,0,none⟩=some (.int .i64 (i:Int)):=hS.b3.cell 0
   clear hK0 hS hg1 hin0 hcnt hv0 jv hcm hlen hrl2 gz hnk mD hrow hv aX hmf;simp only[Act.put,bQ,bW,bU,eH,eY,fC];go_simp
  refine wpAnyH_take (i:=8) (v:=.int .i64 ((i+1:Nat):Int)) rfl (by kernel_rfl) (by kernel_rfl) (by kernel_rfl) (fun _ _ _ h=>h) (.inl ⟨by kernel_rfl,fun w'' hS=>?_⟩) hK0 ?_
  ·clear hK0 hS hg1 hin0 hcnt hv0 jv hcm hlen hrl2 gz hnk mD hrow hv aX hmf;simp only[Act.put,bQ,bW,bU,eH,eY,fC];go_simp
   rw[IntKind.wrap_i64];omega
  refine wpAnyH_take (i:=9) (v:=.pointer (some ⟨Dm,0,none⟩)) rfl (by kernel_rfl) (by kernel_rfl) (by kernel_rfl) (fun _ _ _ h=>h) (.inl ⟨by kernel_rfl,fun w'' hS=>?_⟩) hK0 ?_
  ·have q0:w''.cell? ⟨w.heap.size+1+1+1+1,0,none⟩=some (.pointer (some ⟨Dm,0,none⟩)):=hS.b4.cell 0
   clear hK0 hS hg1 hin0 hcnt hv0 jv hcm hlen hrl2 gz hnk mD hrow hv aX hmf;simp only[Act.put,bQ,bW,bU,eH,eY,fC];go_simp
  refine wpAnyH_take (i:=11) (v:=.pointer (some ⟨W.heap.size,0,none⟩)) rfl (by kernel_rfl) (by kernel_rfl) (by kernel_rfl) (fun _ _ _ h=>h) (.inl ⟨by kernel_rfl,fun w'' hS=>by kernel_rfl⟩) hK0 ?_
  refine wpAnyH_all (rs:=[6]) (by kernel_rfl) (by simp) (fun j hj=>?_)
  obtain rfl:j=6:=by simpa using hj
  have qx:∀k,k<w.heap.size->¬FP b M nv k->¬FP b M nv k/\¬FP b M kE k:=fun k hk hn=>⟨hn,fun h=>by
   rcases h with h | h | h
   ·exact hn (.inl h)
   ·exact hn (.inr (.inl h))
   ·rcases hnk k h with h1 | h1
    ·exact hn (.inr (.inr h1))
    ·omega⟩
  have EY:RowsIn A (fun k=>¬FP b M kE k) ro rows:=DZ.out.fr HI.out.fr qx
  have EZ:IntsIn A (fun k=>¬FP b M kE k) (some ⟨vb,iT,none⟩) vars:=zV.out.fr HI.out.fr qx
  have AB:af A Dm (ay dn) 60:=HDm.out.fr HI.out.fr hDN;refine dF (f:=86) (args:=#[.slice ro rows.length au,.int .i64 (i:Int),.int .i64 (v:Int)]) (w':=A.drew) rfl (by kernel_rfl) (by kernel_rfl) ?_
  refine(yY ro au rows i v A.drew hrl (fun k=>¬FP b M kE k) (EY.fr ((Fr.refl (fun _=>False) A).drew) (fun k _ hk=>⟨fun x=>x,hk⟩)) (fun j hj=>by rw[hrow j hj];exact⟨hi,h4⟩)).mono ?_
  rintro e A1 ⟨ro',rc',rfl,hf1,yl⟩
  have dQ:Nw A A1:=hf1.gW;have uN:oM A1 w.heap.size b #[.slice (some ⟨vb,iT,none⟩) vars.length ak,mW,.bool true,.int .i64 way] (.slice ro rows.length au) i Dm:=HI.out.bx.fr dQ (fun k _ _ x=>x)
  refine⟨_,rfl,uN,?_⟩
  refine wpAnyH_all (rs:=[10]) (by kernel_rfl) (by simp) (fun j hj=>?_)
  obtain rfl:j=10:=by simpa using hj
  have hB1:=uM.out.nw dQ;have wB:RowsIn A1 (fun k=>¬FP b M kE k) ro' (aJ rows i v):=yl.fr (Fr.refl (fun _=>False) A1) (fun k _ hk=>⟨fun x=>x,by
   rcases hk with h | h
   ·exact h
   ·intro hF;have:=uM.out.lt hF
    have h':A.heap.size<=k:=h;omega⟩)
  have KA:(aJ rows i v).length<=60:=Nat.le_trans (List.length_filter_le _ _) hrl;have AL:∀j,j<(aJ rows i v).length->((aJ rows i v).getD j []).length=vars.length:=fun j hj=>by
   have hmem:(aJ rows i v)[j]∈rows:=(List.mem_filter.1 (List.getElem_mem hj)).1;obtain⟨t,ht,he⟩:=List.getElem_of_mem hmem;have h1:=hrow t ht;simp only[List.getD,List.getElem?_eq_getElem ht,Option.getD_some,he] at h1
   simpa[List.getD,hj] using h1
  refine dF (f:=67) (args:=#[.pointer (some ⟨b,0,none⟩),.agg #[.slice (some ⟨vb,iT,none⟩) vars.length ak,mW,.bool true,.int .i64 way],.slice ro' (aJ rows i v).length rc',.int .i64 ((i+1:Nat):Int),.pointer (some ⟨Dm,0,none⟩)]) (w':=A1) rfl (by kernel_rfl) (by kernel_rfl) ?_
  refine(JV.out (aJ rows i v) st.1 kE ro' rc' A1 KA AL hcm hB1 (EZ.fr dQ (fun k _ hk=>⟨fun x=>x,hk⟩)) wB (AB.nw dQ)).mono ?_
  rw[Zt.out];rintro e A2 ⟨rfl,xP,hB2,hf2,hn2⟩
  have hs1:=dQ.size;have hAs:W.heap.size<A.heap.size:=HI.out.bN.lt;have hWs:=uq.out;have SL:∀k,FP b M kE k->k<A.heap.size:=fun k hk=>uM.out.lt hk
  have zN:∀k,w.heap.size<=k->k<=w.heap.size+4->¬FP b M kE k:=fun k h1 h2=>by
   have hk:k=w.heap.size\/k=w.heap.size+1\/k=w.heap.size+1+1\/k=w.heap.size+1+1+1\/k=w.heap.size+1+1+1+1:=by omega
   rcases hk with rfl | rfl | rfl | rfl | rfl
   ·exact uM.out.other HI.out.bx.b0 (by decide) (by decide)
   ·exact uM.out.other HI.out.bx.b1 (by decide) (by decide)
   ·exact uM.out.other HI.out.bx.b2 (by decide) (by decide)
   ·exact uM.out.other HI.out.bx.b3 (by decide) (by decide)
   ·exact uM.out.other HI.out.bx.b4 (by decide) (by decide)
  have zO:¬FP b M kE W.heap.size:=by
   rintro(h | h | h)
   ·omega
   ·omega
   ·exact mD h
  have hbx2:oM A2 w.heap.size b #[.slice (some ⟨vb,iT,none⟩) vars.length ak,mW,.bool true,.int .i64 way] (.slice ro rows.length au) i Dm:=uN.fr hf2 zN;have AO:af A2 W.heap.size (aT st.2).toArray 151:=(HI.out.bN.nw dQ).fr hf2 zO;refine⟨_,rfl,hbx2,?_⟩
  refine wpAnyH_all (rs:=[12]) (by kernel_rfl) (by simp) (fun j hj=>?_)
  obtain rfl:j=12:=by simpa using hj
  refine aA (v:=.pointer (some ⟨W.heap.size,v,none⟩)) (w':=A2) rfl (by kernel_rfl) ?_ ⟨hbx2,?_⟩
  ·have hv0':(0:Int)<=(v:Int):=by omega
   have RP:(v:Int)<6:=by omega
   clear hK0 hg1 hin0 hcnt hv0 jv hcm hlen hrl2 gz hnk mD hrow hv aX hmf EY EZ AB hf1 yl dQ uN hB1 wB KA AL hB2 hf2 hn2 hs1 hAs hWs SL zN zO hbx2 AO qx;simp only[Act.put,bQ,bW,bU,eH,eY,fC];go_simp
  refine wpAnyH_all (rs:=[13]) (by kernel_rfl) (by simp) (fun j hj=>?_)
  obtain rfl:j=13:=by simpa using hj
  have hvl:v<(aT st.2).toArray.size:=by simp[aT,hs6];omega
  obtain⟨ov,hcN⟩:∃ov,A2.cell? ⟨W.heap.size,v,none⟩=some ov:=⟨_,(AO.cell v).trans (Array.getElem?_eq_getElem hvl)⟩
  have hfN:=AO.free v;obtain⟨A3,hA3⟩:∃A3,A3=A2.setCell ⟨W.heap.size,v,none⟩ (.int .i64 (r.2:Int)):=⟨_,rfl⟩;have hf3:Fr (fun k=>k=W.heap.size) A2 A3:=by rw[hA3];exact(Fr.refl _ A2).setCell _ _ (.inl rfl)
  have nV:oM A3 w.heap.size b #[.slice (some ⟨vb,iT,none⟩) vars.length ak,mW,.bool true,.int .i64 way] (.slice ro rows.length au) i Dm:=hbx2.fr hf3 (fun k h1 h2 e=>by omega)
  have hN3:af A3 W.heap.size (aT (st.2.set v r.2)).toArray 151:=by
   rw[hA3];have h5:=AO.set v (.int .i64 (r.2:Int));have e5:(aT st.2).toArray.setIfInBounds v (.int .i64 (r.2:Int))=(aT (st.2.set v r.2)).toArray:=by simp[aT,List.map_set]
   rw[e5] at h5;exact h5
  refine dw (w':=A3) rfl (by kernel_rfl) ?_ ⟨nV,wpAnyH_done (by kernel_rfl) ?_ _⟩
  ·rw[hA3];clear hK0 hg1 hin0 hcnt hv0 jv hcm hlen hrl2 gz hnk mD hrow hv aX hmf EY EZ AB hf1 yl dQ uN hB1 wB KA AL hB2 hf2 hn2 hs1 hAs hWs SL zN zO hbx2 AO qx hA3 hf3 nV hN3 hvl hs6 jY;simp only[Act.put,bQ,bW,bU,eH,eY,fC];go_simp
  simp only[Act.put,bQ,bW,bU,eH,eY,fC];have SN:Fr (FP b M kE) A A2:=(dQ.mono (fun i h=>h.elim)).trans hf2 (fun k h=>.inl h)
  have AP:Fr (fun k=>FP b M kE k\/k=W.heap.size) A A3:=(SN.mono (fun k h=>.inl (.inl h))).trans hf3 (fun k h=>.inl (.inr h))
  have hB3:sS A3 b M xP r.1:=hB2.fr hf3 (by omega) (by omega) (fun k hk e=>by
   rcases hn2 k hk with h | h
   ·exact mD (by rw[<-e];exact h)
   ·omega)
  have O1:wo w A3 b M Dm nv #[.slice (some ⟨vb,iT,none⟩) vars.length ak,mW,.bool true,.int .i64 way] (.slice ro rows.length au) i W.heap.size (r.1,st.2.set v r.2):=by
   refine⟨HI.out.fr.trans AP (fun k h=>?_),nV,hN3,⟨xP,hB3,fun k hk=>?_,fun e=>?_⟩⟩
   ·rcases h with h | h
    ·rcases h with h | h | h
     ·exact .inl (.inl h)
     ·exact .inl (.inr (.inl h))
     ·rcases hnk k h with h1 | h1
      ·exact .inl (.inr (.inr h1))
      ·exact .inr h1
    ·exact .inr (by omega)
   ·rcases hn2 k hk with h | h
    ·exact hnk k h
    ·exact .inr (by omega)
   ·rcases hn2 _ e with h | h
    ·exact mD h
    ·omega
  have hkp:jV A A3:=AP.rq (fun k hk=>by
   rcases hk with hk | rfl
   ·exact uM.out.kV k hk
   ·exact⟨_,HI.out.bN,rfl⟩)
  have HI3:=hd O1;have Yy:=hd hkp;clear O1 hkp hB3 AP SN hN3 nV hf3 hA3 AO hbx2 hB2 hf2 uN hB1 wB yl hf1 dQ EY EZ AB;simp only[Exit.inBlock];gi_wp2
  refine⟨Yy.out,?_⟩
  show wo ..
  rw[O8.out];exact HI3.out
 case done=>
  rintro D A hD hI hK
  rw[fQ.out] at hI;obtain⟨hlen,hs6,jY⟩:=zY vars true dn aX m i rows ns HB.out.two (vals sx) fin fQ.out;have hvl:=lX hsx;have JS:(vals sx).length*cnt m<=6*cnt m:=Nat.mul_le_mul_right _ hvl;simp only[cnt] at hcnt;have hok:jP fin.2:=⟨hs6,fun x hx=>by have:=jY x hx;omega⟩
  obtain⟨n0,n1,n2,n3,n4,n5,nI⟩:=DV hs6;obtain⟨kE,O7,hnk,mD⟩:=hI.vO;have b0:A.cell? ⟨w.heap.size,0,none⟩=some (.pointer (some ⟨b,0,none⟩)):=hI.bx.b0.cell 0
  have KC:=hI.bN;have c0:A.cell? ⟨W.heap.size,0,none⟩=some (.int .i64 (n0:Int)):=by rw[KC.cell,nI];rfl
  have c1:A.cell? ⟨W.heap.size,1,none⟩=some (.int .i64 (n1:Int)):=by rw[KC.cell,nI];rfl
  have c2:A.cell? ⟨W.heap.size,2,none⟩=some (.int .i64 (n2:Int)):=by rw[KC.cell,nI];rfl
  have c3:A.cell? ⟨W.heap.size,3,none⟩=some (.int .i64 (n3:Int)):=by rw[KC.cell,nI];rfl
  have c4:A.cell? ⟨W.heap.size,4,none⟩=some (.int .i64 (n4:Int)):=by rw[KC.cell,nI];rfl
  have c5:A.cell? ⟨W.heap.size,5,none⟩=some (.int .i64 (n5:Int)):=by rw[KC.cell,nI];rfl
  have G7:jo fin.2= .agg #[.int .i64 (n0:Int),.int .i64 (n1:Int),.int .i64 (n2:Int),.int .i64 (n3:Int),.int .i64 (n4:Int),.int .i64 (n5:Int)]:=by rw[nI];rfl
  have SQ:=hd (uJ b M kE fin.1 fin.2 A O7 hok (by omega))
  rw[G7] at SQ;have vT:w.heap.size<=D:=by
   have:Z.heap.size<=D:=hD
   omega
  have HI:=hd hI;have uM:=hd O7;clear hI O7 KC nI G7 hok hs6 jY HI0 JV a1' a4' a5' aV aD hlen;gi_wp2_with (refine⟨trivial,?_⟩;gi_at_call 87;refine(callsIn_wide.2 SQ.out).mono ?_;rintro e A1 ⟨rfl,xP,hB2,hf2,hn2⟩)
  have hK1:=(Fr.rq hf2 uM.out.kV).same D _ hK rfl;have hAs:w.heap.size<=A.heap.size:=HI.out.fr.size;refine⟨by simp,.inl ⟨_,_,rfl,run_takeDeferred hK1,?_⟩⟩
  refine⟨_,results_tmp rfl _ _ _,rfl,xP,hB2.bk (Bk.put (.deferred none) vT hK1 rfl) Gt,?_,fun k hk=>?_⟩
  ·refine(HI.out.fr.trans hf2 (fun k h=>?_)).bk (Bk.put (.deferred none) vT hK1 rfl) (Nat.le_refl _)
   rcases h with h | h | h
   ·exact .inl (.inl h)
   ·exact .inl (.inr (.inl h))
   ·rcases hnk k h with h1 | h1
    ·exact .inl (.inr (.inr h1))
    ·exact .inr h1
  ·rcases hn2 k hk with h | h
   ·exact hnk k h
   ·exact .inr (by omega)
theorem D5 (b M Dm:Nat) (vo:Option Addr) (ak:Nat) (mW:Value) (nt:Bool) (way:Int) (vars:List Int) (dn:List Nat) (h8:dn.length=8) (h4:vars.length<=4) (hv:∀i,i<vars.length->0<=vars.getD i 0/\vars.getD i 0<8) (aX:∀q,dn.getD q 0<64):
  ∀m i,i+m=vars.length->EX b M Dm vo ak mW nt way vars dn m i
 | 0,i,hm,rows,ns,nv,ro,au,w,hrl,_,_,hB,_,_,_=>by
  obtain rfl:i=vars.length:=by omega
  refine(DY b Dm vars.length vars.length vo ro ak au mW nt way rows.length w h4 hrl (.inr rfl)).mono ?_
  rintro e w' ⟨rfl,hf⟩
  have e0:aY vars nt dn 0 vars.length rows ns=(ns,if rows.length=0/\nt=false then 0 else if nt=true/\rows.length≠0 then 0 else 1):=by
   unfold aY;cases rows <;> cases nt <;> simp
  rw[e0];exact⟨by split <;> first | rfl | (split <;> rfl),nv,hB.nw hf,hf.mono (fun i h=>h.elim),fun k hk=>.inl hk⟩
 | m+1,i,hm,rows,ns,nv,ro,au,w,hrl,hrow,hcnt,hB,hvs,hrs,yg=>by
  have ih:=D5 b M Dm vo ak mW nt way vars dn h8 h4 hv aX m (i+1) (by omega)
  by_cases hz:rows=[]
  ·cases hnt:nt with
   | false=>
    have hlen:rows.length=0:=by rw[hz];rfl
    refine(DY b Dm i vars.length vo ro ak au mW false way rows.length w h4 hrl (.inl ⟨hlen,rfl⟩)).mono ?_
    rintro e w' ⟨rfl,hf⟩
    have e0:aY vars false dn (m+1) i rows ns=(ns,0):=by
     rw[aY,hz];rfl
    rw[e0,if_pos ⟨hlen,rfl⟩];exact⟨rfl,nv,hB.nw hf,hf.mono (fun i h=>h.elim),fun k hk=>.inl hk⟩
   | true=>
    subst hnt;exact O9 b M Dm vo ak mW way vars dn m i h8 h4 hv aX (by omega) ih rows ns nv ro au w hrl hrow hz hcnt hB hvs hrs yg
  ·exact O6 b M Dm vo ak mW nt way vars dn m i h8 h4 hv aX (by omega) ih rows ns nv ro au w hrl hrow hz hcnt hB hvs hrs yg
end Go.Proofs.YtkjfpdfkcfgfkaaGreat
namespace Go.Proofs.YtkjfpdfkcfgfkaaGreat
open Go.RowKit Go.Maps
structure yZ (w:World) (G g cap:Nat) (nv:Value) (vars:List Int) (ns:List (List Nat)) (root:Nat):Prop where
 blk:af w G #[.slice (some ⟨g,0,none⟩) vars.length cap,nv,.int .i64 (root:Int)] 125
 rv:Row w (.slice (some ⟨g,0,none⟩) vars.length cap) 3 (vars.map (Value.int .i64))
 row:w.ownsRow 0 151 6 nv ns.length (ns.flatMap aT)
 ok:∀n∈ns,jP n
 two:2<=ns.length
set_option maxRecDepth 1000000 in
theorem AQ (vb iT:Nat) (ro:Option Addr) (ak au:Nat) (vars:List Int) (rows:List (List Int)) (nt:Bool) (way:Int) (dn:List Nat) (w:World) (h8:dn.length=8) (hv0:0<vars.length) (h4:vars.length<=4)
  (hv:∀i,i<vars.length->0<=vars.getD i 0/\vars.getD i 0<8) (aX:∀q,dn.getD q 0<64) (hrl:rows.length<=60) (hrow:∀j,j<rows.length->(rows.getD j []).length=vars.length)
  (hvs:ax w (some ⟨vb,iT,none⟩) vars) (hrs:dW w ro rows):
  Calls Tryz.prog 41 #[.agg #[.slice (some ⟨vb,iT,none⟩) vars.length ak,.slice ro rows.length au,.bool nt,.int .i64 way],.agg (ay dn)] w fun e w'=>
   ∃G g cap nv,e= .returned (.pointer (some ⟨G,0,none⟩))/\Nw w w'/\yZ w' G g cap nv vars (aY vars nt dn vars.length 0 rows [zero6,zero6]).1 (aY vars nt dn vars.length 0 rows [zero6,zero6]).2/\w.heap.size<=G/\w.heap.size<=g/\(∀k,nv.ownBlock=some k->w.heap.size<=k):=by
 obtain⟨W,hW⟩:∃W,W=(w.alloc (.cells #[.slice (some ⟨vb,iT,none⟩) vars.length ak,.slice ro rows.length au,.bool nt,.int .i64 way] 41)).alloc (.cells (ay dn) 60):=⟨_,rfl⟩;have dM:Nw w W:=by rw[hW];exact((Fr.refl _ w).alloc _).alloc _
 have pU:af W w.heap.size #[.slice (some ⟨vb,iT,none⟩) vars.length ak,.slice ro rows.length au,.bool nt,.int .i64 way] 41:=by rw[hW];exact(af.new _ _ _).alloc _
 have hbD:af W (w.heap.size+1) (ay dn) 60:=by
  rw[hW];have:=af.new (w.alloc (.cells #[.slice (some ⟨vb,iT,none⟩) vars.length ak,.slice ro rows.length au,.bool nt,.int .i64 way] 41)) (ay dn) 60
  rw[tY] at this;exact this
 have hsW:W.heap.size=w.heap.size+2:=by rw[hW];simp
 have HW:=hd hW;have rM:=hd pU;have tX:=hd hbD;have uq:=hd hsW;clear hW pU hbD hsW;obtain⟨res,hres⟩:∃res,aY vars nt dn vars.length 0 rows [zero6,zero6]=res:=⟨_,rfl⟩;rw[hres];have pz:=hd hres;clear hres;go_enter Tryz.func41,Tryz.ntmps41
 go_upto_region 1 with fail
 rw[<-HW.out];clear HW;go_upto_region 2 with (go_at_call 66;refine(iP W).mono ?_;rintro e w1 ⟨b,M,xQ,rfl,hB1,hf1,hbl,Gt,hnl⟩)
 have hT1:=rM.out.nw hf1;have t0:w1.cell? ⟨w.heap.size,0,none⟩=some (.slice (some ⟨vb,iT,none⟩) vars.length ak):=hT1.cell 0
 have t1:w1.cell? ⟨w.heap.size,1,none⟩=some (.slice ro rows.length au):=hT1.cell 1
 have t2:w1.cell? ⟨w.heap.size,2,none⟩=some (.bool nt):=hT1.cell 2
 have t3:w1.cell? ⟨w.heap.size,3,none⟩=some (.int .i64 way):=hT1.cell 3
 have hnF:∀k,k<W.heap.size->¬FP b M xQ k:=fun k hk h=>by
  rcases h with h | h | h
  ·omega
  ·omega
  ·have:=hnl k h;omega
 have hF1:Nw w w1:=dM.trans hf1 (fun i h=>h.elim)
 have hs1:=hF1.size;have hsW:=uq.out;have Pg:IntsIn w1 (fun k=>¬FP b M xQ k) (some ⟨vb,iT,none⟩) vars:=fun i hi=>by
  obtain⟨b',o',e',hl',hc'⟩:=hvs i hi;exact⟨b',o',e',by omega,hnF b' (by omega),(hF1.cell hl' (fun x=>x)).trans hc'⟩
 have yl:RowsIn w1 (fun k=>¬FP b M xQ k) ro rows:=fun i hi=>by
  obtain⟨b',o',r',rc',e',hl',hc',hI'⟩:=hrs i hi;refine⟨b',o',r',rc',e',by omega,hnF b' (by omega),(hF1.cell hl' (fun x=>x)).trans hc',fun j hj=>?_⟩
  obtain⟨b2,o2,e2,hl2,hc2⟩:=hI' j hj;exact⟨b2,o2,e2,by omega,hnF b2 (by omega),(hF1.cell hl2 (fun x=>x)).trans hc2⟩
 have Hb:=hd (D5 b M (w.heap.size+1) (some ⟨vb,iT,none⟩) ak (.slice ro rows.length au) nt way vars dn h8 h4 hv aX vars.length 0 (by omega) rows [zero6,zero6] xQ ro au w1 hrl hrow (by
   have:cnt vars.length<=259:=by
    have hl:vars.length=1\/vars.length=2\/vars.length=3\/vars.length=4:=by omega
    rcases hl with h | h | h | h <;> rw[h] <;> decide
   simp;omega) hB1 Pg yl (tX.out.nw hf1))
 rw[pz.out] at Hb;go_upto_region 3 with (go_at_call 67;refine Hb.out.mono ?_;rintro e w2 ⟨rfl,xP,hB2,hf2,hn2⟩)
 obtain⟨ng,iJ,Zx⟩:∃ng iJ,xP= .slice (some ⟨ng,0,none⟩) res.1.length iJ:=by
  rcases hB2.row.2 with ⟨_,h0⟩ | ⟨ng,iJ,cur,h,_⟩
  ·have:=hB2.two;omega
  ·exact⟨ng,iJ,h⟩
 subst Zx;have hT2:af w2 w.heap.size #[.slice (some ⟨vb,iT,none⟩) vars.length ak,.slice ro rows.length au,.bool nt,.int .i64 way] 41:=hT1.fr hf2 (hnF _ (by omega))
 have hK0:af w2.drew w.heap.size #[.slice (some ⟨vb,iT,none⟩) vars.length ak,.slice ro rows.length au,.bool nt,.int .i64 way] 41/\af w2.drew b #[.slice (some ⟨ng,0,none⟩) res.1.length iJ,.map (some M)] 123:=⟨hT2.drew,hB2.blk.drew⟩;refine wp_region_held (S:=fun w''=>af w'' w.heap.size #[.slice (some ⟨vb,iT,none⟩) vars.length ak,.slice ro rows.length au,.bool nt,.int .i64 way] 41/\af w'' b #[.slice (some ⟨ng,0,none⟩) res.1.length iJ,.map (some M)] 123) (by kernel_rfl) ?_
 refine wpAnyH_take (i:=0) (v:=.pointer (some ⟨w.heap.size,0,none⟩)) rfl (by kernel_rfl) (by kernel_rfl) (by kernel_rfl) (fun _ _ _ h=>h) (.inl ⟨by kernel_rfl,fun w'' hS=>by kernel_rfl⟩) hK0 ?_
 refine wpAnyH_take (i:=1) (v:=.slice (some ⟨vb,iT,none⟩) vars.length ak) rfl (by kernel_rfl) (by kernel_rfl) (by kernel_rfl) (fun _ _ _ h=>h) (.inl ⟨by kernel_rfl,fun w'' hS=>?_⟩) hK0 ?_
 ·have q0:w''.cell? ⟨w.heap.size,0,none⟩=some (.slice (some ⟨vb,iT,none⟩) vars.length ak):=hS.1.cell 0
  clear hK0 hS hv aX hrow hvs hrs t0 t1 t2 t3 hnF hF1 Pg yl Hb hB2 hf2 hn2 hT2 hf1 hnl hB1;simp only[Act.put,bQ,bW,bU,eH,eY,fC];go_simp
 refine wpAnyH_take (i:=3) (v:=.pointer (some ⟨b,0,none⟩)) rfl (by kernel_rfl) (by kernel_rfl) (by kernel_rfl) (fun _ _ _ h=>h) (.inl ⟨by kernel_rfl,fun w'' hS=>by kernel_rfl⟩) hK0 ?_
 refine wpAnyH_take (i:=4) (v:=.pointer (some ⟨b,0,none⟩)) rfl (by kernel_rfl) (by kernel_rfl) (by kernel_rfl) (fun _ _ _ h=>h) (.inl ⟨by kernel_rfl,fun w'' hS=>by kernel_rfl⟩) hK0 ?_
 refine wpAnyH_take (i:=5) (v:=.pointer (some ⟨b,0,none⟩)) rfl (by kernel_rfl) (by kernel_rfl) (by kernel_rfl) (fun _ _ _ h=>h) (.inl ⟨by kernel_rfl,fun w'' hS=>by kernel_rfl⟩) hK0 ?_
 refine wpAnyH_take (i:=6) (v:=.slice (some ⟨ng,0,none⟩) res.1.length iJ) rfl (by kernel_rfl) (by kernel_rfl) (by kernel_rfl) (fun _ _ _ h=>h) (.inl ⟨by kernel_rfl,fun w'' hS=>?_⟩) hK0 ?_
 ·have q0:w''.cell? ⟨b,0,none⟩=some (.slice (some ⟨ng,0,none⟩) res.1.length iJ):=hS.2.cell 0
  clear hK0 hS hv aX hrow hvs hrs t0 t1 t2 t3 hnF hF1 Pg yl Hb hB2 hf2 hn2 hT2 hf1 hnl hB1;simp only[Act.put,bQ,bW,bU,eH,eY,fC];go_simp
 refine wpAnyH_take (i:=7) (v:=.int .i64 (res.2:Int)) rfl (by kernel_rfl) (by kernel_rfl) (by kernel_rfl) (fun _ _ _ h=>h) (.inl ⟨by kernel_rfl,fun w'' hS=>by kernel_rfl⟩) hK0 ?_
 refine wpAnyH_all (rs:=[2]) (by kernel_rfl) (by simp) (fun j hj=>?_)
 obtain rfl:j=2:=by simpa using hj
 have hF2:Fr (FP b M xQ) w w2:=(hF1.mono (fun i h=>h.elim)).trans hf2 (fun i h=>.inl h)
 have aer:ax w2.drew (some ⟨vb,iT,none⟩) vars:=ax.nw (Pg.fr hf2 (N':=fun _=>True) (fun k _ hk=>⟨hk,trivial⟩)).at_ ((Fr.refl _ w2).drew)
 refine dF (f:=68) (args:=#[.slice (some ⟨vb,iT,none⟩) vars.length ak]) (w':=w2.drew) rfl (by kernel_rfl) (by kernel_rfl) ?_
 refine(vW vb iT ak vars w2.drew (by omega) hv0 aer).mono ?_
 rintro e w3 ⟨g,cap,rfl,hf3,hr3,hg3⟩
 have nJ:Nw w2 w3:=hf3.gW;refine⟨_,rfl,⟨hT2.nw nJ,hB2.blk.nw nJ⟩,?_⟩
 refine wpAnyH_all (rs:=[8]) (by kernel_rfl) (by simp) (fun j hj=>?_)
 obtain rfl:j=8:=by simpa using hj
 refine aA (v:=.agg #[.slice (some ⟨g,0,none⟩) vars.length cap,.slice (some ⟨ng,0,none⟩) res.1.length iJ,.int .i64 (res.2:Int)]) (w':=w3) rfl (by kernel_rfl) ?_ ⟨⟨hT2.nw nJ,hB2.blk.nw nJ⟩,?_⟩
 ·kernel_rfl
 refine wpAnyH_all (rs:=[9]) (by kernel_rfl) (by simp) (fun j hj=>?_)
 obtain rfl:j=9:=by simpa using hj
 refine aA (v:=.pointer (some ⟨w3.heap.size,0,none⟩)) (w':=w3.alloc (.cells #[.slice (some ⟨g,0,none⟩) vars.length cap,.slice (some ⟨ng,0,none⟩) res.1.length iJ,.int .i64 (res.2:Int)] 125)) rfl (by kernel_rfl) ?_ ⟨⟨(hT2.nw nJ).alloc _,(hB2.blk.nw nJ).alloc _⟩,?_⟩
 ·kernel_rfl
 refine wpAnyH_all (rs:=[10]) (by kernel_rfl) (by simp) (fun j hj=>?_)
 obtain rfl:j=10:=by simpa using hj
 refine aA (v:=.pointer (some ⟨w3.heap.size,0,none⟩)) (w':=w3.alloc (.cells #[.slice (some ⟨g,0,none⟩) vars.length cap,.slice (some ⟨ng,0,none⟩) res.1.length iJ,.int .i64 (res.2:Int)] 125)) rfl (by kernel_rfl) (by kernel_rfl) ⟨⟨(hT2.nw nJ).alloc _,(hB2.blk.nw nJ).alloc _⟩,wpAnyH_done (by kernel_rfl) ?_ _⟩
 simp only[Act.put,bQ,bW,bU,eH,eY,fC];have hF3:Nw w w3:=(hF2.mono (S':=fun _=>False) (fun k h=>.inr (by
  rcases h with h | h | h
  ·omega
  ·omega
  ·have:=hnl k h;omega))).trans nJ (fun i h=>h.elim)
 have AB:yZ (w3.alloc (.cells #[.slice (some ⟨g,0,none⟩) vars.length cap,.slice (some ⟨ng,0,none⟩) res.1.length iJ,.int .i64 (res.2:Int)] 125)) w3.heap.size g cap (.slice (some ⟨ng,0,none⟩) res.1.length iJ) vars res.1 res.2:=
  ⟨af.new _ _ _,hr3.alloc _,ownsRow.fr hB2.row ((nJ).alloc _) (fun _ _ x=>x),hB2.ok,hB2.two⟩
 have HF3:=hd (hF3.alloc (.cells #[.slice (some ⟨g,0,none⟩) vars.length cap,.slice (some ⟨ng,0,none⟩) res.1.length iJ,.int .i64 (res.2:Int)] 125));have SS:=hd AB;have hs2:=hF2.size;have hs3:=nJ.size;have hg3':w2.heap.size<=g:=hg3;clear hF3 AB t0 t1 t2 t3 hK0;simp only[Exit.then]
 go_wp2
 go_ret
 refine⟨w3.heap.size,g,cap,_,rfl,HF3.out,SS.out,by omega,by omega,fun k hk=>?_⟩
 rcases hn2 k hk with h | h
 ·have:=hnl k h;omega
 ·omega
end Go.Proofs.YtkjfpdfkcfgfkaaGreat
namespace Go.Proofs.YtkjfpdfkcfgfkaaGreat
open Go.RowKit Go.Maps Go.Shelf
attribute [local go_sem] Oper.semAt_some
structure CS where
 ns:List (List Nat)
 sp:List Nat
 mv:Nat->Option Nat
 c:Nat
def nodeAt (os:List (List Nat)) (old v:Nat):Nat:=(os.getD old []).getD v 0
def CS.mark (s:CS) (q v r:Nat):CS:=⟨s.ns,if r=0 then s.sp else s.sp.set q (s.sp.getD q 0 ||| 2^v),s.mv,s.c⟩
def gX (f:Nat->CS->CS×Nat) (os:List (List Nat)) (old q:Nat) (st:CS×List Nat) (v:Nat):CS×List Nat:=
 ((f (nodeAt os old v) st.1).1.mark q v (f (nodeAt os old v) st.1).2,st.2.set v (f (nodeAt os old v) st.1).2)
def CS.put (s:CS) (n:List Nat) (old:Nat):CS×Nat:=(⟨(aB s.ns n).1,s.sp,fun k=>if k=old then some (aB s.ns n).2 else s.mv k,s.c+1⟩,(aB s.ns n).2)
def dO (os:List (List Nat)) (vars:List Int) (dn:List Nat):Nat->Nat->Nat->CS->CS×Nat
 | 0,_,old,s=>(s,old)
 | m+1,i,old,s=>if old<2 then (s,old) else match s.mv old with
  | some k=>(s,k)
  | none=>((vals (dn.getD (vars.getD i 0).toNat 0)).foldl (gX (dO os vars dn m (i+1)) os old (vars.getD i 0).toNat) (s,zero6)).1.put
    ((vals (dn.getD (vars.getD i 0).toNat 0)).foldl (gX (dO os vars dn m (i+1)) os old (vars.getD i 0).toNat) (s,zero6)).2 old
def bI (os:List (List Nat)):Nat->Nat->Prop
 | 0,old=>old<2
 | m+1,old=>old=0\/(2<=old/\old<os.length/\∀v,v<6->bI os m (nodeAt os old v))
structure qy (s:CS) (B:Nat):Prop where
 two:2<=s.ns.length
 ns:s.ns.length<=B
 c:s.c<=B
 sp:s.sp.length=8
 sp6:∀q,s.sp.getD q 0<64
 mv:∀k x,s.mv k=some x->x<=B
theorem qy.mono {s:CS} {B B':Nat} (h:qy s B) (hb:B<=B'):qy s B':=⟨h.two,Nat.le_trans h.ns hb,Nat.le_trans h.c hb,h.sp,h.sp6,fun k x hx=>Nat.le_trans (h.mv k x hx) hb⟩
theorem qy.mark {s:CS} {B q v r:Nat} (h:qy s B) (hv:v<6):qy (s.mark q v r) B:=by
 refine⟨h.two,h.ns,h.c,?_,?_,h.mv⟩
 ·unfold CS.mark;dsimp only
  split
  ·exact h.sp
  ·simpa using h.sp
 ·unfold CS.mark;dsimp only
  split
  ·exact h.sp6
  ·exact oh h.sp6 (Nat.or_lt_two_pow (n:=6) (h.sp6 _) (Nat.pow_lt_pow_right (by omega) hv))
theorem qy.put {s:CS} {B:Nat} (h:qy s B) (n:List Nat) (old:Nat):qy (s.put n old).1 (B+1)/\(s.put n old).2<=B:=by
 have hn:=qw s.ns h.two n;have h2:=h.two;have h3:=h.ns;have h4:=h.c;refine⟨⟨by show 2<=(aB s.ns n).1.length;omega,by show (aB s.ns n).1.length<=B+1;omega,by show s.c+1<=B+1;omega,h.sp,h.sp6,fun k x hx=>?_⟩,by show (aB s.ns n).2<=B;omega⟩
 have hx':(if k=old then some (aB s.ns n).2 else s.mv k)=some x:=hx
 split at hx'
 ·have:(aB s.ns n).2=x:=Option.some.inj hx'
  omega
 ·have:=h.mv k x hx'
  omega
theorem E5 (os:List (List Nat)) (q:Nat) (f:Nat->CS->CS×Nat) (old K B:Nat) (s:CS) (h:qy s B) (hf:∀v s' B',v<6->B<=B'->qy s' B'->qy (f (nodeAt os old v) s').1 (B'+K)/\(f (nodeAt os old v) s').2<=B'+K)
  (l:List Nat) (hl:∀v∈l,v<6) (st:CS×List Nat) (hst:l.foldl (gX f os old q) (s,zero6)=st):qy st.1 (B+l.length*K)/\st.2.length=6/\∀x∈st.2,x<=B+l.length*K:=by
 have:=oq (fun (k:Nat) (st:CS×List Nat)=>qy st.1 (B+k*K)/\st.2.length=6/\∀x∈st.2,x<=B+k*K) (gX f os old q) l 0 (s,zero6)
  (fun k st v hv hst=>by
   have h1:=hf v st.1 (B+k*K) (hl v hv) (by omega) hst.1
   have hk:(k+1)*K=k*K+K:=Nat.succ_mul k K;refine⟨?_,?_⟩
   ·have:=h1.1.mark (q:=q) (v:=v) (r:=(f (nodeAt os old v) st.1).2) (hl v hv)
    exact this.mono (by omega)
   ·refine SK ⟨hst.2.1,fun x hx=>?_⟩ v _ (by omega)
    have:=hst.2.2 x hx
    omega) ⟨by simpa using h,rfl,by simp[zero6]⟩
 rw[Nat.zero_add,hst] at this;exact this
theorem pF (os:List (List Nat)) (vars:List Int) (dn:List Nat) (hd:∀q,dn.getD q 0<64):∀(m i old:Nat) (s:CS) (B:Nat),2<=B->bI os m old->qy s B->qy (dO os vars dn m i old s).1 (B+cnt m)/\(dO os vars dn m i old s).2<=B+cnt m
 | 0,i,old,s,B,hB,hl,h=>by
  have hl':old<2:=hl;exact⟨h,by show old<=_;simp[cnt];omega⟩
 | m+1,i,old,s,B,hB,hl,h=>by
  unfold dO;by_cases ho:old<2
  ·rw[if_pos ho];exact⟨h.mono (by omega),by show old<=_;omega⟩
  ·rw[if_neg ho];cases hm:s.mv old with
   | some k=>exact⟨h.mono (by omega),by have:=h.mv old k hm;show k<=_;omega⟩
   | none=>
    dsimp only
    have hl':old<os.length/\∀v,v<6->bI os m (nodeAt os old v):=by
     rcases hl with h1 | h1
     ·exact absurd (by omega) ho
     ·exact h1.2
    obtain⟨st,hst⟩:∃st,(vals (dn.getD (vars.getD i 0).toNat 0)).foldl (gX (dO os vars dn m (i+1)) os old (vars.getD i 0).toNat) (s,zero6)=st:=⟨_,rfl⟩;have key:=E5 os (vars.getD i 0).toNat (dO os vars dn m (i+1)) old (cnt m) B s h (fun v s' B' hv hB' hs'=>pF os vars dn hd m (i+1) (nodeAt os old v) s' B' (by omega) (hl'.2 v hv) hs') _ (fun v hv=>fE (hd _) hv) st hst
    rw[hst];have hlen:=lX (hd (vars.getD i 0).toNat);have hmul:(vals (dn.getD (vars.getD i 0).toNat 0)).length*cnt m<=6*cnt m:=Nat.mul_le_mul_right _ hlen;have hp:=key.1.put st.2 old;have e:cnt (m+1)=6*cnt m+1:=rfl;exact⟨hp.1.mono (by omega),by omega⟩
end Go.Proofs.YtkjfpdfkcfgfkaaGreat
namespace Go.Proofs.YtkjfpdfkcfgfkaaGreat
open Go.RowKit Go.Maps Go.Shelf
attribute [local go_sem] Oper.semAt_some
def aU (b G:Nat) (dn sp:List Nat) (Mv:Nat):Array Value:=(.pointer (some ⟨b,0,none⟩) :: .pointer (some ⟨G,0,none⟩)::(dn.map (fun (x:Nat)=>Value.int .u8 (x:Int))++(sp.map (fun (x:Nat)=>Value.int .u8 (x:Int))++[.map (some Mv)]))).toArray
theorem G8 (b G:Nat) (dn sp:List Nat) (Mv q:Nat) (h8:dn.length=8) (hq:q<8):(aU b G dn sp Mv)[2+q]? = some (.int .u8 (dn.getD q 0:Nat)):=by
 rw[Nat.add_comm];simp[aU,List.getElem?_append_left,h8,hq]
theorem iD (b G:Nat) (dn sp:List Nat) (Mv q:Nat) (h8:dn.length=8) (hs:sp.length=8) (hq:q<8):(aU b G dn sp Mv)[10+q]? = some (.int .u8 (sp.getD q 0:Nat)):=by
 rw[show 10+q=8+q+2 by omega]
 simp only[aU,List.getElem?_toArray,List.getElem?_cons_succ]
 rw[List.getElem?_append_right (by simp;omega),List.getElem?_append_left (by simp;omega)]
 simp[h8,hs,hq]
theorem lY (b G:Nat) (dn sp:List Nat) (Mv:Nat) (h8:dn.length=8) (hs:sp.length=8):(aU b G dn sp Mv)[18]? = some (.map (some Mv)):=by
 simp only[aU,List.getElem?_toArray,List.getElem?_cons_succ]
 rw[List.getElem?_append_right (by simp;omega),List.getElem?_append_right (by simp;omega)]
 simp[h8,hs]
theorem dK (b G:Nat) (dn sp:List Nat) (Mv:Nat) (h8:dn.length=8) (hs:sp.length=8):(aU b G dn sp Mv).size=19:=by simp[aU,h8,hs]
theorem E8 (b G:Nat) (dn sp:List Nat) (Mv q x:Nat) (h8:dn.length=8) (hs:sp.length=8) (hq:q<8):(aU b G dn sp Mv).setIfInBounds (10+q) (.int .u8 (x:Int))=aU b G dn (sp.set q x) Mv:=by
 rw[show 10+q=8+q+2 by omega]
 simp only[aU,bQ,bU,List.map_set];rw[List.set_append_right _ _ (by simp;omega),List.set_append_left _ _ (by simp;omega)]
 simp[h8]
structure iH (w:World) (C b M Mv G:Nat) (nv:Value) (dn:List Nat) (s:CS):Prop where
 blk:af w C (aU b G dn s.sp Mv) 185
 vO:sS w b M nv s.ns
 WT:∃f,bg w 3 Mv s.c f/\∀k:Nat,k<4294967296->f (.int .i64 (k:Int))=s.mv k
 ne:Mv≠M
def FC (C b M Mv:Nat) (nv:Value) (k:Nat):Prop:=k=C\/k=Mv\/FP b M nv k
theorem iH.fr {S:Nat->Prop} {w w':World} {C b M Mv G:Nat} {nv:Value} {dn:List Nat} {s:CS} (h:iH w C b M Mv G nv dn s) (f:Fr S w w') (hn:∀k,FC C b M Mv nv k->¬S k):iH w' C b M Mv G nv dn s:=by
 obtain⟨g,hm,hg⟩:=h.WT;exact⟨h.blk.fr f (hn _ (.inl rfl)),h.vO.fr f (hn _ (.inr (.inr (.inl rfl)))) (hn _ (.inr (.inr (.inr (.inl rfl))))) (fun k hk=>hn _ (.inr (.inr (.inr (.inr hk))))),⟨g,hm.fr f (hn _ (.inr (.inl rfl))),hg⟩,h.ne⟩
theorem iH.nw {w w':World} {C b M Mv G:Nat} {nv:Value} {dn:List Nat} {s:CS} (h:iH w C b M Mv G nv dn s) (f:Nw w w'):iH w' C b M Mv G nv dn s:=h.fr f (fun _ _ x=>x)
theorem iH.drew {w:World} {C b M Mv G:Nat} {nv:Value} {dn:List Nat} {s:CS} (h:iH w C b M Mv G nv dn s):iH w.drew C b M Mv G nv dn s:=h.nw ((Fr.refl _ w).drew)
theorem iH.bk {lo:Nat} {w w':World} {C b M Mv G:Nat} {nv:Value} {dn:List Nat} {s:CS} (h:iH w C b M Mv G nv dn s) (hb:Bk lo w w') (h1:M<lo) (h2:Mv<lo):iH w' C b M Mv G nv dn s:=by
 obtain⟨g,hm,hg⟩:=h.WT;exact⟨h.blk.bk hb,h.vO.bk hb h1,⟨g,hm.bk hb h2,hg⟩,h.ne⟩
theorem iH.lt {w:World} {C b M Mv G:Nat} {nv:Value} {dn:List Nat} {s:CS} (h:iH w C b M Mv G nv dn s) {k:Nat} (hk:FC C b M Mv nv k):k<w.heap.size:=by
 rcases hk with rfl | rfl | hk
 ·exact h.blk.lt
 ·obtain⟨f,hm,_⟩:=h.WT;exact hm.lt
 ·exact h.vO.lt hk
theorem iH.other {w:World} {C b M Mv G:Nat} {nv:Value} {dn:List Nat} {s:CS} (h:iH w C b M Mv G nv dn s) {k:Nat} {cur:Array Value} {e:TypeId} (hb:af w k cur e) (h1:e≠123) (h2:e≠151) (h3:e≠185):¬FC C b M Mv nv k:=by
 rintro(rfl | rfl | hk)
 ·exact h3 (hb.inj h.blk).2
 ·obtain⟨f,hm,_⟩:=h.WT;exact hm.ne hb rfl
 ·exact h.vO.other hb h1 h2 hk
theorem iH.kV {w:World} {C b M Mv G:Nat} {nv:Value} {dn:List Nat} {s:CS} (h:iH w C b M Mv G nv dn s):∀k,FC C b M Mv nv k->∃o,w.heap[k]? = some o/\kV o=false:=by
 rintro k (rfl | rfl | hk)
 ·exact⟨_,h.blk,rfl⟩
 ·obtain⟨f,hm,_⟩:=h.WT;exact hm.map
 ·exact h.vO.kV k hk
structure nK (A:World) (T C old i:Nat):Prop where
 b0:af A T #[.pointer (some ⟨C,0,none⟩)] 188
 b1:af A (T+1) #[.int .i64 (old:Int)] 3
 b2:af A (T+1+1) #[.int .i64 (i:Int)] 3
theorem nK.fr {S:Nat->Prop} {A B:World} {T C old i:Nat} (h:nK A T C old i) (f:Fr S A B) (hn:∀k,T<=k->k<=T+2->¬S k):nK B T C old i:=
 ⟨h.b0.fr f (hn _ (by omega) (by omega)),h.b1.fr f (hn _ (by omega) (by omega)),h.b2.fr f (hn _ (by omega) (by omega))⟩
theorem nK.bk {lo:Nat} {A B:World} {T C old i:Nat} (h:nK A T C old i) (hb:Bk lo A B):nK B T C old i:=⟨h.b0.bk hb,h.b1.bk hb,h.b2.bk hb⟩
def AU (w:World) (C old i:Nat):World:=((w.alloc (.cells #[.pointer (some ⟨C,0,none⟩)] 188)).alloc (.cells #[.int .i64 (old:Int)] 3)).alloc (.cells #[.int .i64 (i:Int)] 3)
theorem yt (w:World) (C old i:Nat):Nw w (AU w C old i):=(((Fr.refl _ w).alloc _).alloc _).alloc _
theorem AV (w:World) (C old i:Nat):nK (AU w C old i) w.heap.size C old i:=by
 refine⟨((af.new w _ _).alloc _).alloc _,?_,?_⟩
 ·have:=(af.new (w.alloc (.cells #[.pointer (some ⟨C,0,none⟩)] 188)) #[.int .i64 (old:Int)] 3).alloc (.cells #[.int .i64 (i:Int)] 3)
  simp only[tY] at this;exact this
 ·have:=af.new ((w.alloc (.cells #[.pointer (some ⟨C,0,none⟩)] 188)).alloc (.cells #[.int .i64 (old:Int)] 3)) #[.int .i64 (i:Int)] 3
  simp only[tY] at this;exact this
set_option maxRecDepth 1000000 in
theorem cut_small (C old i:Nat) (w:World) (ho:old<2):
  Calls Tryz.prog 121 #[.pointer (some ⟨C,0,none⟩),.int .i64 old,.int .i64 i] w fun e w'=>e= .returned (.int .i64 old)/\Nw w w':=by
 have hlt:(old:Int)<2:=by omega
 go_enter Tryz.func121,Tryz.ntmps121
 go_wp2
 go_ret
 exact⟨rfl,yt w C old i⟩
theorem zZ (k:Nat) (h:k<4294967296):keyOf Tryz.prog 3 (.int .i64 (k:Int))=some (.int .i64 (k:Int)):=keyOf_int_mk Tryz.underlying3 (wf64 k h)
set_option maxRecDepth 1000000 in
theorem Ph (C b M Mv G:Nat) (nv:Value) (dn:List Nat) (s:CS) (old i k:Nat) (w:World) (h8:dn.length=8) (hC:iH w C b M Mv G nv dn s) (hs8:s.sp.length=8) (ho:¬old<2) (KD:old<4294967296) (hk:s.mv old=some k):
  Calls Tryz.prog 121 #[.pointer (some ⟨C,0,none⟩),.int .i64 old,.int .i64 i] w fun e w'=>e= .returned (.int .i64 k)/\Nw w w':=by
 have hlt:¬(old:Int)<2:=by omega
 obtain⟨W,hW⟩:∃W,W=AU w C old i:=⟨_,rfl⟩;have dM:Nw w W:=by rw[hW];exact yt ..
 have hbx:nK W w.heap.size C old i:=by rw[hW];exact AV ..
 have hCW:=hC.nw dM;obtain⟨f,hm,hf⟩:=hCW.WT;have hl:=bg.look_ok (w:=W.drew) (t:=183) hm vZ Tryz.underlying183 (zZ old KD);rw[hf old KD,hk] at hl;have a0:W.cell? ⟨w.heap.size,0,none⟩=some (.pointer (some ⟨C,0,none⟩)):=hbx.b0.cell 0
 have a1:W.cell? ⟨w.heap.size+1,0,none⟩=some (.int .i64 (old:Int)):=hbx.b1.cell 0
 have a2:W.cell? ⟨C,18,none⟩=some (.map (some Mv)):=(hCW.blk.cell 18).trans (lY _ _ _ _ _ h8 hs8)
 have HW:=hd hW;clear hW hbx hC hCW hm hf;go_enter Tryz.func121,Tryz.ntmps121
 go_upto_region 1 with fail
 rw[show ((w.alloc (.cells #[.pointer (some ⟨C,0,none⟩)] 188)).alloc (.cells #[.int .i64 (old:Int)] 3)).alloc (.cells #[.int .i64 (i:Int)] 3)=W from HW.out.symm]
 go_upto_region 3 with fail
 go_still (by kernel_rfl)
 go_wp2
 go_ret
 exact⟨rfl,dM.drew⟩
end Go.Proofs.YtkjfpdfkcfgfkaaGreat
namespace Go.Proofs.YtkjfpdfkcfgfkaaGreat
open Go.RowKit Go.Maps Go.Shelf
attribute [local go_sem] Oper.semAt_some
theorem yu:∀(os:List (List Nat)),(∀n∈os,jP n)->∀old v,old<os.length->v<6->(os.flatMap aT)[old*6+v]? = some (.int .i64 (nodeAt os old v:Nat))
 | [],_,old,v,h,_=>by simp at h
 | n::os,hok,0,v,_,hv=>by
  have h6:=(hok n (by simp)).1
  rw[List.flatMap_cons,List.getElem?_append_left (by simp[aT,h6];omega)]
  simp[aT,nodeAt,h6,hv]
 | n::os,hok,old+1,v,h,hv=>by
  have h6:=(hok n (by simp)).1
  rw[List.flatMap_cons,List.getElem?_append_right (by simp[aT,h6];omega)]
  have ih:=yu os (fun x hx=>hok x (List.mem_cons_of_mem _ hx)) old v (by simpa using h) hv
  rw[show (old+1)*6+v-(aT n).length=old*6+v by simp[aT,h6];omega,ih]
  simp[nodeAt]
theorem yZ.node {w:World} {G g cap:Nat} {sU:Value} {vars:List Int} {os:List (List Nat)} {root:Nat} (h:yZ w G g cap sU vars os root):
  ∃og kR,sU= .slice (some ⟨og,0,none⟩) os.length kR/\og<w.heap.size/\∀old v,old<os.length->v<6->w.cell? ⟨og,old*6+v,none⟩=some (.int .i64 (nodeAt os old v:Nat)):=by
 rcases h.row.2 with ⟨_,h0⟩ | ⟨og,kR,cur,rfl,_,hg,hn,_,hsz,ht⟩
 ·have:=h.two;omega
 ·refine⟨og,kR,rfl,lt_of_block hg,fun old v ho hv=>?_⟩
  have h1:=af.cell (show af w og cur 151 from hg) (old*6+v)
  rw[h1];have h2:=yu os h.ok old v ho hv;rw[<-ht,List.getElem?_take_of_lt (by omega)] at h2
  simpa using h2
theorem yZ.fr {S:Nat->Prop} {w w':World} {G g cap:Nat} {sU:Value} {vars:List Int} {os:List (List Nat)} {root:Nat} (h:yZ w G g cap sU vars os root) (f:Fr S w w') (hn:∀k,(k=G\/k=g\/sU.ownBlock=some k)->¬S k):yZ w' G g cap sU vars os root:=
 ⟨h.blk.fr f (hn _ (.inl rfl)),h.rv.fr f (fun k hk=>hn k (.inr (.inl (by cases hk;rfl)))),ownsRow.fr h.row f (fun k hk=>hn k (.inr (.inr hk))),h.ok,h.two⟩
theorem yZ.nw {w w':World} {G g cap:Nat} {sU:Value} {vars:List Int} {os:List (List Nat)} {root:Nat} (h:yZ w G g cap sU vars os root) (f:Nw w w'):yZ w' G g cap sU vars os root:=h.fr f (fun _ _ x=>x)
theorem yZ.lt {w:World} {G g cap:Nat} {sU:Value} {vars:List Int} {os:List (List Nat)} {root:Nat} (h:yZ w G g cap sU vars os root) {k:Nat} (hk:k=G\/k=g\/sU.ownBlock=some k):k<w.heap.size:=by
 rcases hk with rfl | rfl | hk
 ·exact h.blk.lt
 ·exact h.rv.lt rfl
 ·exact(World.ownsRow.lt h.row k hk).2
def YA (C b M Mv G g cap:Nat) (sU:Value) (vars:List Int) (os:List (List Nat)) (root:Nat) (dn:List Nat) (m i:Nat):Prop:=∀(old:Nat) (s:CS) (nv:Value) (B:Nat) (w:World),
 2<=B->B+cnt m<=100000->qy s B->bI os m old->iH w C b M Mv G nv dn s->yZ w G g cap sU vars os root->(∀k,(k=G\/k=g\/sU.ownBlock=some k)->¬FC C b M Mv nv k) ->
 Calls Tryz.prog 121 #[.pointer (some ⟨C,0,none⟩),.int .i64 old,.int .i64 i] w fun e w'=>e= .returned (.int .i64 ((dO os vars dn m i old s).2:Nat)) /\
  ∃uy,iH w' C b M Mv G uy dn (dO os vars dn m i old s).1/\Fr (FC C b M Mv nv) w w'/\(∀k,uy.ownBlock=some k->nv.ownBlock=some k\/w.heap.size<=k)
structure Di (w wr:World) (C b M Mv G:Nat) (nv:Value) (dn:List Nat) (old i Nn V q:Nat) (st:CS×List Nat):Prop where
 fr:Fr (FC C b M Mv nv) w wr
 bx:nK wr w.heap.size C old i
 bN:af wr Nn (aT st.2).toArray 151
 bV:af wr V #[.int .i64 (q:Int)] 3
 cut:∃kE,iH wr C b M Mv G kE dn st.1/\(∀k,kE.ownBlock=some k->nv.ownBlock=some k\/w.heap.size<=k)/\kE.ownBlock≠some Nn
theorem Di.bk {w wr wx:World} {C b M Mv G lo:Nat} {nv:Value} {dn:List Nat} {old i Nn V q:Nat} {st:CS×List Nat} (h:Di w wr C b M Mv G nv dn old i Nn V q st) (hb:Bk lo wr wx) (hl:w.heap.size<=lo) (h1:M<lo) (h2:Mv<lo):Di w wx C b M Mv G nv dn old i Nn V q st:=by
 obtain⟨kE,h3,h4,h5⟩:=h.cut;exact⟨h.fr.bk hb hl,h.bx.bk hb,h.bN.bk hb,h.bV.bk hb,⟨kE,h3.bk hb h1 h2,h4,h5⟩⟩
theorem Di.drew {w wr:World} {C b M Mv G:Nat} {nv:Value} {dn:List Nat} {old i Nn V q:Nat} {st:CS×List Nat} (h:Di w wr C b M Mv G nv dn old i Nn V q st):Di w wr.drew C b M Mv G nv dn old i Nn V q st:=by
 obtain⟨kE,h3,h4,h5⟩:=h.cut;exact⟨h.fr.drew,⟨h.bx.b0,h.bx.b1,h.bx.b2⟩,h.bN,h.bV,⟨kE,h3.drew,h4,h5⟩⟩
set_option maxRecDepth 1000000 in
theorem Zy (C b M Mv G g cap:Nat) (sU:Value) (vars:List Int) (os:List (List Nat)) (root:Nat) (dn:List Nat) (m i:Nat) (h8:dn.length=8) (h4:vars.length<=4) (hv:∀i,i<vars.length->0<=vars.getD i 0/\vars.getD i 0<8)
  (aX:∀q,dn.getD q 0<64) (hol:os.length<=100000) (hi:i<vars.length) (ih:YA C b M Mv G g cap sU vars os root dn m (i+1)) (old:Nat) (s:CS) (nv:Value) (B:Nat) (w:World)
  (hB2:2<=B) (hcnt:B+cnt (m+1)<=100000) (hs:qy s B) (ho2:¬old<2) (hmv:s.mv old=none) (kS:old<os.length/\∀v,v<6->bI os m (nodeAt os old v)) (hC:iH w C b M Mv G nv dn s) (hD:yZ w G g cap sU vars os root) (hdis:∀k,(k=G\/k=g\/sU.ownBlock=some k)->¬FC C b M Mv nv k):
  Calls Tryz.prog 121 #[.pointer (some ⟨C,0,none⟩),.int .i64 old,.int .i64 i] w fun e w'=>e= .returned (.int .i64 ((dO os vars dn (m+1) i old s).2:Nat)) /\
   ∃uy,iH w' C b M Mv G uy dn (dO os vars dn (m+1) i old s).1/\Fr (FC C b M Mv nv) w w'/\(∀k,uy.ownBlock=some k->nv.ownBlock=some k\/w.heap.size<=k):=by
 have hmf:∀(fn:Fn) (first cap:Array Value) (w:World),(Instr.makeFunc fn first cap).run Tryz.prog w= .ok (.func fn first cap) w:=fun _ _ _ _=>rfl
 have hlt:¬(old:Int)<2:=by omega
 have KD:old<4294967296:=by omega
 obtain⟨hv0,jv⟩:=hv i hi;obtain⟨q,hq⟩:∃q:Nat,vars.getD i 0=(q:Int):=⟨(vars.getD i 0).toNat,by omega⟩
 rw[hq] at hv0 jv;have hq8:q<8:=by omega
 obtain⟨og,kR,hon,WU,hoc⟩:=hD.node;subst hon;obtain⟨sx,mM⟩:∃sx,dn.getD q 0=sx:=⟨_,rfl⟩;have hsx:=aX q;rw[mM] at hsx;obtain⟨fin,hfin⟩:∃fin,(vals sx).foldl (gX (dO os vars dn m (i+1)) os old q) (s,zero6)=fin:=⟨_,rfl⟩;have hct:dO os vars dn (m+1) i old s=fin.1.put fin.2 old:=by
  rw[dO,if_neg ho2,hmv,hq,Int.toNat_natCast,mM,hfin]
 rw[hct];have xR:w.cell? ⟨g,i,none⟩=some (.int .i64 (q:Int)):=by
  have h1:=(hD.rv.at_ i (by simpa using hi)).1
  simp only[List.getElem_map] at h1;rw[h1,<-hq];simp[hi]
 have hiV:(i:Int)<(vars.length:Int):=by omega
 obtain⟨W,hW⟩:∃W,W=AU w C old i:=⟨_,rfl⟩;have dM:Nw w W:=by rw[hW];exact yt ..
 have hbx:nK W w.heap.size C old i:=by rw[hW];exact AV ..
 have hsW:W.heap.size=w.heap.size+3:=by rw[hW];simp[AU]
 have hCW:=hC.nw dM;obtain⟨f,hm,hf⟩:=hCW.WT;have hl:=bg.look_ok (w:=W.drew) (t:=183) hm vZ Tryz.underlying183 (zZ old KD);rw[hf old KD,hmv] at hl;have a0:W.cell? ⟨w.heap.size,0,none⟩=some (.pointer (some ⟨C,0,none⟩)):=hbx.b0.cell 0
 have a1:W.cell? ⟨w.heap.size+1,0,none⟩=some (.int .i64 (old:Int)):=hbx.b1.cell 0
 have a2:W.cell? ⟨C,18,none⟩=some (.map (some Mv)):=(hCW.blk.cell 18).trans (lY _ _ _ _ _ h8 hs.sp)
 have HW:=hd hW;have DU:=hd hbx;have uq:=hd hsW;have HC:=hd hC;have HD:=hd hD;have Fa:=hd hdis;have fQ:=hd hfin;have Ku:=hd mM;have Hq:=hd hq;have JV:=hd ih;have Hs:=hd hs;have Pj:=hd kS;have Hoc:=hd hoc;have C9:=hd hmv;clear hW hbx hsW hC hD hdis hfin mM hq ih hs kS hoc hmv hCW hm hf hct;refine(callsIn_wide (n:=9)).1 ?_
 refine callsIn_of_wp_marks Tryz.func121 rfl trivial ?_ rfl
 simp only[Tryz.ntmps121,List.size_toArray,List.length_cons,List.length_nil,Nat.reduceAdd,Nat.reduceSub,Array.replicate_succ,Array.replicate_zero,List.push_toArray,List.append_toArray,List.nil_append,List.cons_append];gi_upto_region 1 with fail
 rw[show ((w.alloc (.cells #[.pointer (some ⟨C,0,none⟩)] 188)).alloc (.cells #[.int .i64 (old:Int)] 3)).alloc (.cells #[.int .i64 (i:Int)] 3)=W from HW.out.symm]
 clear HW;gi_upto_region 3 with fail
 refine wpIn_wide.2 ?_
 go_still (by kernel_rfl)
 go_wp2
 gi_upto_region 7 with fail
 obtain⟨U,hU⟩:∃U,U=(W.alloc (.cells (aT zero6).toArray 151)).drew:=⟨_,rfl⟩;have iR:Nw W U:=by rw[hU];exact((Fr.refl _ W).alloc _).drew
 have xO:af U W.heap.size (aT zero6).toArray 151:=by rw[hU];exact(af.new _ _ _).drew
 have Yu:U.heap.size=W.heap.size+1:=by rw[hU];exact tY _ _
 rw[show (W.alloc (Obj.cells #[Value.int .i64 0,.int .i64 0,.int .i64 0,.int .i64 0,.int .i64 0,.int .i64 0] 151)).drew=U from hU.symm]
 have Yw:=hd Yu;clear Yu hU;have hwU:Nw w U:=dM.trans iR (fun i h=>h.elim)
 have hCU:=HC.out.nw hwU;have hDU:=HD.out.nw hwU;have Kv:U.cell? ⟨g,i,none⟩=some (.int .i64 (q:Int)):=(hwU.cell (HD.out.lt (.inr (.inl rfl))) (fun x=>x)).trans xR
 have hK0:nK U.drew w.heap.size C old i/\U.drew.cell? ⟨C,1,none⟩=some (.pointer (some ⟨G,0,none⟩))/\U.drew.cell? ⟨G,0,none⟩=some (.slice (some ⟨g,0,none⟩) vars.length cap)/\U.drew.cell? ⟨g,i,none⟩=some (.int .i64 (q:Int)):=
  ⟨⟨(DU.out.b0.nw iR).drew,(DU.out.b1.nw iR).drew,(DU.out.b2.nw iR).drew⟩,hCU.blk.cell 1,hDU.blk.cell 0,Kv⟩
 have HCU:=hd hCU;have HDU:=hd hDU;clear hCU hDU;refine wpIn_wide.2 ?_
 refine wp_region_noPanic ?_
 refine wp_region_held (S:=fun w''=>nK w'' w.heap.size C old i/\w''.cell? ⟨C,1,none⟩=some (.pointer (some ⟨G,0,none⟩))/\w''.cell? ⟨G,0,none⟩=some (.slice (some ⟨g,0,none⟩) vars.length cap)/\w''.cell? ⟨g,i,none⟩=some (.int .i64 (q:Int))) (by kernel_rfl) ?_
 refine wpAnyH_take (i:=0) (v:=.pointer (some ⟨C,0,none⟩)) rfl (by kernel_rfl) (by kernel_rfl) (by kernel_rfl) (fun _ _ _ h=>h) (.inl ⟨by kernel_rfl,fun w'' hS=>?_⟩) hK0 ?_
 ·have q0:w''.cell? ⟨w.heap.size,0,none⟩=some (.pointer (some ⟨C,0,none⟩)):=hS.1.b0.cell 0
  clear hK0 hS hv aX hcnt hmf a0 a1 a2 hl hlt hv0 jv xR Kv iR xO;simp only[eH,eY];go_simp
 refine wpAnyH_take (i:=1) (v:=.pointer (some ⟨C,0,none⟩)) rfl (by kernel_rfl) (by kernel_rfl) (by kernel_rfl) (fun _ _ _ h=>h) (.inl ⟨by kernel_rfl,fun w'' hS=>by kernel_rfl⟩) hK0 ?_
 refine wpAnyH_take (i:=2) (v:=.pointer (some ⟨C,1,none⟩)) rfl (by kernel_rfl) (by kernel_rfl) (by kernel_rfl) (fun _ _ _ h=>h) (.inl ⟨by kernel_rfl,fun w'' hS=>by kernel_rfl⟩) hK0 ?_
 refine wpAnyH_take (i:=3) (v:=.pointer (some ⟨G,0,none⟩)) rfl (by kernel_rfl) (by kernel_rfl) (by kernel_rfl) (fun _ _ _ h=>h) (.inl ⟨by kernel_rfl,fun w'' hS=>?_⟩) hK0 ?_
 ·have q0:=hS.2.1;clear hK0 hS hv aX hcnt hmf a0 a1 a2 hl hlt hv0 jv xR Kv iR xO;simp only[Act.put,bQ,bW,bU,eH,eY,fC];go_simp
 refine wpAnyH_take (i:=4) (v:=.pointer (some ⟨G,0,none⟩)) rfl (by kernel_rfl) (by kernel_rfl) (by kernel_rfl) (fun _ _ _ h=>h) (.inl ⟨by kernel_rfl,fun w'' hS=>by kernel_rfl⟩) hK0 ?_
 refine wpAnyH_take (i:=5) (v:=.pointer (some ⟨G,0,none⟩)) rfl (by kernel_rfl) (by kernel_rfl) (by kernel_rfl) (fun _ _ _ h=>h) (.inl ⟨by kernel_rfl,fun w'' hS=>by kernel_rfl⟩) hK0 ?_
 refine wpAnyH_take (i:=6) (v:=.pointer (some ⟨G,0,none⟩)) rfl (by kernel_rfl) (by kernel_rfl) (by kernel_rfl) (fun _ _ _ h=>h) (.inl ⟨by kernel_rfl,fun w'' hS=>by kernel_rfl⟩) hK0 ?_
 refine wpAnyH_take (i:=7) (v:=.slice (some ⟨g,0,none⟩) vars.length cap) rfl (by kernel_rfl) (by kernel_rfl) (by kernel_rfl) (fun _ _ _ h=>h) (.inl ⟨by kernel_rfl,fun w'' hS=>?_⟩) hK0 ?_
 ·have q0:=hS.2.2.1;clear hK0 hS hv aX hcnt hmf a0 a1 a2 hl hlt hv0 jv xR Kv iR xO;simp only[Act.put,bQ,bW,bU,eH,eY,fC];go_simp
 refine wpAnyH_take (i:=8) (v:=.int .i64 (i:Int)) rfl (by kernel_rfl) (by kernel_rfl) (by kernel_rfl) (fun _ _ _ h=>h) (.inl ⟨by kernel_rfl,fun w'' hS=>?_⟩) hK0 ?_
 ·have q0:w''.cell? ⟨w.heap.size+1+1,0,none⟩=some (.int .i64 (i:Int)):=hS.1.b2.cell 0
  clear hK0 hS hv aX hcnt hmf a0 a1 a2 hl hlt hv0 jv xR Kv iR xO;simp only[Act.put,bQ,bW,bU,eH,eY,fC];go_simp
 refine wpAnyH_take (i:=9) (v:=.pointer (some ⟨g,i,none⟩)) rfl (by kernel_rfl) (by kernel_rfl) (by kernel_rfl) (fun _ _ _ h=>h) (.inl ⟨by kernel_rfl,fun w'' hS=>?_⟩) hK0 ?_
 ·clear hK0 hS hv aX hcnt hmf a0 a1 a2 hl hlt hv0 jv xR Kv iR xO;simp only[Act.put,bQ,bW,bU,eH,eY,fC];go_simp
 refine wpAnyH_take (i:=10) (v:=.int .i64 (q:Int)) rfl (by kernel_rfl) (by kernel_rfl) (by kernel_rfl) (fun _ _ _ h=>h) (.inl ⟨by kernel_rfl,fun w'' hS=>?_⟩) hK0 ?_
 ·have q0:=hS.2.2.2;clear hK0 hS hv aX hcnt hmf a0 a1 a2 hl hlt hv0 jv xR Kv iR xO;simp only[Act.put,bQ,bW,bU,eH,eY,fC];go_simp
 obtain⟨Y,hY⟩:∃Y,Y=U.drew.alloc (.cells #[.int .i64 0] 3):=⟨_,rfl⟩;have rG:Nw U Y:=by rw[hY];exact((Fr.refl _ U).drew).alloc _
 have zW:af Y U.heap.size #[.int .i64 0] 3:=by rw[hY];exact af.new _ _ _
 have SV:∀X,Nw U X->nK X w.heap.size C old i/\X.cell? ⟨C,1,none⟩=some (.pointer (some ⟨G,0,none⟩))/\X.cell? ⟨G,0,none⟩=some (.slice (some ⟨g,0,none⟩) vars.length cap)/\X.cell? ⟨g,i,none⟩=some (.int .i64 (q:Int)):=fun X hX=>
  ⟨⟨(DU.out.b0.nw iR).nw hX,(DU.out.b1.nw iR).nw hX,(DU.out.b2.nw iR).nw hX⟩,(HCU.out.nw hX).blk.cell 1,(HDU.out.nw hX).blk.cell 0,(hX.cell (HDU.out.lt (.inr (.inl rfl))) (fun x=>x)).trans Kv⟩
 refine wpAnyH_all (rs:=[11]) (by kernel_rfl) (by simp) (fun j hj=>?_)
 obtain rfl:j=11:=by simpa using hj
 refine aA (v:=.pointer (some ⟨U.heap.size,0,none⟩)) (w':=Y) rfl (by kernel_rfl) ?_ ⟨SV Y rG,?_⟩
 ·rw[hY];kernel_rfl
 clear hY;have cY:Y.cell? ⟨U.heap.size,0,none⟩=some (.int .i64 0):=zW.cell 0
 have fY:=zW.free 0;obtain⟨Z,hZ⟩:∃Z,Z=Y.setCell ⟨U.heap.size,0,none⟩ (.int .i64 (q:Int)):=⟨_,rfl⟩;have qm:Nw U Z:=by rw[hZ];exact rG.setCell _ _ (.inr (Nat.le_refl _))
 have uw:af Z U.heap.size #[.int .i64 (q:Int)] 3:=by rw[hZ];exact zW.set 0 _
 refine wpAnyH_all (rs:=[12]) (by kernel_rfl) (by simp) (fun j hj=>?_)
 obtain rfl:j=12:=by simpa using hj
 refine dw (w':=Z) rfl (by kernel_rfl) ?_ ⟨SV Z qm,wpAnyH_done (by kernel_rfl) (NoPanic.normal ?_) _⟩
 ·rw[hZ];clear hK0 hv aX hcnt hmf a0 a1 a2 hl hlt hv0 jv xR Kv iR xO hZ qm uw SV rG zW;simp only[Act.put,bQ,bW,bU,eH,eY,fC];go_simp
 simp only[Act.put,bQ,bW,bU,eH,eY,fC];have G6:Nw w Z:=hwU.trans qm (fun i h=>h.elim)
 have Gt:M<w.heap.size:=HC.out.lt (.inr (.inr (.inr (.inl rfl))));have WV:Mv<w.heap.size:=HC.out.lt (.inr (.inl rfl));have hsZ:=uw.lt;have hWs:=uq.out;have hUs:=Yw.out;have hI0:Di w Z C b M Mv G nv dn old i W.heap.size U.heap.size q (s,zero6):=
  ⟨G6.mono (fun i h=>h.elim),(SV Z qm).1,xO.nw qm,uw,⟨nv,HC.out.nw G6,fun k hk=>.inl hk,fun e=>by have:=HC.out.lt (.inr (.inr (.inr (.inr e))));omega⟩⟩
 have aC:Z.cell? ⟨w.heap.size,0,none⟩=some (.pointer (some ⟨C,0,none⟩)):=hI0.bx.b0.cell 0
 have aV:Z.cell? ⟨U.heap.size,0,none⟩=some (.int .i64 (q:Int)):=hI0.bV.cell 0
 have aD:Z.cell? ⟨C,2+q,none⟩=some (.int .u8 (sx:Int)):=by rw[<-Ku.out];exact((HC.out.nw G6).blk.cell _).trans (G8 _ _ _ _ _ _ h8 hq8)
 have HI0:=hd hI0;clear hZ qm uw cY fY zW rG SV hK0 Kv a0 a1 a2 hl hI0 hWs hUs;simp only[Exit.then]
 gi_upto_region 8 with fail
 refine wpIn_wide.2 ?_
 go_still (by kernel_rfl)
 go_wp2
 gi_wp2_with fail
 show Code.wpIn _ _ _ _ _ _ Z.drew
 have wu:Z.drew.heap.size=Z.heap.size:=rfl;have Sv:w.heap.size+5<=Z.heap.size:=by have:=uq.out;have:=Yw.out;omega
 refine pX (show sx<256 by omega) rfl (by simp) (fun pre A=>Di w A C b M Mv G nv dn old i W.heap.size U.heap.size q (pre.foldl (gX (dO os vars dn m (i+1)) os old q) (s,zero6)))
  (fun pre A B h hb=>h.bk hb (by rw[wu];omega) (by rw[wu];omega) (by rw[wu];omega)) HI0.out.drew ?body ?done
 case body=>
  rintro l pre v A hpre hI
  have hmem:v∈vals sx:=hpre.subset (List.mem_append_right pre (List.mem_singleton.2 rfl));have hv6:v<6:=fE hsx hmem;have hpm:∀x∈pre,x<6:=fun x hx=>fE hsx (hpre.subset (List.mem_append_left _ hx))
  have gz:pre.length+1<=6:=by
   have h1:=hpre.length_le;have h2:=lX hsx;simp at h1
   omega
  obtain⟨st,hst⟩:∃st,pre.foldl (gX (dO os vars dn m (i+1)) os old q) (s,zero6)=st:=⟨_,rfl⟩;rw[hst] at hI;have hstep:(pre++[v]).foldl (gX (dO os vars dn m (i+1)) os old q) (s,zero6)=gX (dO os vars dn m (i+1)) os old q st v:=by rw[List.foldl_append,hst];rfl
  rw[hstep];obtain⟨hcs,hs6,jY⟩:=E5 os q (dO os vars dn m (i+1)) old (cnt m) B s Hs.out (fun v s' B' hv hB' hs'=>pF os vars dn aX m (i+1) (nodeAt os old v) s' B' (by omega) (Pj.out.2 v hv) hs') pre hpm st hst
  have hpc:B+pre.length*cnt m+cnt m<=100000:=by
   have h1:pre.length*cnt m<=5*cnt m:=Nat.mul_le_mul_right _ (by omega)
   have e:cnt (m+1)=6*cnt m+1:=rfl;omega
  obtain⟨kE,Pm,hnk,mD⟩:=hI.cut;obtain⟨x,hx⟩:∃x,nodeAt os old v=x:=⟨_,rfl⟩;obtain⟨r,hre⟩:∃r,dO os vars dn m (i+1) x st.1=r:=⟨_,rfl⟩;have hlx:bI os m x:=by rw[<-hx];exact Pj.out.2 v hv6
  have qp:=pF os vars dn aX m (i+1) x st.1 (B+pre.length*cnt m) (by omega) hlx hcs
  rw[hre] at qp;obtain⟨st',hst'⟩:∃st',gX (dO os vars dn m (i+1)) os old q st v=st':=⟨_,rfl⟩;have hst2:st'=(r.1.mark q v r.2,st.2.set v r.2):=by rw[<-hst'];unfold gX;rw[hx,hre]
  rw[hst'];have O8:=hd hst2;clear hst hstep hst' hst2 hpre hmem aC aV aD HI0 hpm;have mX:∀k,(k=G\/k=g\/(Value.slice (some ⟨og,0,none⟩) os.length kR).ownBlock=some k)->¬FC C b M Mv kE k:=fun k hk hF=>by
   have hkl:=HD.out.lt hk;rcases hF with h | h | h | h | h
   ·exact Fa.out k hk (.inl h)
   ·exact Fa.out k hk (.inr (.inl h))
   ·exact Fa.out k hk (.inr (.inr (.inl h)))
   ·exact Fa.out k hk (.inr (.inr (.inr (.inl h))))
   ·rcases hnk k h with h1 | h1
    ·exact Fa.out k hk (.inr (.inr (.inr (.inr h1))))
    ·omega
  have AB:yZ A G g cap (.slice (some ⟨og,0,none⟩) os.length kR) vars os root:=HD.out.fr hI.fr Fa.out;have hxA:A.cell? ⟨og,old*6+v,none⟩=some (.int .i64 (x:Int)):=by
   rw[<-hx];exact(hI.fr.cell WU (Fa.out og (.inr (.inr rfl)))).trans (Hoc.out old v Pj.out.1 hv6)
  have hK0:nK A.drew w.heap.size C old i/\A.drew.cell? ⟨C,1,none⟩=some (.pointer (some ⟨G,0,none⟩))/\A.drew.cell? ⟨G,1,none⟩=some (.slice (some ⟨og,0,none⟩) os.length kR)/\A.drew.cell? ⟨og,old*6+v,none⟩=some (.int .i64 (x:Int)):=⟨⟨hI.bx.b0,hI.bx.b1,hI.bx.b2⟩,Pm.blk.cell 1,AB.blk.cell 1,hxA⟩
  have HI:=hd hI;have JW:=hd Pm;have Zt:=hd hre;have Hx:=hd hx;have SS:=hd AB;have HxA:=hd hxA;have agH:(old:Int)<(os.length:Int):=by have:=Pj.out.1;omega
  have agI:(0:Int)<=(old:Int):=by omega
  have hv0':(0:Int)<=(v:Int):=by omega
  have RP:(v:Int)<6:=by omega
  clear hI Pm hre hx AB hxA;gi_wp2_with fail
  refine EW (S:=fun w''=>nK w'' w.heap.size C old i/\w''.cell? ⟨C,1,none⟩=some (.pointer (some ⟨G,0,none⟩))/\w''.cell? ⟨G,1,none⟩=some (.slice (some ⟨og,0,none⟩) os.length kR)/\w''.cell? ⟨og,old*6+v,none⟩=some (.int .i64 (x:Int))) (by kernel_rfl) (fun a w h=>h) ?_
  refine wpAnyH_take (i:=0) (v:=.int .i64 (v:Int)) rfl (by kernel_rfl) (by kernel_rfl) (by kernel_rfl) (fun _ _ _ h=>h) (.inl ⟨by kernel_rfl,fun w'' hS=>by kernel_rfl⟩) hK0 ?_
  refine wpAnyH_take (i:=1) (v:=.pointer (some ⟨C,0,none⟩)) rfl (by kernel_rfl) (by kernel_rfl) (by kernel_rfl) (fun _ _ _ h=>h) (.inl ⟨by kernel_rfl,fun w'' hS=>?_⟩) hK0 ?_
  ·have q0:w''.cell? ⟨w.heap.size,0,none⟩=some (.pointer (some ⟨C,0,none⟩)):=hS.1.b0.cell 0
   clear hK0 hS hv aX hcnt hmf hlt hv0 jv xR iR xO hnk mD gz hcs hs6 jY qp mX;simp only[Act.put,bQ,bW,bU,eH,eY,fC];go_simp
  refine wpAnyH_take (i:=2) (v:=.pointer (some ⟨C,0,none⟩)) rfl (by kernel_rfl) (by kernel_rfl) (by kernel_rfl) (fun _ _ _ h=>h) (.inl ⟨by kernel_rfl,fun w'' hS=>?_⟩) hK0 ?_
  ·have q0:w''.cell? ⟨w.heap.size,0,none⟩=some (.pointer (some ⟨C,0,none⟩)):=hS.1.b0.cell 0
   clear hK0 hS hv aX hcnt hmf hlt hv0 jv xR iR xO hnk mD gz hcs hs6 jY qp mX;simp only[Act.put,bQ,bW,bU,eH,eY,fC];go_simp
  refine wpAnyH_take (i:=3) (v:=.pointer (some ⟨C,0,none⟩)) rfl (by kernel_rfl) (by kernel_rfl) (by kernel_rfl) (fun _ _ _ h=>h) (.inl ⟨by kernel_rfl,fun w'' hS=>by kernel_rfl⟩) hK0 ?_
  refine wpAnyH_take (i:=4) (v:=.pointer (some ⟨C,1,none⟩)) rfl (by kernel_rfl) (by kernel_rfl) (by kernel_rfl) (fun _ _ _ h=>h) (.inl ⟨by kernel_rfl,fun w'' hS=>by kernel_rfl⟩) hK0 ?_
  refine wpAnyH_take (i:=5) (v:=.pointer (some ⟨G,0,none⟩)) rfl (by kernel_rfl) (by kernel_rfl) (by kernel_rfl) (fun _ _ _ h=>h) (.inl ⟨by kernel_rfl,fun w'' hS=>?_⟩) hK0 ?_
  ·have q0:=hS.2.1;clear hK0 hS hv aX hcnt hmf hlt hv0 jv xR iR xO hnk mD gz hcs hs6 jY qp mX;simp only[Act.put,bQ,bW,bU,eH,eY,fC];go_simp
  refine wpAnyH_take (i:=6) (v:=.pointer (some ⟨G,0,none⟩)) rfl (by kernel_rfl) (by kernel_rfl) (by kernel_rfl) (fun _ _ _ h=>h) (.inl ⟨by kernel_rfl,fun w'' hS=>by kernel_rfl⟩) hK0 ?_
  refine wpAnyH_take (i:=7) (v:=.pointer (some ⟨G,1,none⟩)) rfl (by kernel_rfl) (by kernel_rfl) (by kernel_rfl) (fun _ _ _ h=>h) (.inl ⟨by kernel_rfl,fun w'' hS=>by kernel_rfl⟩) hK0 ?_
  refine wpAnyH_take (i:=8) (v:=.slice (some ⟨og,0,none⟩) os.length kR) rfl (by kernel_rfl) (by kernel_rfl) (by kernel_rfl) (fun _ _ _ h=>h) (.inl ⟨by kernel_rfl,fun w'' hS=>?_⟩) hK0 ?_
  ·have q0:=hS.2.2.1;clear hK0 hS hv aX hcnt hmf hlt hv0 jv xR iR xO hnk mD gz hcs hs6 jY qp mX;simp only[Act.put,bQ,bW,bU,eH,eY,fC];go_simp
  refine wpAnyH_take (i:=9) (v:=.int .i64 (old:Int)) rfl (by kernel_rfl) (by kernel_rfl) (by kernel_rfl) (fun _ _ _ h=>h) (.inl ⟨by kernel_rfl,fun w'' hS=>?_⟩) hK0 ?_
  ·have q0:w''.cell? ⟨w.heap.size+1,0,none⟩=some (.int .i64 (old:Int)):=hS.1.b1.cell 0
   clear hK0 hS hv aX hcnt hmf hlt hv0 jv xR iR xO hnk mD gz hcs hs6 jY qp mX;simp only[Act.put,bQ,bW,bU,eH,eY,fC];go_simp
  refine wpAnyH_take (i:=10) (v:=.int .i64 (v:Int)) rfl (by kernel_rfl) (by kernel_rfl) (by kernel_rfl) (fun _ _ _ h=>h) (.inl ⟨by kernel_rfl,fun w'' hS=>by kernel_rfl⟩) hK0 ?_
  refine wpAnyH_take (i:=11) (v:=.pointer (some ⟨og,old*6,none⟩)) rfl (by kernel_rfl) (by kernel_rfl) (by kernel_rfl) (fun _ _ _ h=>h) (.inl ⟨by kernel_rfl,fun w'' hS=>?_⟩) hK0 ?_
  ·clear hK0 hS hv aX hcnt hmf hlt hv0 jv xR iR xO hnk mD gz hcs hs6 jY qp mX;simp only[Act.put,bQ,bW,bU,eH,eY,fC];go_simp
  refine wpAnyH_take (i:=12) (v:=.pointer (some ⟨og,old*6,none⟩)) rfl (by kernel_rfl) (by kernel_rfl) (by kernel_rfl) (fun _ _ _ h=>h) (.inl ⟨by kernel_rfl,fun w'' hS=>by kernel_rfl⟩) hK0 ?_
  refine wpAnyH_take (i:=13) (v:=.pointer (some ⟨og,old*6+v,none⟩)) rfl (by kernel_rfl) (by kernel_rfl) (by kernel_rfl) (fun _ _ _ h=>h) (.inl ⟨by kernel_rfl,fun w'' hS=>?_⟩) hK0 ?_
  ·clear hK0 hS hv aX hcnt hmf hlt hv0 jv xR iR xO hnk mD gz hcs hs6 jY qp mX;simp only[Act.put,bQ,bW,bU,eH,eY,fC];go_simp
  refine wpAnyH_take (i:=14) (v:=.int .i64 (x:Int)) rfl (by kernel_rfl) (by kernel_rfl) (by kernel_rfl) (fun _ _ _ h=>h) (.inl ⟨by kernel_rfl,fun w'' hS=>?_⟩) hK0 ?_
  ·have q0:=hS.2.2.2;clear hK0 hS hv aX hcnt hmf hlt hv0 jv xR iR xO hnk mD gz hcs hs6 jY qp mX;simp only[Act.put,bQ,bW,bU,eH,eY,fC];go_simp
  refine wpAnyH_take (i:=15) (v:=.int .i64 (i:Int)) rfl (by kernel_rfl) (by kernel_rfl) (by kernel_rfl) (fun _ _ _ h=>h) (.inl ⟨by kernel_rfl,fun w'' hS=>?_⟩) hK0 ?_
  ·have q0:w''.cell? ⟨w.heap.size+1+1,0,none⟩=some (.int .i64 (i:Int)):=hS.1.b2.cell 0
   clear hK0 hS hv aX hcnt hmf hlt hv0 jv xR iR xO hnk mD gz hcs hs6 jY qp mX;simp only[Act.put,bQ,bW,bU,eH,eY,fC];go_simp
  refine wpAnyH_take (i:=16) (v:=.int .i64 ((i+1:Nat):Int)) rfl (by kernel_rfl) (by kernel_rfl) (by kernel_rfl) (fun _ _ _ h=>h) (.inl ⟨by kernel_rfl,fun w'' hS=>?_⟩) hK0 ?_
  ·clear hK0 hS hv aX hcnt hmf hlt hv0 jv xR iR xO hnk mD gz hcs hs6 jY qp mX;simp only[Act.put,bQ,bW,bU,eH,eY,fC];go_simp
   rw[IntKind.wrap_i64];omega
  refine wpAnyH_take (i:=18) (v:=.pointer (some ⟨W.heap.size,0,none⟩)) rfl (by kernel_rfl) (by kernel_rfl) (by kernel_rfl) (fun _ _ _ h=>h) (.inl ⟨by kernel_rfl,fun w'' hS=>by kernel_rfl⟩) hK0 ?_
  refine wpAnyH_all (rs:=[17]) (by kernel_rfl) (by simp) (fun j hj=>?_)
  obtain rfl:j=17:=by simpa using hj
  refine dF (f:=121) (args:=#[.pointer (some ⟨C,0,none⟩),.int .i64 (x:Int),.int .i64 ((i+1:Nat):Int)]) (w':=A.drew) rfl (by kernel_rfl) (by kernel_rfl) ?_
  refine(JV.out x st.1 kE (B+pre.length*cnt m) A.drew (by omega) hpc hcs hlx JW.out.drew (SS.out.nw ((Fr.refl _ A).drew)) mX).mono ?_
  rw[Zt.out];rintro e A2 ⟨rfl,xP,hC2,hf2,hn2⟩
  have nX:Fr (FC C b M Mv kE) A A2:=hf2.gW;have SX:∀k,xP.ownBlock=some k->kE.ownBlock=some k\/A.heap.size<=k:=hn2;have hAs:W.heap.size<A.heap.size:=HI.out.bN.lt;have hAU:U.heap.size<A.heap.size:=HI.out.bV.lt;have hWs:=uq.out;have hUs:=Yw.out;have zN:∀k,w.heap.size<=k->k<=w.heap.size+2->¬FC C b M Mv kE k:=fun k h1 h2=>by
   have hk:k=w.heap.size\/k=w.heap.size+1\/k=w.heap.size+1+1:=by omega
   rcases hk with rfl | rfl | rfl
   ·exact JW.out.other HI.out.bx.b0 (by decide) (by decide) (by decide)
   ·exact JW.out.other HI.out.bx.b1 (by decide) (by decide) (by decide)
   ·exact JW.out.other HI.out.bx.b2 (by decide) (by decide) (by decide)
  have zO:¬FC C b M Mv kE W.heap.size:=by
   have Aa:=HC.out.lt (.inl rfl);have hbl:=HC.out.lt (.inr (.inr (.inl rfl)));rintro(h | h | h | h | h)
   ·omega
   ·omega
   ·omega
   ·omega
   ·exact mD h
  have hVF:¬FC C b M Mv kE U.heap.size:=JW.out.other HI.out.bV (by decide) (by decide) (by decide)
  have hbx2:nK A2 w.heap.size C old i:=HI.out.bx.fr nX zN;have AO:af A2 W.heap.size (aT st.2).toArray 151:=HI.out.bN.fr nX zO;have hV2:af A2 U.heap.size #[.int .i64 (q:Int)] 3:=HI.out.bV.fr nX hVF;have hD2:yZ A2 G g cap (.slice (some ⟨og,0,none⟩) os.length kR) vars os root:=SS.out.fr nX mX;have hx2:A2.cell? ⟨og,old*6+v,none⟩=some (.int .i64 (x:Int)):=(nX.cell (SS.out.lt (.inr (.inr rfl))) (mX og (.inr (.inr rfl)))).trans HxA.out
  have hS2:nK A2 w.heap.size C old i/\A2.cell? ⟨C,1,none⟩=some (.pointer (some ⟨G,0,none⟩))/\A2.cell? ⟨G,1,none⟩=some (.slice (some ⟨og,0,none⟩) os.length kR)/\A2.cell? ⟨og,old*6+v,none⟩=some (.int .i64 (x:Int)):=⟨hbx2,hC2.blk.cell 1,hD2.blk.cell 1,hx2⟩
  refine⟨_,rfl,hS2,?_⟩
  refine wpAnyH_all (rs:=[19]) (by kernel_rfl) (by simp) (fun j hj=>?_)
  obtain rfl:j=19:=by simpa using hj
  refine aA (v:=.pointer (some ⟨W.heap.size,v,none⟩)) (w':=A2) rfl (by kernel_rfl) ?_ ⟨hS2,?_⟩
  ·clear hK0 hv aX hcnt hmf hlt hv0 jv xR iR xO hnk mD gz hcs hs6 jY qp mX hf2 nX hn2 SX hAs hAU hWs hUs zN zO hVF hbx2 AO hV2 hD2 hx2 hS2 hC2;simp only[Act.put,bQ,bW,bU,eH,eY,fC];go_simp
  refine wpAnyH_all (rs:=[20]) (by kernel_rfl) (by simp) (fun j hj=>?_)
  obtain rfl:j=20:=by simpa using hj
  have hvl:v<(aT st.2).toArray.size:=by simp[aT,hs6];omega
  obtain⟨ov,hcN⟩:∃ov,A2.cell? ⟨W.heap.size,v,none⟩=some ov:=⟨_,(AO.cell v).trans (Array.getElem?_eq_getElem hvl)⟩
  have hfN:=AO.free v;obtain⟨A3,hA3⟩:∃A3,A3=A2.setCell ⟨W.heap.size,v,none⟩ (.int .i64 (r.2:Int)):=⟨_,rfl⟩;have hf3:Fr (fun k=>k=W.heap.size) A2 A3:=by rw[hA3];exact(Fr.refl _ A2).setCell _ _ (.inl rfl)
  have nV:nK A3 w.heap.size C old i:=hbx2.fr hf3 (fun k h1 h2 e=>by omega)
  have hN3:af A3 W.heap.size (aT (st.2.set v r.2)).toArray 151:=by
   rw[hA3];have h5:=AO.set v (.int .i64 (r.2:Int));have e5:(aT st.2).toArray.setIfInBounds v (.int .i64 (r.2:Int))=(aT (st.2.set v r.2)).toArray:=by simp[aT,List.map_set]
   rw[e5] at h5;exact h5
  have Zz:∀k,FC C b M Mv xP k->k≠W.heap.size:=fun k hk e=>by
   have Aa:=HC.out.lt (.inl rfl);have hbl:=HC.out.lt (.inr (.inr (.inl rfl)));rcases hk with h | h | h | h | h
   ·omega
   ·omega
   ·omega
   ·omega
   ·rcases SX k h with h1 | h1
    ·exact mD (by rw[<-e];exact h1)
    ·omega
  have hC3:iH A3 C b M Mv G xP dn r.1:=hC2.fr hf3 Zz;have hWo:∀k,(k=G\/k=g\/(Value.slice (some ⟨og,0,none⟩) os.length kR).ownBlock=some k)->k≠W.heap.size:=fun k hk=>by have:=HD.out.lt hk;omega
  have hS3:nK A3 w.heap.size C old i/\A3.cell? ⟨C,1,none⟩=some (.pointer (some ⟨G,0,none⟩))/\A3.cell? ⟨G,1,none⟩=some (.slice (some ⟨og,0,none⟩) os.length kR)/\A3.cell? ⟨og,old*6+v,none⟩=some (.int .i64 (x:Int)):=⟨nV,hC3.blk.cell 1,(hD2.fr hf3 hWo).blk.cell 1,(hf3.cell (hD2.lt (.inr (.inr rfl))) (hWo og (.inr (.inr rfl)))).trans hx2⟩
  refine dw (w':=A3) rfl (by kernel_rfl) ?_ ⟨hS3,wpAnyH_done (by kernel_rfl) ?_ _⟩
  ·rw[hA3];clear hK0 hv aX hcnt hmf hlt hv0 jv xR iR xO hnk mD gz hcs hs6 jY qp mX hf2 nX hn2 SX hAs hAU hWs hUs zN zO hVF hbx2 AO hV2 hD2 hx2 hS2 hC2 hA3 hf3 nV hN3 Zz hC3 hWo hS3;simp only[Act.put,bQ,bW,bU,eH,eY,fC];go_simp
  simp only[Act.put,bQ,bW,bU,eH,eY,fC];have hrN:A3.cell? ⟨W.heap.size,v,none⟩=some (.int .i64 (r.2:Int)):=by
   rw[hN3.cell];simp[aT,hs6,hv6]
  have hV3:af A3 U.heap.size #[.int .i64 (q:Int)] 3:=hV2.fr hf3 (by omega)
  have AP:Fr (fun k=>FC C b M Mv kE k\/k=W.heap.size) A A3:=(nX.mono (fun k h=>.inl (.inl h))).trans hf3 (fun k h=>.inl (.inr h))
  have YB:Fr (FC C b M Mv nv) w A3:=HI.out.fr.trans AP (fun k h=>by
   rcases h with h | h
   ·rcases h with h | h | h | h | h
    ·exact .inl (.inl h)
    ·exact .inl (.inr (.inl h))
    ·exact .inl (.inr (.inr (.inl h)))
    ·exact .inl (.inr (.inr (.inr (.inl h))))
    ·rcases hnk k h with h1 | h1
     ·exact .inl (.inr (.inr (.inr (.inr h1))))
     ·exact .inr h1
   ·exact .inr (by omega))
  have hkp:jV A A3:=AP.rq (fun k hk=>by
   rcases hk with hk | rfl
   ·exact JW.out.kV k hk
   ·exact⟨_,HI.out.bN,rfl⟩)
  have SY:∀k,xP.ownBlock=some k->nv.ownBlock=some k\/w.heap.size<=k:=fun k hk=>by
   rcases SX k hk with h | h
   ·exact hnk k h
   ·exact .inr (by omega)
  have abK:xP.ownBlock≠some W.heap.size:=fun e=>by
   rcases SX _ e with h | h
   ·exact mD h
   ·omega
  have KE:=hd hC3;have ZA:=hd nV;have NI:=hd hN3;have HV3:=hd hV3;have HFw:=hd YB;have Yy:=hd hkp;have abL:=qp.1.sp;have aes:=qp.1.sp6 q;clear hC3 nV hN3 hV3 YB hkp AP hS3 hS2 hx2 hD2 hV2 AO hbx2 hC2 hf2 nX hf3 hA3 hcN hfN hWo Zz zN zO hVF hK0 mX HxA SS hWs hUs;by_cases hr0:r.2=0
  ·have aet:((r.2:Int) != 0)=false:=by simp[hr0]
   have Hr0:=hd hr0;clear hr0;simp only[Exit.then]
   gi_wp2
   refine⟨Yy.out,?_⟩
   show Di ..
   rw[O8.out];refine⟨HFw.out,ZA.out,NI.out,HV3.out,⟨xP,?_,SY,abK⟩⟩
   have em:r.1.mark q v r.2=r.1:=by rw[CS.mark,if_pos Hr0.out]
   rw[em];exact KE.out
  ·have aet:((r.2:Int) != 0)=true:=by simp[hr0]
   have Hr0:=hd hr0;clear hr0;have b0:A3.cell? ⟨w.heap.size,0,none⟩=some (.pointer (some ⟨C,0,none⟩)):=ZA.out.b0.cell 0
   have bV':A3.cell? ⟨U.heap.size,0,none⟩=some (.int .i64 (q:Int)):=HV3.out.cell 0
   have bS':A3.cell? ⟨C,10+q,none⟩=some (.int .u8 (r.1.sp.getD q 0:Nat)):=(KE.out.blk.cell _).trans (iD _ _ _ _ _ _ h8 abL hq8)
   have fS':=KE.out.blk.free (10+q);obtain⟨acc,Au⟩:∃acc,r.1.sp.getD q 0=acc:=⟨_,rfl⟩;rw[Au] at bS' aes;have hpv:2^v<64:=Nat.pow_lt_pow_right (m:=v) (n:=6) (by omega) hv6
   have hor:=u8_or_nat acc (2^v) (by omega) (by omega)
   have hone:=one_any v A3.drew (by omega)
   obtain⟨pv,CZ⟩:∃pv,2^v=pv:=⟨_,rfl⟩;rw[CZ] at hpv hor hone;have RV:=hd hone;have Zu:=hd CZ;have Sz:=hd Au;have abG:(0:Int)<=(q:Int):=by omega
   have abH:(q:Int)<8:=by omega
   clear CZ hone Au;simp only[Exit.then]
   gi_wp2_with fail
   refine lq 12 (by kernel_rfl) (by kernel_rfl) (fun a w h=>h) ?_
   simp only[List.take_succ_cons,List.take_zero,List.drop_succ_cons,List.drop_zero];still_step
   still_step
   still_step
   still_step
   still_step
   still_step
   still_step
   still_call RV.out
   repeat still_step
   refine wpStill_nil ?_
   go_wp2
   gi_wp2
   have hWs:=uq.out;have hF:Fr (fun k=>k=C) A3 (A3.setCell ⟨C,10+q,none⟩ (.int .u8 ((acc ||| pv:Nat):Int))).drew:=((Fr.refl (fun k=>k=C) A3).setCell ⟨C,10+q,none⟩ _ (.inl rfl)).drew
   have hCC:∀k,k=C->∃o,A3.heap[k]? = some o/\kV o=false:=fun k hk=>KE.out.kV k (.inl hk)
   have Aa:=HC.out.lt (.inl rfl);refine⟨Yy.out.trans (hF.rq hCC),?_⟩
   show Di ..
   rw[O8.out];refine⟨HFw.out.trans hF (fun k h=>.inl (.inl h)),ZA.out.fr hF (fun k h1 h2 e=>by omega),NI.out.fr hF (by omega),HV3.out.fr hF (by have:=Yw.out;omega),⟨xP,?_,SY,abK⟩⟩
   have em:r.1.mark q v r.2=⟨r.1.ns,r.1.sp.set q (acc ||| pv),r.1.mv,r.1.c⟩:=by rw[CS.mark,if_neg Hr0.out,Sz.out,Zu.out]
   rw[em];obtain⟨ff,hmm,hff⟩:=KE.out.WT;have hne1:Mv≠C:=fun e=>by subst e;exact hmm.ne KE.out.blk rfl
   refine⟨?_,KE.out.vO.fr hF (fun e=>?_) (fun e=>?_) (fun k hk e=>?_),⟨ff,hmm.fr hF hne1,hff⟩,KE.out.ne⟩
   ·have h5:=KE.out.blk.set (10+q) (.int .u8 ((acc ||| pv:Nat):Int))
    rw[E8 _ _ _ _ _ _ _ h8 abL hq8] at h5;exact h5.drew
   ·subst e;have:=(KE.out.vO.blk.inj KE.out.blk).2
    revert this
    decide
   ·subst e;obtain⟨f2,hm2,_⟩:=KE.out.vO.map;exact hm2.ne KE.out.blk rfl
   ·subst e;exact KE.out.vO.other KE.out.blk (by decide) (by decide) (.inr (.inr hk))
 case done=>
  rintro D A hD hI hK
  rw[fQ.out] at hI;have hvl:=lX hsx;have JS:(vals sx).length*cnt m<=6*cnt m:=Nat.mul_le_mul_right _ hvl;have ecnt:cnt (m+1)=6*cnt m+1:=rfl;obtain⟨hcs,hs6,jY⟩:=E5 os q (dO os vars dn m (i+1)) old (cnt m) B s Hs.out (fun v s' B' hv hB' hs'=>pF os vars dn aX m (i+1) (nodeAt os old v) s' B' (by omega) (Pj.out.2 v hv) hs') (vals sx) (fun x hx=>fE hsx hx) fin fQ.out
  have hok:jP fin.2:=⟨hs6,fun x hx=>by have:=jY x hx;omega⟩
  obtain⟨n0,n1,n2,n3,n4,n5,nI⟩:=DV hs6;obtain⟨kE,Pm,hnk,mD⟩:=hI.cut;have G7:jo fin.2= .agg #[.int .i64 (n0:Int),.int .i64 (n1:Int),.int .i64 (n2:Int),.int .i64 (n3:Int),.int .i64 (n4:Int),.int .i64 (n5:Int)]:=by rw[nI];rfl
  have hnum:=qw fin.1.ns hcs.two fin.2;have hWs:=uq.out;have Aa:=HC.out.lt (.inl rfl);have hbl:=HC.out.lt (.inr (.inr (.inl rfl)));have vT:w.heap.size<=D:=by
   have:Z.heap.size<=D:=hD
   omega
  have hK0:nK A.drew w.heap.size C old i/\A.drew.cell? ⟨C,18,none⟩=some (.map (some Mv))/\A.drew.cell? ⟨C,0,none⟩=some (.pointer (some ⟨b,0,none⟩))/\af A.drew W.heap.size (aT fin.2).toArray 151:=⟨⟨hI.bx.b0,hI.bx.b1,hI.bx.b2⟩,(Pm.blk.cell 18).trans (lY _ _ _ _ _ h8 hcs.sp),Pm.blk.cell 0,hI.bN⟩
  have HI:=hd hI;have JW:=hd Pm;have Pn:=hd nI;have aeu:=hd G7;have abM:¬FP b M kE W.heap.size:=by
   rintro(h | h | h)
   ·omega
   ·omega
   ·exact mD h
  have hCP:¬FP b M kE C:=Pm.vO.other Pm.blk (by decide) (by decide)
  have abN:∀k,w.heap.size<=k->k<=w.heap.size+2->¬FP b M kE k:=fun k h1 h2=>by
   have hk:k=w.heap.size\/k=w.heap.size+1\/k=w.heap.size+1+1:=by omega
   rcases hk with rfl | rfl | rfl
   ·exact Pm.vO.other hI.bx.b0 (by decide) (by decide)
   ·exact Pm.vO.other hI.bx.b1 (by decide) (by decide)
   ·exact Pm.vO.other hI.bx.b2 (by decide) (by decide)
  clear hI Pm nI G7 aC aV aD HI0 hWs;gi_upto_region 13 with fail
  refine wpIn_wide.2 ?_
  refine wp_region_noPanic ?_
  refine wp_region_held (S:=fun w''=>nK w'' w.heap.size C old i/\w''.cell? ⟨C,18,none⟩=some (.map (some Mv))/\w''.cell? ⟨C,0,none⟩=some (.pointer (some ⟨b,0,none⟩))/\af w'' W.heap.size (aT fin.2).toArray 151) (by kernel_rfl) ?_
  refine wpAnyH_take (i:=0) (v:=.pointer (some ⟨C,0,none⟩)) rfl (by kernel_rfl) (by kernel_rfl) (by kernel_rfl) (fun _ _ _ h=>h) (.inl ⟨by kernel_rfl,fun w'' hS=>?_⟩) hK0 ?_
  ·have q0:w''.cell? ⟨w.heap.size,0,none⟩=some (.pointer (some ⟨C,0,none⟩)):=hS.1.b0.cell 0
   clear hK0 hS hv aX hcnt hmf hlt hv0 jv xR iR xO hnk mD hcs hs6 jY hok hnum hK hD;simp only[eH,eY];go_simp
  refine wpAnyH_take (i:=1) (v:=.pointer (some ⟨C,0,none⟩)) rfl (by kernel_rfl) (by kernel_rfl) (by kernel_rfl) (fun _ _ _ h=>h) (.inl ⟨by kernel_rfl,fun w'' hS=>by kernel_rfl⟩) hK0 ?_
  refine wpAnyH_take (i:=2) (v:=.pointer (some ⟨C,18,none⟩)) rfl (by kernel_rfl) (by kernel_rfl) (by kernel_rfl) (fun _ _ _ h=>h) (.inl ⟨by kernel_rfl,fun w'' hS=>by kernel_rfl⟩) hK0 ?_
  refine wpAnyH_take (i:=3) (v:=.map (some Mv)) rfl (by kernel_rfl) (by kernel_rfl) (by kernel_rfl) (fun _ _ _ h=>h) (.inl ⟨by kernel_rfl,fun w'' hS=>?_⟩) hK0 ?_
  ·have q0:=hS.2.1;clear hK0 hS hv aX hcnt hmf hlt hv0 jv xR iR xO hnk mD hcs hs6 jY hok hnum hK hD;simp only[Act.put,bQ,bW,bU,eH,eY,fC];go_simp
  refine wpAnyH_take (i:=4) (v:=.int .i64 (old:Int)) rfl (by kernel_rfl) (by kernel_rfl) (by kernel_rfl) (fun _ _ _ h=>h) (.inl ⟨by kernel_rfl,fun w'' hS=>?_⟩) hK0 ?_
  ·have q0:w''.cell? ⟨w.heap.size+1,0,none⟩=some (.int .i64 (old:Int)):=hS.1.b1.cell 0
   clear hK0 hS hv aX hcnt hmf hlt hv0 jv xR iR xO hnk mD hcs hs6 jY hok hnum hK hD;simp only[Act.put,bQ,bW,bU,eH,eY,fC];go_simp
  refine wpAnyH_take (i:=5) (v:=.pointer (some ⟨C,0,none⟩)) rfl (by kernel_rfl) (by kernel_rfl) (by kernel_rfl) (fun _ _ _ h=>h) (.inl ⟨by kernel_rfl,fun w'' hS=>?_⟩) hK0 ?_
  ·have q0:w''.cell? ⟨w.heap.size,0,none⟩=some (.pointer (some ⟨C,0,none⟩)):=hS.1.b0.cell 0
   clear hK0 hS hv aX hcnt hmf hlt hv0 jv xR iR xO hnk mD hcs hs6 jY hok hnum hK hD;simp only[Act.put,bQ,bW,bU,eH,eY,fC];go_simp
  refine wpAnyH_take (i:=6) (v:=.pointer (some ⟨C,0,none⟩)) rfl (by kernel_rfl) (by kernel_rfl) (by kernel_rfl) (fun _ _ _ h=>h) (.inl ⟨by kernel_rfl,fun w'' hS=>by kernel_rfl⟩) hK0 ?_
  refine wpAnyH_take (i:=7) (v:=.pointer (some ⟨C,0,none⟩)) rfl (by kernel_rfl) (by kernel_rfl) (by kernel_rfl) (fun _ _ _ h=>h) (.inl ⟨by kernel_rfl,fun w'' hS=>by kernel_rfl⟩) hK0 ?_
  refine wpAnyH_take (i:=8) (v:=.pointer (some ⟨b,0,none⟩)) rfl (by kernel_rfl) (by kernel_rfl) (by kernel_rfl) (fun _ _ _ h=>h) (.inl ⟨by kernel_rfl,fun w'' hS=>?_⟩) hK0 ?_
  ·have q0:=hS.2.2.1;clear hK0 hS hv aX hcnt hmf hlt hv0 jv xR iR xO hnk mD hcs hs6 jY hok hnum hK hD;simp only[Act.put,bQ,bW,bU,eH,eY,fC];go_simp
  refine wpAnyH_take (i:=9) (v:=.agg #[.int .i64 (n0:Int),.int .i64 (n1:Int),.int .i64 (n2:Int),.int .i64 (n3:Int),.int .i64 (n4:Int),.int .i64 (n5:Int)]) rfl (by kernel_rfl) (by kernel_rfl) (by kernel_rfl) (fun _ _ _ h=>h) (.inl ⟨by kernel_rfl,fun w'' hS=>?_⟩) hK0 ?_
  ·have q0:w''.cell? ⟨W.heap.size,0,none⟩=some (.int .i64 (n0:Int)):=by rw[hS.2.2.2.cell,Pn.out];rfl
   have q1:w''.cell? ⟨W.heap.size,1,none⟩=some (.int .i64 (n1:Int)):=by rw[hS.2.2.2.cell,Pn.out];rfl
   have q2:w''.cell? ⟨W.heap.size,2,none⟩=some (.int .i64 (n2:Int)):=by rw[hS.2.2.2.cell,Pn.out];rfl
   have q3:w''.cell? ⟨W.heap.size,3,none⟩=some (.int .i64 (n3:Int)):=by rw[hS.2.2.2.cell,Pn.out];rfl
   have q4:w''.cell? ⟨W.heap.size,4,none⟩=some (.int .i64 (n4:Int)):=by rw[hS.2.2.2.cell,Pn.out];rfl
   have q5:w''.cell? ⟨W.heap.size,5,none⟩=some (.int .i64 (n5:Int)):=by rw[hS.2.2.2.cell,Pn.out];rfl
   clear hK0 hS hv aX hcnt hmf hlt hv0 jv xR iR xO hnk mD hcs hs6 jY hok hnum hK hD;simp only[Act.put,bQ,bW,bU,eH,eY,fC];go_simp
  refine wpAnyH_all (rs:=[10]) (by kernel_rfl) (by simp) (fun j hj=>?_)
  obtain rfl:j=10:=by simpa using hj
  refine dF (f:=87) (args:=#[.pointer (some ⟨b,0,none⟩),.agg #[.int .i64 (n0:Int),.int .i64 (n1:Int),.int .i64 (n2:Int),.int .i64 (n3:Int),.int .i64 (n4:Int),.int .i64 (n5:Int)]]) (w':=A.drew) rfl (by kernel_rfl) (by kernel_rfl) ?_
  rw[<-aeu.out];refine(uJ b M kE fin.1.ns fin.2 A.drew JW.out.vO.drew hok (by have:=hcs.ns;omega)).mono ?_
  rintro e A1 ⟨rfl,xP,hB1,hf1,hn1⟩
  have dQ:Fr (FP b M kE) A A1:=Fr.gW hf1;have hn1':∀k,xP.ownBlock=some k->kE.ownBlock=some k\/A.heap.size<=k:=hn1;obtain⟨ff,hmm,hff⟩:=JW.out.WT;have abO:¬FP b M kE Mv:=by
   rintro(h | h | h)
   ·exact hmm.ne JW.out.vO.blk h.symm
   ·exact JW.out.ne h
   ·rcases JW.out.vO.row.2 with ⟨h',_⟩ | ⟨g',cap',cur',h',_,hg',_⟩
    ·rw[h'] at h;cases h
    ·rw[h'] at h;cases h;exact hmm.ne (show af A g' cur' 151 from hg') rfl
  have Po:=hmm.fr dQ abO;have hblk1:=JW.out.blk.fr dQ hCP;have hN1:=HI.out.bN.fr dQ abM;have uN:=HI.out.bx.fr dQ abN;have hS1:nK A1 w.heap.size C old i/\A1.cell? ⟨C,18,none⟩=some (.map (some Mv))/\A1.cell? ⟨C,0,none⟩=some (.pointer (some ⟨b,0,none⟩))/\af A1 W.heap.size (aT fin.2).toArray 151:=⟨uN,(hblk1.cell 18).trans (lY _ _ _ _ _ h8 hcs.sp),hblk1.cell 0,hN1⟩
  refine⟨_,rfl,hS1,?_⟩
  refine wpAnyH_all (rs:=[11]) (by kernel_rfl) (by simp) (fun j hj=>?_)
  obtain rfl:j=11:=by simpa using hj
  obtain⟨A2,hst,hm2,hf2⟩:=bg.store (w:=A1) (t:=183) Po vZ Tryz.underlying183 (by have:=hcs.c;unfold maxLen;omega) (zZ old KD) (aB fin.1.ns fin.2).2 (by have:=hcs.ns;omega)
  have agt:Mv<w.heap.size:=WV;have hMC:C≠Mv:=Po.ne hblk1;have hblk2:=hblk1.fr hf2 hMC;have hbx2:=uN.fr hf2 (fun k h1 h2 e=>by omega)
  have AO:=hN1.fr hf2 (by have:=uq.out;omega)
  have hS2:nK A2 w.heap.size C old i/\A2.cell? ⟨C,18,none⟩=some (.map (some Mv))/\A2.cell? ⟨C,0,none⟩=some (.pointer (some ⟨b,0,none⟩))/\af A2 W.heap.size (aT fin.2).toArray 151:=⟨hbx2,(hblk2.cell 18).trans (lY _ _ _ _ _ h8 hcs.sp),hblk2.cell 0,AO⟩
  refine dw (w':=A2) rfl (by kernel_rfl) ?_ ⟨hS2,wpAnyH_done (by kernel_rfl) (NoPanic.normal ?_) _⟩
  ·simp only[Act.put,bQ,bW,bU,eH,eY,fC];exact rJ (.tmp 85) (.tmp 86) (.tmp 92) 183 rfl hst
  simp only[Act.put,bQ,bW,bU,eH,eY,fC];have hB2':sS A2 b M xP (aB fin.1.ns fin.2).1:=hB1.fr hf2 (fun e=>Po.ne hB1.blk e) (fun e=>JW.out.ne e.symm) (fun k hk e=>by
   subst e;rcases hB1.row.2 with ⟨h',_⟩ | ⟨g',cap',cur',h',_,hg',_⟩
   ·rw[h'] at hk;cases hk
   ·rw[h'] at hk;cases hk;exact Po.ne (show af A1 g' cur' 151 from hg') rfl)
  have hC2:iH A2 C b M Mv G xP dn (fin.1.put fin.2 old).1:=by
   refine⟨hblk2,hB2',⟨_,hm2,fun k hk=>?_⟩,JW.out.ne⟩
   show _=if k=old then some (aB fin.1.ns fin.2).2 else fin.1.mv k
   by_cases hko:k=old
   ·subst hko;rw[if_pos rfl,if_pos rfl]
   ·rw[if_neg hko,if_neg (fun e=>hko (by injection e with _ e;omega))]
    exact hff k hk
  have abP:Fr (FC C b M Mv nv) w A2:=by
   refine((HI.out.fr.trans dQ (fun k h=>?_)).trans hf2 (fun k h=>.inl (.inr (.inl h))))
   rcases h with h | h | h
   ·exact .inl (.inr (.inr (.inl h)))
   ·exact .inl (.inr (.inr (.inr (.inl h))))
   ·rcases hnk k h with h1 | h1
    ·exact .inl (.inr (.inr (.inr (.inr h1))))
    ·exact .inr h1
  have hAs:w.heap.size<=A.heap.size:=HI.out.fr.size;have SY:∀k,xP.ownBlock=some k->nv.ownBlock=some k\/w.heap.size<=k:=fun k hk=>by
   rcases hn1' k hk with h | h
   ·exact hnk k h
   ·exact .inr (by omega)
  have hK1:=(Fr.rq dQ JW.out.vO.kV).same D _ hK rfl;have hK2:=(Fr.rq hf2 (fun k hk=>by subst hk;exact Po.map)).same D _ hK1 rfl
  have hl2:(Instr.lookup 183 (.map (some Mv)) (.int .i64 (old:Int)) false).run Tryz.prog A2.drew= .ok (.int .i64 ((aB fin.1.ns fin.2).2:Nat)) A2.drew:=by
   have:=bg.look (w:=A2.drew) (t:=183) hm2 vZ Tryz.underlying183 (zZ old KD)
   rw[if_pos rfl,Option.getD_some] at this;exact this
  have d0:A2.cell? ⟨w.heap.size,0,none⟩=some (.pointer (some ⟨C,0,none⟩)):=hbx2.b0.cell 0
  have d1:A2.cell? ⟨w.heap.size+1,0,none⟩=some (.int .i64 (old:Int)):=hbx2.b1.cell 0
  have d2:A2.cell? ⟨C,18,none⟩=some (.map (some Mv)):=hS2.2.1
  have HC2:=hd hC2;have aev:=hd abP;have HK2:=hd hK2;have aew:=hd SY;have hput:(fin.1.put fin.2 old).2=(aB fin.1.ns fin.2).2:=rfl;obtain⟨num,hnm⟩:∃num,(aB fin.1.ns fin.2).2=num:=⟨_,rfl⟩;have Hnm:=hd hnm;rw[hnm] at hl2 hput;have aex:=hd hput;clear hC2 abP hK2 hK1 SY hS2 hS1 hB2' AO hbx2 hblk2 hm2 hst hf2 hN1 uN hblk1 Po hmm hff hf1 dQ hB1 hn1 hn1' hK0 hK hnum hok hcs hs6 jY hnk mD abN hCP abM abO hnm hput JV Pj Hoc;simp only[Exit.then]
  gi_upto_region 14 with fail
  refine wpIn_wide.2 ?_
  go_still (by kernel_rfl)
  go_wp2
  gi_wp2
  have hKd:A2.drew.heap[D]? = some (.deferred (some [])):=HK2.out
  refine⟨by simp,.inl ⟨_,_,rfl,run_takeDeferred hKd,?_⟩⟩
  exact⟨_,results_tmp rfl _ _ _,by rw[aex.out];rfl,xP,HC2.out.drew.bk (Bk.put (.deferred none) vT hKd rfl) Gt WV,aev.out.drew.bk (Bk.put (.deferred none) vT hKd rfl) (Nat.le_refl _),aew.out⟩
theorem NJ (C b M Mv G g cap:Nat) (sU:Value) (vars:List Int) (os:List (List Nat)) (root:Nat) (dn:List Nat) (h8:dn.length=8) (h4:vars.length<=4) (hv:∀i,i<vars.length->0<=vars.getD i 0/\vars.getD i 0<8)
  (aX:∀q,dn.getD q 0<64) (hol:os.length<=100000):∀m i,i+m=vars.length->YA C b M Mv G g cap sU vars os root dn m i
 | 0,i,_,old,s,nv,B,w,_,_,_,kS,hC,_,_=>by
  refine(cut_small C old i w kS).mono ?_
  rintro e w' ⟨rfl,hf⟩
  exact⟨rfl,nv,hC.nw hf,hf.mono (fun i h=>h.elim),fun k hk=>.inl hk⟩
 | m+1,i,hm,old,s,nv,B,w,hB2,hcnt,hs,kS,hC,hD,hdis=>by
  by_cases ho:old<2
  ·refine(cut_small C old i w ho).mono ?_
   rintro e w' ⟨rfl,hf⟩
   rw[dO,if_pos ho];exact⟨rfl,nv,hC.nw hf,hf.mono (fun i h=>h.elim),fun k hk=>.inl hk⟩
  ·have D6:old<os.length/\∀v,v<6->bI os m (nodeAt os old v):=by
    rcases kS with h1 | h1
    ·exact absurd (by omega) ho
    ·exact h1.2
   cases hmv:s.mv old with
   | some k=>
    refine(Ph C b M Mv G nv dn s old i k w h8 hC hs.sp ho (by omega) hmv).mono ?_
    rintro e w' ⟨rfl,hf⟩
    rw[dO,if_neg ho,hmv];exact⟨rfl,nv,hC.nw hf,hf.mono (fun i h=>h.elim),fun k hk=>.inl hk⟩
   | none=>exact Zy C b M Mv G g cap sU vars os root dn m i h8 h4 hv aX hol (by omega) (NJ C b M Mv G g cap sU vars os root dn h8 h4 hv aX hol m (i+1) (by omega)) old s nv B w hB2 hcnt hs ho hmv D6 hC hD hdis
end Go.Proofs.YtkjfpdfkcfgfkaaGreat
namespace Go.Proofs.YtkjfpdfkcfgfkaaGreat
open Go.RowKit Go.Maps
theorem lC {P:Program} {ev:Operand->Value} {op:Oper} {w:World} (ty:TypeId) (x y:Operand) (ho:op.op= .store ty x y) (b o:Nat) (cells:Array Value) (hx:ev x= .pointer (some ⟨b,o,none⟩)) (hy:ev y= .agg cells)
  (ht:w.there b o cells.size) (hi:(P.info? ty).map (·.size)=some cells.size) (h1:cells.all (·.oneCell')=true):(execOp ev op).run P w= .ok .skip (w.setCells b o cells.toList):=by
 unfold execOp;simp only[ho,hx,hy,Instr.storeAt,Instr.sureAddr,Sem.run_bind,Sem.run_pure,Result.andThen_ok,run_storeVar_mid w b o ty cells ht hi h1]
theorem Fr.setCells {S:Nat->Prop} {a:World} (C:Nat) (hC:S C\/a.heap.size<=C):∀(vs:List Value) (o:Nat) (b:World),Fr S a b->Fr S a (b.setCells C o vs)
 | [],_,_,h=>h
 | v::r,o,_,h=>Fr.setCells C hC r (o+1) _ (h.setCell ⟨C,o,none⟩ v hC)
def setFrom:Array Value->Nat->List Value->Array Value
 | cur,_,[]=>cur
 | cur,o,v::r=>setFrom (cur.setIfInBounds o v) (o+1) r
theorem af.setCells {C:Nat} {e:TypeId}:∀(vs:List Value) (o:Nat) (w:World) (cur:Array Value),af w C cur e->af (w.setCells C o vs) C (setFrom cur o vs) e
 | [],_,_,_,h=>h
 | v::r,o,_,_,h=>af.setCells r (o+1) _ _ (h.set o v)
theorem wC:∀(vs:List Value) (cur:Array Value) (o:Nat),o+vs.length<=cur.size->(setFrom cur o vs).toList=cur.toList.take o++(vs++cur.toList.drop (o+vs.length))
 | [],cur,o,_=>by simp[setFrom]
 | v::r,cur,o,h=>by
  simp only[List.length_cons] at h;rw[setFrom,wC r (cur.setIfInBounds o v) (o+1) (by simp;omega)]
  have h1:(cur.setIfInBounds o v).toList=cur.toList.set o v:=by simp
  rw[h1,List.take_succ_eq_append_getElem (by simp;omega)]
  simp only[List.getElem_set_self,List.length_cons,List.append_assoc,List.cons_append,List.nil_append];rw[List.take_set_of_le (Nat.le_refl _),List.drop_set_of_lt (by omega),show o+1+r.length=o+(r.length+1) by omega]
theorem af.fill {w:World} {C:Nat} {e:TypeId} {cur:Array Value} (h:af w C cur e) (vs:List Value) (hl:cur.size=vs.length):af (w.setCells C 0 vs) C vs.toArray e:=by
 have h1:=af.setCells vs 0 w cur h;have h2:setFrom cur 0 vs=vs.toArray:=by
  apply Array.ext'
  rw[wC vs cur 0 (by omega)]
  simp[hl]
 rw[h2] at h1;exact h1
theorem af.there {w:World} {C:Nat} {e:TypeId} {cur:Array Value} (h:af w C cur e):w.there C 0 cur.size:=fun j hj=>by
 rw[Nat.zero_add];exact⟨by rw[h.cell];simp[hj],h.free j⟩
theorem jJ (b G:Nat) (dn sp:List Nat) (Mv:Nat):(aU b G dn sp Mv).all (·.oneCell')=true:=all_oneCell_toArray (fun v hv=>by
 simp only[List.mem_cons,List.mem_append,List.mem_map,List.not_mem_nil,or_false] at hv;rcases hv with rfl | rfl | ⟨_,_,rfl⟩ | ⟨_,_,rfl⟩ | rfl <;> rfl)
theorem af.abQ {b:World} {g:Nat} {e:TypeId} {n:List Nat} {v0 v1 v2 v3 v4 v5 v6 v7:Value} (h:af b g (ay aQ) e) (hn:ay n=#[v0,v1,v2,v3,v4,v5,v6,v7]):
  af ((((((((b.setCell ⟨g,0,none⟩ v0).setCell ⟨g,1,none⟩ v1).setCell ⟨g,2,none⟩ v2).setCell ⟨g,3,none⟩ v3).setCell ⟨g,4,none⟩ v4).setCell ⟨g,5,none⟩ v5).setCell ⟨g,6,none⟩ v6).setCell ⟨g,7,none⟩ v7) g (ay n) e:=by
 have h1:=af.mJ (cur:=#[Value.int .u8 0,Value.int .u8 0,Value.int .u8 0,Value.int .u8 0,Value.int .u8 0,Value.int .u8 0,Value.int .u8 0,Value.int .u8 0]) h 0 1 2 3 4 5 6 7 v0 v1 v2 v3 v4 v5 v6 v7;rw[J6] at h1;rw[hn];exact h1
def mO:Array Value:=#[.pointer none,.pointer none,.int .u8 0,.int .u8 0,.int .u8 0,.int .u8 0,.int .u8 0,.int .u8 0,.int .u8 0,.int .u8 0,.int .u8 0,.int .u8 0,.int .u8 0,.int .u8 0,.int .u8 0,.int .u8 0,.int .u8 0,.int .u8 0,.map none]
def s0:CS:=⟨[zero6,zero6],aQ,fun _=>none,0⟩
def tZ (os:List (List Nat)) (root:Nat) (vars:List Int) (dn:List Nat):CS×Nat:=dO os vars dn vars.length 0 root s0
def Pq (os:List (List Nat)) (root:Nat) (vars:List Int) (dn:List Nat):List Nat:=eu vars dn (tZ os root vars dn).1.sp vars.length
set_option maxRecDepth 1000000 in
theorem G9 (G g cap:Nat) (sU:Value) (vars:List Int) (os:List (List Nat)) (root:Nat) (dn:List Nat) (w:World) (hD:yZ w G g cap sU vars os root) (h8:dn.length=8) (h4:vars.length<=4) (hv:∀i,i<vars.length->0<=vars.getD i 0/\vars.getD i 0<8)
  (aX:∀q,dn.getD q 0<64) (hol:os.length<=100000) (kS:bI os vars.length root):
  Calls Tryz.prog 118 #[.pointer (some ⟨G,0,none⟩),.agg (ay dn)] w fun e w'=>e= .returned (.agg (ay (Pq os root vars dn)))/\Fr (fun k=>k=G) w w' /\
   ∃uy,yZ w' G g cap uy vars (tZ os root vars dn).1.ns (tZ os root vars dn).2/\(∀k,uy.ownBlock=some k->w.heap.size<=k):=by
 obtain⟨v0,v1,v2,v3,v4,v5,v6,v7,hdv⟩:=iV h8;obtain⟨⟨x0,rfl⟩,⟨x1,rfl⟩,⟨x2,rfl⟩,⟨x3,rfl⟩,⟨x4,rfl⟩,⟨x5,rfl⟩,⟨x6,rfl⟩,⟨x7,rfl⟩⟩:=iO dn hdv;have uI:=hD.blk.lt;obtain⟨W,hW⟩:∃W,W=(w.alloc (.cells (ay dn) 60)).alloc (.cells (ay aQ) 60):=⟨_,rfl⟩;have dM:Nw w W:=by rw[hW];exact((Fr.refl _ w).alloc _).alloc _
 have hbD:af W w.heap.size (ay dn) 60:=by rw[hW];exact(af.new _ _ _).alloc _
 have hbR:af W (w.heap.size+1) (ay aQ) 60:=by
  rw[hW];have:=af.new (w.alloc (.cells (ay dn) 60)) (ay aQ) 60
  rw[tY] at this;exact this
 have hsW:W.heap.size=w.heap.size+2:=by rw[hW];simp
 have HW:=hd hW;have tX:=hd hbD;have NC:=hd hbR;have uq:=hd hsW;have Hdv:=hd hdv;have HD:=hd hD;clear hW hbD hbR hsW hdv hD;go_enter Tryz.func118,Tryz.ntmps118
 go_upto_region 1 with fail
 rw[show (w.alloc (Obj.cells (ay dn) 60)).alloc (Obj.cells #[Value.int .u8 0,.int .u8 0,.int .u8 0,.int .u8 0,.int .u8 0,.int .u8 0,.int .u8 0,.int .u8 0] 60)=W from HW.out.symm]
 clear HW;go_cut [5] (fun p wx=>∃C b M Mv nv,p= .pointer (some ⟨C,0,none⟩)/\Hid (iH wx C b M Mv G nv dn s0)/\Nw W wx/\∀k,FC C b M Mv nv k->W.heap.size<=k)
 case first=>
  have hK0:af W.drew w.heap.size (ay dn) 60:=tX.out.drew;refine wp_region_held (S:=fun w''=>af w'' w.heap.size (ay dn) 60) (by kernel_rfl) ?_
  refine wpAnyH_take (i:=1) (v:=.pointer (some ⟨G,0,none⟩)) rfl (by kernel_rfl) (by kernel_rfl) (by kernel_rfl) (fun _ _ _ h=>h) (.inl ⟨by kernel_rfl,fun w'' hS=>by kernel_rfl⟩) hK0 ?_
  refine wpAnyH_take (i:=2) (v:=.agg (ay dn)) rfl (by kernel_rfl) (by kernel_rfl) (by kernel_rfl) (fun _ _ _ h=>h) (.inl ⟨by kernel_rfl,fun w'' hS=>?_⟩) hK0 ?_
  ·obtain⟨q0,q1,q2,q3,q4,q5,q6,q7⟩:=cZ (Hdv.out▸hS);clear hS hK0 hv aX;rw[Hdv.out];simp only[Act.put,bQ,bW,bU,eH,eY,fC];go_simp
  have hX0:Nw W W.drew:=(Fr.refl _ W).drew;have hTl:w.heap.size<W.heap.size:=tX.out.lt;have kF:∀(X:World) (b M Mv C:Nat) (xQ:Value),Nw W X->sS X b M xQ [zero6,zero6]->bg X 3 Mv 0 (fun _=>none)->Mv≠M->af X C mO 185->W.heap.size<=C->W.heap.size<=b->W.heap.size<=M->W.heap.size<=Mv->(∀k,xQ.ownBlock=some k->W.heap.size<=k) ->
    iH (X.setCells C 0 (aU b G dn aQ Mv).toList) C b M Mv G xQ dn s0/\Nw W (X.setCells C 0 (aU b G dn aQ Mv).toList)/\(∀k,FC C b M Mv xQ k->W.heap.size<=k)/\af (X.setCells C 0 (aU b G dn aQ Mv).toList) w.heap.size (ay dn) 60:=fun X b M Mv C xQ hX hB hm hne hC Aa hbl Gt WV hnl=>by
   have hf:=Fr.setCells (S:=fun k=>k=C) (a:=X) C (.inl rfl) (aU b G dn aQ Mv).toList 0 X (Fr.refl _ X)
   have abR:=hC.fill (aU b G dn aQ Mv).toList (by simp[mO,aU,h8,aQ])
   refine⟨⟨by show af _ C (aU b G dn aQ Mv) _;simpa using abR,hB.fr hf (fun e=>?_) (fun e=>?_) (fun k hk e=>?_),⟨_,hm.fr hf (fun e=>hm.ne hC e.symm),fun _ _=>rfl⟩,hne⟩,Fr.setCells C (.inr Aa) _ 0 X hX,?_,(tX.out.nw hX).fr hf (by omega)⟩
   ·exact hB.other hC (by decide) (by decide) (.inl e.symm)
   ·exact hB.other hC (by decide) (by decide) (.inr (.inl e.symm))
   ·exact hB.other hC (by decide) (by decide) (.inr (.inr (by rw[<-e];exact hk)))
   ·rintro k (rfl | rfl | rfl | rfl | h)
    ·exact Aa
    ·exact WV
    ·exact hbl
    ·exact Gt
    ·exact hnl k h
  refine wpAnyH_all (rs:=[0,3,5]) (by kernel_rfl) (by simp) (fun j hj=>?_)
  have hj':j=0\/j=3\/j=5:=by simpa using hj
  rcases hj' with rfl | rfl | rfl
  ·refine dF (f:=66) (args:=#[]) (w':=W.drew) rfl (by kernel_rfl) (by kernel_rfl) ?_
   refine(iP W.drew).mono ?_
   rintro e X1 ⟨b,M,xQ,rfl,hB,hst,hbl,Gt,hnl⟩
   have hw0:Nw W X1:=hX0.trans hst (fun i h=>h.elim)
   have hz0:W.heap.size<=(W.drew).heap.size:=hX0.size;refine⟨_,rfl,tX.out.nw hw0,?_⟩
   refine wpAnyH_all (rs:=[3,5]) (by kernel_rfl) (by simp) (fun j hj=>?_)
   have hj':j=3\/j=5:=by simpa using hj
   rcases hj' with rfl | rfl
   ·obtain⟨X2,hX2⟩:∃X,X=(X1).alloc (.map #[] 0):=⟨_,rfl⟩;have hst:Nw (X1) X2:=by rw[hX2];exact(Fr.refl _ _).alloc _
    have hm:bg X2 3 (X1).heap.size 0 (fun _=>none):=by rw[hX2];exact bg.made _ _
    have hw1:Nw W X2:=hw0.trans hst (fun i h=>h.elim)
    have hz1:W.heap.size<=(X1).heap.size:=hw0.size;have Pv:M<(X1).heap.size:=hB.lt (.inr (.inl rfl));have hB:=hB.nw hst;refine aA (v:=.map (some (X1).heap.size)) (w':=X2) rfl (by kernel_rfl) (by rw[hX2];kernel_rfl) ⟨tX.out.nw hw1,?_⟩
    clear hX2;refine wpAnyH_take (i:=4) (v:=.agg (aU b G dn aQ ((X1).heap.size))) rfl (by kernel_rfl) (by kernel_rfl) (by kernel_rfl) (fun _ _ _ h=>h) (.inl ⟨by kernel_rfl,fun w'' hS=>?_⟩) (tX.out.nw hw1) ?_
    ·obtain⟨e0,e1,e2,e3,e4,e5,e6,e7,hde⟩:=nZ h8;rw[hde];kernel_rfl
    refine wpAnyH_all (rs:=[5]) (by kernel_rfl) (by simp) (fun j hj=>?_)
    obtain rfl:j=5:=by simpa using hj
    obtain⟨X3,rO⟩:∃X,X=(X2).alloc (.cells mO 185):=⟨_,rfl⟩;have hst:Nw (X2) X3:=by rw[rO];exact(Fr.refl _ _).alloc _
    have hC:af X3 (X2).heap.size mO 185:=by rw[rO];exact af.new _ _ _
    have hw2:Nw W X3:=hw1.trans hst (fun i h=>h.elim)
    have hz2:W.heap.size<=(X2).heap.size:=hw1.size;have hB:=hB.nw hst;have hm:=hm.nw hst;refine aA (v:=.pointer (some ⟨(X2).heap.size,0,none⟩)) (w':=X3) rfl (by kernel_rfl) (by rw[rO];kernel_rfl) ⟨tX.out.nw hw2,?_⟩
    clear rO;have hne:(X1).heap.size≠M:=by
     have h1:M<(X1).heap.size:=Pv;omega
    refine wpAnyH_all (rs:=[6]) (by kernel_rfl) (by simp) (fun j hj=>?_)
    obtain rfl:j=6:=by simpa using hj
    obtain⟨hcut,hnw,hfc,hT⟩:=kF X3 b M ((X1).heap.size) ((X2).heap.size) xQ hw2 hB hm hne hC (by omega) (by omega) (by omega) (by omega) (fun k hk=>by have:=hnl k hk;omega)
    refine dw (w':=(X3).setCells ((X2).heap.size) 0 (aU b G dn aQ ((X1).heap.size)).toList) rfl (by kernel_rfl) ?_ ⟨hT,wpAnyH_done (by kernel_rfl) ?_ _⟩
    ·simp only[Act.put,bQ,bW,bU,eH,eY,fC];exact lC 185 (.tmp 5) (.tmp 11) rfl ((X2).heap.size) 0 (aU b G dn aQ ((X1).heap.size)) rfl rfl (by rw[dK _ _ _ _ _ h8 rfl];exact hC.there) (by rw[dK _ _ _ _ _ h8 rfl];kernel_rfl) (jJ ..)
    simp only[Act.put,bQ,bW,bU,eH,eY,fC];go_wp2_with fail
    go_meet
    case rel=>exact⟨_,b,M,_,xQ,rfl,hcut,hnw,hfc⟩
   ·obtain⟨X2,hX2⟩:∃X,X=(X1).alloc (.cells mO 185):=⟨_,rfl⟩;have hst:Nw (X1) X2:=by rw[hX2];exact(Fr.refl _ _).alloc _
    have hC:af X2 (X1).heap.size mO 185:=by rw[hX2];exact af.new _ _ _
    have hw1:Nw W X2:=hw0.trans hst (fun i h=>h.elim)
    have hz1:W.heap.size<=(X1).heap.size:=hw0.size;have hB:=hB.nw hst;refine aA (v:=.pointer (some ⟨(X1).heap.size,0,none⟩)) (w':=X2) rfl (by kernel_rfl) (by rw[hX2];kernel_rfl) ⟨tX.out.nw hw1,?_⟩
    clear hX2;refine wpAnyH_all (rs:=[3]) (by kernel_rfl) (by simp) (fun j hj=>?_)
    obtain rfl:j=3:=by simpa using hj
    obtain⟨X3,rO⟩:∃X,X=(X2).alloc (.map #[] 0):=⟨_,rfl⟩;have hst:Nw (X2) X3:=by rw[rO];exact(Fr.refl _ _).alloc _
    have hm:bg X3 3 (X2).heap.size 0 (fun _=>none):=by rw[rO];exact bg.made _ _
    have hw2:Nw W X3:=hw1.trans hst (fun i h=>h.elim)
    have hz2:W.heap.size<=(X2).heap.size:=hw1.size;have Pv:M<(X2).heap.size:=hB.lt (.inr (.inl rfl));have hB:=hB.nw hst;have hC:=hC.nw hst;refine aA (v:=.map (some (X2).heap.size)) (w':=X3) rfl (by kernel_rfl) (by rw[rO];kernel_rfl) ⟨tX.out.nw hw2,?_⟩
    clear rO;refine wpAnyH_take (i:=4) (v:=.agg (aU b G dn aQ ((X2).heap.size))) rfl (by kernel_rfl) (by kernel_rfl) (by kernel_rfl) (fun _ _ _ h=>h) (.inl ⟨by kernel_rfl,fun w'' hS=>?_⟩) (tX.out.nw hw2) ?_
    ·obtain⟨e0,e1,e2,e3,e4,e5,e6,e7,hde⟩:=nZ h8;rw[hde];kernel_rfl
    have hne:(X2).heap.size≠M:=by
     have h1:M<(X2).heap.size:=Pv;omega
    refine wpAnyH_all (rs:=[6]) (by kernel_rfl) (by simp) (fun j hj=>?_)
    obtain rfl:j=6:=by simpa using hj
    obtain⟨hcut,hnw,hfc,hT⟩:=kF X3 b M ((X2).heap.size) ((X1).heap.size) xQ hw2 hB hm hne hC (by omega) (by omega) (by omega) (by omega) (fun k hk=>by have:=hnl k hk;omega)
    refine dw (w':=(X3).setCells ((X1).heap.size) 0 (aU b G dn aQ ((X2).heap.size)).toList) rfl (by kernel_rfl) ?_ ⟨hT,wpAnyH_done (by kernel_rfl) ?_ _⟩
    ·simp only[Act.put,bQ,bW,bU,eH,eY,fC];exact lC 185 (.tmp 5) (.tmp 11) rfl ((X1).heap.size) 0 (aU b G dn aQ ((X2).heap.size)) rfl rfl (by rw[dK _ _ _ _ _ h8 rfl];exact hC.there) (by rw[dK _ _ _ _ _ h8 rfl];kernel_rfl) (jJ ..)
    simp only[Act.put,bQ,bW,bU,eH,eY,fC];go_wp2_with fail
    go_meet
    case rel=>exact⟨_,b,M,_,xQ,rfl,hcut,hnw,hfc⟩
  ·obtain⟨X1,hX1⟩:∃X,X=(W.drew).alloc (.map #[] 0):=⟨_,rfl⟩;have hst:Nw (W.drew) X1:=by rw[hX1];exact(Fr.refl _ _).alloc _
   have hm:bg X1 3 (W.drew).heap.size 0 (fun _=>none):=by rw[hX1];exact bg.made _ _
   have hw0:Nw W X1:=hX0.trans hst (fun i h=>h.elim)
   have hz0:W.heap.size<=(W.drew).heap.size:=hX0.size;refine aA (v:=.map (some (W.drew).heap.size)) (w':=X1) rfl (by kernel_rfl) (by rw[hX1];kernel_rfl) ⟨tX.out.nw hw0,?_⟩
   clear hX1;refine wpAnyH_all (rs:=[0,5]) (by kernel_rfl) (by simp) (fun j hj=>?_)
   have hj':j=0\/j=5:=by simpa using hj
   rcases hj' with rfl | rfl
   ·refine dF (f:=66) (args:=#[]) (w':=X1) rfl (by kernel_rfl) (by kernel_rfl) ?_
    refine(iP X1).mono ?_
    rintro e X2 ⟨b,M,xQ,rfl,hB,hst,hbl,Gt,hnl⟩
    have hw1:Nw W X2:=hw0.trans hst (fun i h=>h.elim)
    have hz1:W.heap.size<=(X1).heap.size:=hw0.size;have Ht:(W.drew).heap.size<(X1).heap.size:=hm.lt;have hm:=hm.nw hst;refine⟨_,rfl,tX.out.nw hw1,?_⟩
    refine wpAnyH_take (i:=4) (v:=.agg (aU b G dn aQ ((W.drew).heap.size))) rfl (by kernel_rfl) (by kernel_rfl) (by kernel_rfl) (fun _ _ _ h=>h) (.inl ⟨by kernel_rfl,fun w'' hS=>?_⟩) (tX.out.nw hw1) ?_
    ·obtain⟨e0,e1,e2,e3,e4,e5,e6,e7,hde⟩:=nZ h8;rw[hde];kernel_rfl
    refine wpAnyH_all (rs:=[5]) (by kernel_rfl) (by simp) (fun j hj=>?_)
    obtain rfl:j=5:=by simpa using hj
    obtain⟨X3,rO⟩:∃X,X=(X2).alloc (.cells mO 185):=⟨_,rfl⟩;have hst:Nw (X2) X3:=by rw[rO];exact(Fr.refl _ _).alloc _
    have hC:af X3 (X2).heap.size mO 185:=by rw[rO];exact af.new _ _ _
    have hw2:Nw W X3:=hw1.trans hst (fun i h=>h.elim)
    have hz2:W.heap.size<=(X2).heap.size:=hw1.size;have hm:=hm.nw hst;have hB:=hB.nw hst;refine aA (v:=.pointer (some ⟨(X2).heap.size,0,none⟩)) (w':=X3) rfl (by kernel_rfl) (by rw[rO];kernel_rfl) ⟨tX.out.nw hw2,?_⟩
    clear rO;have hne:(W.drew).heap.size≠M:=by
     have h1:(X1).heap.size<=M:=Gt;have h2:(W.drew).heap.size<(X1).heap.size:=Ht;omega
    refine wpAnyH_all (rs:=[6]) (by kernel_rfl) (by simp) (fun j hj=>?_)
    obtain rfl:j=6:=by simpa using hj
    obtain⟨hcut,hnw,hfc,hT⟩:=kF X3 b M ((W.drew).heap.size) ((X2).heap.size) xQ hw2 hB hm hne hC (by omega) (by omega) (by omega) (by omega) (fun k hk=>by have:=hnl k hk;omega)
    refine dw (w':=(X3).setCells ((X2).heap.size) 0 (aU b G dn aQ ((W.drew).heap.size)).toList) rfl (by kernel_rfl) ?_ ⟨hT,wpAnyH_done (by kernel_rfl) ?_ _⟩
    ·simp only[Act.put,bQ,bW,bU,eH,eY,fC];exact lC 185 (.tmp 5) (.tmp 11) rfl ((X2).heap.size) 0 (aU b G dn aQ ((W.drew).heap.size)) rfl rfl (by rw[dK _ _ _ _ _ h8 rfl];exact hC.there) (by rw[dK _ _ _ _ _ h8 rfl];kernel_rfl) (jJ ..)
    simp only[Act.put,bQ,bW,bU,eH,eY,fC];go_wp2_with fail
    go_meet
    case rel=>exact⟨_,b,M,_,xQ,rfl,hcut,hnw,hfc⟩
   ·obtain⟨X2,hX2⟩:∃X,X=(X1).alloc (.cells mO 185):=⟨_,rfl⟩;have hst:Nw (X1) X2:=by rw[hX2];exact(Fr.refl _ _).alloc _
    have hC:af X2 (X1).heap.size mO 185:=by rw[hX2];exact af.new _ _ _
    have hw1:Nw W X2:=hw0.trans hst (fun i h=>h.elim)
    have hz1:W.heap.size<=(X1).heap.size:=hw0.size;have hm:=hm.nw hst;refine aA (v:=.pointer (some ⟨(X1).heap.size,0,none⟩)) (w':=X2) rfl (by kernel_rfl) (by rw[hX2];kernel_rfl) ⟨tX.out.nw hw1,?_⟩
    clear hX2;refine wpAnyH_all (rs:=[0]) (by kernel_rfl) (by simp) (fun j hj=>?_)
    obtain rfl:j=0:=by simpa using hj
    refine dF (f:=66) (args:=#[]) (w':=X2) rfl (by kernel_rfl) (by kernel_rfl) ?_
    refine(iP X2).mono ?_
    rintro e X3 ⟨b,M,xQ,rfl,hB,hst,hbl,Gt,hnl⟩
    have hw2:Nw W X3:=hw1.trans hst (fun i h=>h.elim)
    have hz2:W.heap.size<=(X2).heap.size:=hw1.size;have Ht:(W.drew).heap.size<(X2).heap.size:=hm.lt;have hm:=hm.nw hst;have hC:=hC.nw hst;refine⟨_,rfl,tX.out.nw hw2,?_⟩
    refine wpAnyH_take (i:=4) (v:=.agg (aU b G dn aQ ((W.drew).heap.size))) rfl (by kernel_rfl) (by kernel_rfl) (by kernel_rfl) (fun _ _ _ h=>h) (.inl ⟨by kernel_rfl,fun w'' hS=>?_⟩) (tX.out.nw hw2) ?_
    ·obtain⟨e0,e1,e2,e3,e4,e5,e6,e7,hde⟩:=nZ h8;rw[hde];kernel_rfl
    have hne:(W.drew).heap.size≠M:=by
     have h1:(X2).heap.size<=M:=Gt;have h2:(W.drew).heap.size<(X2).heap.size:=Ht;omega
    refine wpAnyH_all (rs:=[6]) (by kernel_rfl) (by simp) (fun j hj=>?_)
    obtain rfl:j=6:=by simpa using hj
    obtain⟨hcut,hnw,hfc,hT⟩:=kF X3 b M ((W.drew).heap.size) ((X1).heap.size) xQ hw2 hB hm hne hC (by omega) (by omega) (by omega) (by omega) (fun k hk=>by have:=hnl k hk;omega)
    refine dw (w':=(X3).setCells ((X1).heap.size) 0 (aU b G dn aQ ((W.drew).heap.size)).toList) rfl (by kernel_rfl) ?_ ⟨hT,wpAnyH_done (by kernel_rfl) ?_ _⟩
    ·simp only[Act.put,bQ,bW,bU,eH,eY,fC];exact lC 185 (.tmp 5) (.tmp 11) rfl ((X1).heap.size) 0 (aU b G dn aQ ((W.drew).heap.size)) rfl rfl (by rw[dK _ _ _ _ _ h8 rfl];exact hC.there) (by rw[dK _ _ _ _ _ h8 rfl];kernel_rfl) (jJ ..)
    simp only[Act.put,bQ,bW,bU,eH,eY,fC];go_wp2_with fail
    go_meet
    case rel=>exact⟨_,b,M,_,xQ,rfl,hcut,hnw,hfc⟩
  ·obtain⟨X1,hX1⟩:∃X,X=(W.drew).alloc (.cells mO 185):=⟨_,rfl⟩;have hst:Nw (W.drew) X1:=by rw[hX1];exact(Fr.refl _ _).alloc _
   have hC:af X1 (W.drew).heap.size mO 185:=by rw[hX1];exact af.new _ _ _
   have hw0:Nw W X1:=hX0.trans hst (fun i h=>h.elim)
   have hz0:W.heap.size<=(W.drew).heap.size:=hX0.size;refine aA (v:=.pointer (some ⟨(W.drew).heap.size,0,none⟩)) (w':=X1) rfl (by kernel_rfl) (by rw[hX1];kernel_rfl) ⟨tX.out.nw hw0,?_⟩
   clear hX1;refine wpAnyH_all (rs:=[0,3]) (by kernel_rfl) (by simp) (fun j hj=>?_)
   have hj':j=0\/j=3:=by simpa using hj
   rcases hj' with rfl | rfl
   ·refine dF (f:=66) (args:=#[]) (w':=X1) rfl (by kernel_rfl) (by kernel_rfl) ?_
    refine(iP X1).mono ?_
    rintro e X2 ⟨b,M,xQ,rfl,hB,hst,hbl,Gt,hnl⟩
    have hw1:Nw W X2:=hw0.trans hst (fun i h=>h.elim)
    have hz1:W.heap.size<=(X1).heap.size:=hw0.size;have hC:=hC.nw hst;refine⟨_,rfl,tX.out.nw hw1,?_⟩
    refine wpAnyH_all (rs:=[3]) (by kernel_rfl) (by simp) (fun j hj=>?_)
    obtain rfl:j=3:=by simpa using hj
    obtain⟨X3,rO⟩:∃X,X=(X2).alloc (.map #[] 0):=⟨_,rfl⟩;have hst:Nw (X2) X3:=by rw[rO];exact(Fr.refl _ _).alloc _
    have hm:bg X3 3 (X2).heap.size 0 (fun _=>none):=by rw[rO];exact bg.made _ _
    have hw2:Nw W X3:=hw1.trans hst (fun i h=>h.elim)
    have hz2:W.heap.size<=(X2).heap.size:=hw1.size;have Pv:M<(X2).heap.size:=hB.lt (.inr (.inl rfl));have hC:=hC.nw hst;have hB:=hB.nw hst;refine aA (v:=.map (some (X2).heap.size)) (w':=X3) rfl (by kernel_rfl) (by rw[rO];kernel_rfl) ⟨tX.out.nw hw2,?_⟩
    clear rO;refine wpAnyH_take (i:=4) (v:=.agg (aU b G dn aQ ((X2).heap.size))) rfl (by kernel_rfl) (by kernel_rfl) (by kernel_rfl) (fun _ _ _ h=>h) (.inl ⟨by kernel_rfl,fun w'' hS=>?_⟩) (tX.out.nw hw2) ?_
    ·obtain⟨e0,e1,e2,e3,e4,e5,e6,e7,hde⟩:=nZ h8;rw[hde];kernel_rfl
    have hne:(X2).heap.size≠M:=by
     have h1:M<(X2).heap.size:=Pv;omega
    refine wpAnyH_all (rs:=[6]) (by kernel_rfl) (by simp) (fun j hj=>?_)
    obtain rfl:j=6:=by simpa using hj
    obtain⟨hcut,hnw,hfc,hT⟩:=kF X3 b M ((X2).heap.size) ((W.drew).heap.size) xQ hw2 hB hm hne hC (by omega) (by omega) (by omega) (by omega) (fun k hk=>by have:=hnl k hk;omega)
    refine dw (w':=(X3).setCells ((W.drew).heap.size) 0 (aU b G dn aQ ((X2).heap.size)).toList) rfl (by kernel_rfl) ?_ ⟨hT,wpAnyH_done (by kernel_rfl) ?_ _⟩
    ·simp only[Act.put,bQ,bW,bU,eH,eY,fC];exact lC 185 (.tmp 5) (.tmp 11) rfl ((W.drew).heap.size) 0 (aU b G dn aQ ((X2).heap.size)) rfl rfl (by rw[dK _ _ _ _ _ h8 rfl];exact hC.there) (by rw[dK _ _ _ _ _ h8 rfl];kernel_rfl) (jJ ..)
    simp only[Act.put,bQ,bW,bU,eH,eY,fC];go_wp2_with fail
    go_meet
    case rel=>exact⟨_,b,M,_,xQ,rfl,hcut,hnw,hfc⟩
   ·obtain⟨X2,hX2⟩:∃X,X=(X1).alloc (.map #[] 0):=⟨_,rfl⟩;have hst:Nw (X1) X2:=by rw[hX2];exact(Fr.refl _ _).alloc _
    have hm:bg X2 3 (X1).heap.size 0 (fun _=>none):=by rw[hX2];exact bg.made _ _
    have hw1:Nw W X2:=hw0.trans hst (fun i h=>h.elim)
    have hz1:W.heap.size<=(X1).heap.size:=hw0.size;have hC:=hC.nw hst;refine aA (v:=.map (some (X1).heap.size)) (w':=X2) rfl (by kernel_rfl) (by rw[hX2];kernel_rfl) ⟨tX.out.nw hw1,?_⟩
    clear hX2;refine wpAnyH_all (rs:=[0]) (by kernel_rfl) (by simp) (fun j hj=>?_)
    obtain rfl:j=0:=by simpa using hj
    refine dF (f:=66) (args:=#[]) (w':=X2) rfl (by kernel_rfl) (by kernel_rfl) ?_
    refine(iP X2).mono ?_
    rintro e X3 ⟨b,M,xQ,rfl,hB,hst,hbl,Gt,hnl⟩
    have hw2:Nw W X3:=hw1.trans hst (fun i h=>h.elim)
    have hz2:W.heap.size<=(X2).heap.size:=hw1.size;have Ht:(X1).heap.size<(X2).heap.size:=hm.lt;have hC:=hC.nw hst;have hm:=hm.nw hst;refine⟨_,rfl,tX.out.nw hw2,?_⟩
    refine wpAnyH_take (i:=4) (v:=.agg (aU b G dn aQ ((X1).heap.size))) rfl (by kernel_rfl) (by kernel_rfl) (by kernel_rfl) (fun _ _ _ h=>h) (.inl ⟨by kernel_rfl,fun w'' hS=>?_⟩) (tX.out.nw hw2) ?_
    ·obtain⟨e0,e1,e2,e3,e4,e5,e6,e7,hde⟩:=nZ h8;rw[hde];kernel_rfl
    have hne:(X1).heap.size≠M:=by
     have h1:(X2).heap.size<=M:=Gt;have h2:(X1).heap.size<(X2).heap.size:=Ht;omega
    refine wpAnyH_all (rs:=[6]) (by kernel_rfl) (by simp) (fun j hj=>?_)
    obtain rfl:j=6:=by simpa using hj
    obtain⟨hcut,hnw,hfc,hT⟩:=kF X3 b M ((X1).heap.size) ((W.drew).heap.size) xQ hw2 hB hm hne hC (by omega) (by omega) (by omega) (by omega) (fun k hk=>by have:=hnl k hk;omega)
    refine dw (w':=(X3).setCells ((W.drew).heap.size) 0 (aU b G dn aQ ((X1).heap.size)).toList) rfl (by kernel_rfl) ?_ ⟨hT,wpAnyH_done (by kernel_rfl) ?_ _⟩
    ·simp only[Act.put,bQ,bW,bU,eH,eY,fC];exact lC 185 (.tmp 5) (.tmp 11) rfl ((W.drew).heap.size) 0 (aU b G dn aQ ((X1).heap.size)) rfl rfl (by rw[dK _ _ _ _ _ h8 rfl];exact hC.there) (by rw[dK _ _ _ _ _ h8 rfl];kernel_rfl) (jJ ..)
    simp only[Act.put,bQ,bW,bU,eH,eY,fC];go_wp2_with fail
    go_meet
    case rel=>exact⟨_,b,M,_,xQ,rfl,hcut,hnw,hfc⟩
 case rest=>
  obtain⟨C,b,M,Mv,nv,rfl,hC0,hnw,hfc⟩:=hcut;have hDc:=HD.out.nw (dM.trans hnw (fun i h=>h.elim))
  have hroot:wc.cell? ⟨G,2,none⟩=some (.int .i64 (root:Int)):=hDc.blk.cell 2
  have hWl:=uq.out;have hdis:∀k,(k=G\/k=g\/sU.ownBlock=some k)->¬FC C b M Mv nv k:=fun k hk hF=>by
   have h1:=HD.out.lt hk;have h2:=hfc k hF;omega
  have hcn:cnt vars.length<=259:=by
   have hl:vars.length=0\/vars.length=1\/vars.length=2\/vars.length=3\/vars.length=4:=by omega
   rcases hl with h | h | h | h | h <;> rw[h] <;> decide
  have hs0:qy s0 2:=⟨by decide,by decide,by decide,rfl,rC,fun k x h=>by cases h⟩
  have Hc:=hd (NJ C b M Mv G g cap sU vars os root dn h8 h4 hv aX hol vars.length 0 (by omega) root s0 nv 2 wc (by omega) (by omega) hs0 kS hC0.out hDc hdis)
  have hok:=pF os vars dn aX vars.length 0 root s0 2 (by omega) kS hs0
  have hfd:Pq os root vars dn=eu vars dn (tZ os root vars dn).1.sp vars.length:=rfl;have hdc:tZ os root vars dn=dO os vars dn vars.length 0 root s0:=rfl;rw[<-hdc] at Hc hok;obtain⟨res,hres⟩:∃res,tZ os root vars dn=res:=⟨_,rfl⟩;rw[hres] at Hc hok hfd;have pz:=hd hres;have Hfd:=hd hfd;have Yx:=hd (dM.trans hnw (fun i h=>h.elim))
  have HDc:=hd hDc;have Fa:=hd hdis;have HC0:=hC0;have Hfc:=hd hfc;have aey:=hd (tX.out.nw hnw);have aez:=hd (NC.out.nw hnw);clear hres hfd hdc hDc hdis hfc;go_upto_region 3 with (go_at_call 121;refine Hc.out.mono ?_;rintro e A ⟨rfl,xP,hCA,hfA,hnA⟩)
  have AB:=HDc.out.fr hfA Fa.out;have agJ:=hfA.size;have agK:=hnw.size;have hTF:∀k,k<W.heap.size->¬FC C b M Mv nv k:=fun k hk hF=>by have:=Hfc.out k hF;omega
  have hTA:=aey.out.fr hfA (hTF _ (by omega))
  have hRA:=aez.out.fr hfA (hTF _ (by omega))
  have e0:A.cell? ⟨C,0,none⟩=some (.pointer (some ⟨b,0,none⟩)):=hCA.blk.cell 0
  have e1:A.cell? ⟨b,0,none⟩=some xP:=hCA.vO.blk.cell 0
  have e2:A.cell? ⟨G,1,none⟩=some sU:=AB.blk.cell 1
  have e3:A.cell? ⟨G,2,none⟩=some (.int .i64 (root:Int)):=AB.blk.cell 2
  have f1:=AB.blk.free 1;have f2:=AB.blk.free 2;obtain⟨ng,iJ,Zx⟩:∃ng iJ,xP= .slice (some ⟨ng,0,none⟩) res.1.ns.length iJ:=by
   rcases hCA.vO.row.2 with ⟨_,h0⟩ | ⟨ng,iJ,cur,h,_⟩
   ·have:=hCA.vO.two;omega
   ·exact⟨ng,iJ,h⟩
  subst Zx;have SS:=hd AB;have HCA:=hd hCA;have HTA:=hd hTA;have HRA:=hd hRA;have HfA:=hd hfA;have WW:∀k,(Value.slice (some ⟨ng,0,none⟩) res.1.ns.length iJ).ownBlock=some k->W.heap.size<=k:=fun k hk=>by
   rcases hnA k hk with h | h
   ·exact Hfc.out k (.inr (.inr (.inr (.inr h))))
   ·omega
  clear AB hCA hTA hRA hfA hroot Hc hnA hWl;go_upto_region 4 with fail
  have hne:g≠G:=fun e=>by subst e;exact SS.out.rv.ne SS.out.blk (by decide) rfl
  obtain⟨Y,hY⟩:∃Y,Y=(A.setCell ⟨G,1,none⟩ (.slice (some ⟨ng,0,none⟩) res.1.ns.length iJ)).setCell ⟨G,2,none⟩ (.int .i64 (res.2:Int)):=⟨_,rfl⟩;have rG:Fr (fun k=>k=G) A Y:=by rw[hY];exact((Fr.refl (fun k=>k=G) A).setCell ⟨G,1,none⟩ _ (.inl rfl)).setCell ⟨G,2,none⟩ _ (.inl rfl)
  have V7:af Y G #[.slice (some ⟨g,0,none⟩) vars.length cap,.slice (some ⟨ng,0,none⟩) res.1.ns.length iJ,.int .i64 (res.2:Int)] 125:=by
   rw[hY];have h5:=(SS.out.blk.set 1 (.slice (some ⟨ng,0,none⟩) res.1.ns.length iJ)).set 2 (.int .i64 (res.2:Int));simpa using h5
  rw[<-hY];have hWl:=uq.out;have agL:=WW ng rfl;have hDY:yZ Y G g cap (.slice (some ⟨ng,0,none⟩) res.1.ns.length iJ) vars res.1.ns res.2:=
   ⟨V7,SS.out.rv.fr rG (fun k hk e=>hne (by cases hk;exact e)),ownsRow.fr HCA.out.vO.row rG (fun k hk e=>by have:=WW k hk;omega),HCA.out.vO.ok,HCA.out.vO.two⟩
  have V8:=HTA.out.fr rG (by omega)
  have hRY:=HRA.out.fr rG (by omega)
  have Aa:=Hfc.out C (.inl rfl);have WX:=HCA.out.blk.fr rG (by omega)
  obtain⟨m0,m1,m2,m3,m4,m5,m6,m7,hmv⟩:=iV hok.1.sp;have C9:=hd hmv;have y0:Y.cell? ⟨G,0,none⟩=some (.slice (some ⟨g,0,none⟩) vars.length cap):=V7.cell 0
  obtain⟨c0,c1,c2,c3,c4,c5,c6,c7⟩:=cZ (Hdv.out▸V8);have z0:Y.cell? ⟨C,10,none⟩=some m0:=(WX.cell 10).trans (by have h:=iD b G dn res.1.sp Mv 0 h8 hok.1.sp (by omega);rw[h];have h2:=dh res.1.sp 0 (by have:=hok.1.sp;omega);rw[C9.out] at h2;exact h2.symm)
  have z1:Y.cell? ⟨C,11,none⟩=some m1:=(WX.cell 11).trans (by have h:=iD b G dn res.1.sp Mv 1 h8 hok.1.sp (by omega);rw[h];have h2:=dh res.1.sp 1 (by have:=hok.1.sp;omega);rw[C9.out] at h2;exact h2.symm)
  have z2:Y.cell? ⟨C,12,none⟩=some m2:=(WX.cell 12).trans (by have h:=iD b G dn res.1.sp Mv 2 h8 hok.1.sp (by omega);rw[h];have h2:=dh res.1.sp 2 (by have:=hok.1.sp;omega);rw[C9.out] at h2;exact h2.symm)
  have z3:Y.cell? ⟨C,13,none⟩=some m3:=(WX.cell 13).trans (by have h:=iD b G dn res.1.sp Mv 3 h8 hok.1.sp (by omega);rw[h];have h2:=dh res.1.sp 3 (by have:=hok.1.sp;omega);rw[C9.out] at h2;exact h2.symm)
  have z4:Y.cell? ⟨C,14,none⟩=some m4:=(WX.cell 14).trans (by have h:=iD b G dn res.1.sp Mv 4 h8 hok.1.sp (by omega);rw[h];have h2:=dh res.1.sp 4 (by have:=hok.1.sp;omega);rw[C9.out] at h2;exact h2.symm)
  have z5:Y.cell? ⟨C,15,none⟩=some m5:=(WX.cell 15).trans (by have h:=iD b G dn res.1.sp Mv 5 h8 hok.1.sp (by omega);rw[h];have h2:=dh res.1.sp 5 (by have:=hok.1.sp;omega);rw[C9.out] at h2;exact h2.symm)
  have z6:Y.cell? ⟨C,16,none⟩=some m6:=(WX.cell 16).trans (by have h:=iD b G dn res.1.sp Mv 6 h8 hok.1.sp (by omega);rw[h];have h2:=dh res.1.sp 6 (by have:=hok.1.sp;omega);rw[C9.out] at h2;exact h2.symm)
  have z7:Y.cell? ⟨C,17,none⟩=some m7:=(WX.cell 17).trans (by have h:=iD b G dn res.1.sp Mv 7 h8 hok.1.sp (by omega);rw[h];have h2:=dh res.1.sp 7 (by have:=hok.1.sp;omega);rw[C9.out] at h2;exact h2.symm)
  have hFY:Fr (fun k=>k=G) w Y:=((Yx.out.mono (S':=fun k=>k=G) (fun i h=>h.elim)).trans HfA.out (fun k h=>.inr (by have:=Hfc.out k h;omega))).trans rG (fun k h=>.inl h)
  have HFY:=hd hFY;have HDY:=hd hDY;have HRY:=hd hRY;have Hv2:=hd (hDY.rv.drew.ints);clear hFY hDY hRY V8 WX V7 hY hmv rG e0 e1 e2 e3 f1 f2 hWl;go_still_tail 7,(by kernel_rfl)
  go_wp2_with fail
  rw[<-Hdv.out,<-C9.out];refine(qi (some ⟨g,0,none⟩) cap vars dn res.1.sp _ h4 hv Hv2.out h8 hok.1.sp).mono ?_
  rintro e w3 ⟨rfl,hf3⟩
  have hrl:(eu vars dn res.1.sp vars.length).length=8:=by rw[gy];exact h8
  obtain⟨r0,r1,r2,r3,r4,r5,r6,r7,yT⟩:=iV hrl;have Dc:=HRY.out.drew.nw hf3;obtain⟨t0,t1,t2,t3,t4,t5,t6,t7⟩:=cZ Dc;have hfz:∀i,w3.frozen? ⟨w.heap.size+1,i,none⟩=false:=Dc.free
  rw[yT];have V5:=hd yT;have HR3:=hd Dc;have HF3:Hid (Fr (fun k=>k=G) w w3):=(HFY.out.drew).trans hf3 (fun i h=>h.elim)
  have HD3:=hd (HDY.out.nw (Fr.trans ((Fr.refl (fun _=>False) Y).drew) hf3 (fun i h=>h.elim)))
  have ho:=iO (eu vars dn res.1.sp vars.length) yT;clear yT Dc c0 c1 c2 c3 c4 c5 c6 c7 z0 z1 z2 z3 z4 z5 z6 z7;obtain⟨⟨p0,rfl⟩,⟨p1,rfl⟩,⟨p2,rfl⟩,⟨p3,rfl⟩,⟨p4,rfl⟩,⟨p5,rfl⟩,⟨p6,rfl⟩,⟨p7,rfl⟩⟩:=ho;go_wp2
  have hWl:=uq.out;have hB:=af.abQ HR3.out V5.out;have tV:=HF3.out.mJ (w.heap.size+1) 0 1 2 3 4 5 6 7 (.int .u8 p0) (.int .u8 p1) (.int .u8 p2) (.int .u8 p3) (.int .u8 p4) (.int .u8 p5) (.int .u8 p6) (.int .u8 p7) (.inr (by omega))
  have hFg:=(Fr.refl (fun k=>k=w.heap.size+1) w3).mJ (w.heap.size+1) 0 1 2 3 4 5 6 7 (.int .u8 p0) (.int .u8 p1) (.int .u8 p2) (.int .u8 p3) (.int .u8 p4) (.int .u8 p5) (.int .u8 p6) (.int .u8 p7) (.inl rfl)
  have hD8:=HD3.out.fr hFg (fun k hk e=>by
   rcases hk with h | h | h
   ·omega
   ·have:=HD.out.lt (.inr (.inl h));omega
   ·have:=WW k h;omega)
  generalize hX8:((((((((w3.setCell ⟨w.heap.size+1,0,none⟩ (Value.int .u8 p0)).setCell ⟨w.heap.size+1,1,none⟩ (Value.int .u8 p1)).setCell ⟨w.heap.size+1,2,none⟩ (Value.int .u8 p2)).setCell ⟨w.heap.size+1,3,none⟩ (Value.int .u8 p3)).setCell ⟨w.heap.size+1,4,none⟩ (Value.int .u8 p4)).setCell ⟨w.heap.size+1,5,none⟩ (Value.int .u8 p5)).setCell ⟨w.heap.size+1,6,none⟩ (Value.int .u8 p6)).setCell ⟨w.heap.size+1,7,none⟩ (Value.int .u8 p7))=X8 at hB tV hD8 ⊢
  obtain⟨q0,q1,q2,q3,q4,q5,q6,q7⟩:=cZ (V5.out▸hB);refine bodyPost_ret (v:=.agg (ay (Pq os root vars dn))) ?_ rfl ⟨rfl,tV,_,by rw[pz.out];exact hD8,fun k hk=>by have:=WW k hk;omega⟩
  rw[Hfd.out,V5.out];simp[results,Tryz.results118,go_sem,q0,q1,q2,q3,q4,q5,q6,q7]
set_option maxRecDepth 1000000 in
theorem KF (G g cap:Nat) (sU:Value) (vars:List Int) (os:List (List Nat)) (root:Nat) (w:World) (hD:yZ w G g cap sU vars os root):
  Calls Tryz.prog 119 #[.pointer (some ⟨G,0,none⟩)] w fun e w'=>e= .returned (.agg #[.int .u64 0,sU,.int .i64 (root:Int)])/\Nw w w':=by
 obtain⟨og,kR,hon,_⟩:=hD.node;subst hon;have hf:Nw w (w.alloc (.cells #[.int .u64 0,.slice none 0 0,.int .i64 0] 137)):=(Fr.refl _ w).alloc _;obtain⟨W,hW⟩:∃W,W=w.alloc (.cells #[.int .u64 0,.slice none 0 0,.int .i64 0] 137):=⟨_,rfl⟩;have hb:af W w.heap.size #[.int .u64 0,.slice none 0 0,.int .i64 0] 137:=by rw[hW];exact af.new _ _ _
 have dM:Nw w W:=by rw[hW];exact hf
 have e1:W.cell? ⟨G,1,none⟩=some (.slice (some ⟨og,0,none⟩) os.length kR):=(hD.nw dM).blk.cell 1
 have e2:W.cell? ⟨G,2,none⟩=some (.int .i64 (root:Int)):=(hD.nw dM).blk.cell 2
 have q0:W.cell? ⟨w.heap.size,0,none⟩=some (.int .u64 0):=hb.cell 0
 have q1:W.cell? ⟨w.heap.size,1,none⟩=some (.slice none 0 0):=hb.cell 1
 have q2:W.cell? ⟨w.heap.size,2,none⟩=some (.int .i64 0):=hb.cell 2
 have f0:=hb.free;have Hb:=hd hb;have HW:=hd hW;clear hb hW hD hf;go_enter Tryz.func119,Tryz.ntmps119
 go_upto_region 1 with fail
 rw[<-HW.out];go_still_tail 9,(by kernel_rfl)
 go_wp2
 have hB:=((Hb.out.set 0 (.int .u64 0)).set 1 (.slice (some ⟨og,0,none⟩) os.length kR)).set 2 (.int .i64 (root:Int));have hF:=(((dM.setCell ⟨w.heap.size,0,none⟩ (.int .u64 0) (.inr (Nat.le_refl _))).setCell ⟨w.heap.size,1,none⟩ (.slice (some ⟨og,0,none⟩) os.length kR) (.inr (Nat.le_refl _))).setCell ⟨w.heap.size,2,none⟩ (.int .i64 (root:Int)) (.inr (Nat.le_refl _))).drew;obtain⟨X,hX⟩:∃X,X=(((W.setCell ⟨w.heap.size,0,none⟩ (Value.int .u64 0)).setCell ⟨w.heap.size,1,none⟩ (Value.slice (some ⟨og,0,none⟩) os.length kR)).setCell ⟨w.heap.size,2,none⟩ (Value.int .i64 (root:Int))).drew:=⟨_,rfl⟩;have hB':af X w.heap.size #[.int .u64 0,.slice (some ⟨og,0,none⟩) os.length kR,.int .i64 (root:Int)] 137:=by
  rw[hX];have h5:=hB.drew;simpa using h5
 rw[<-hX] at hF ⊢;have p0:X.cell? ⟨w.heap.size,0,none⟩=some (.int .u64 0):=hB'.cell 0
 have p1:X.cell? ⟨w.heap.size,1,none⟩=some (.slice (some ⟨og,0,none⟩) os.length kR):=hB'.cell 1
 have p2:X.cell? ⟨w.heap.size,2,none⟩=some (.int .i64 (root:Int)):=hB'.cell 2
 refine bodyPost_ret (v:=.agg #[.int .u64 0,.slice (some ⟨og,0,none⟩) os.length kR,.int .i64 (root:Int)]) ?_ rfl ⟨rfl,hF⟩
 simp[results,Tryz.results119,go_sem,p0,p1,p2]
theorem Dj (G:Nat) (v:Value) (W:World) (h:W.cell? ⟨G,0,none⟩=some v):
  (method 292 89 (.pointer (some ⟨G, 0, none⟩)) "Changed").run Tryz.prog W = .ok (116, .agg #[v]) W := by
 have h1 : (method 292 89 (.pointer (some ⟨G, 0, none⟩)) "Changed").run Tryz.prog W =
   match W.cell? ⟨G,0,none⟩ with
   | some v=>.ok (116,.agg #[v]) W
   | none=>match W.farLoad Tryz.prog ⟨G,0,none⟩ (Mode.plain == .atomic) with
    | .ok (v,_)=>.ok (116,.agg #[v]) W
    | .error h=>.halt h W:=by kernel_rfl
 rw[h1,h]
theorem Fb (G : Nat) (W : World) : (method 292 89 (.pointer (some ⟨G, 0, none⟩)) "Narrow").run Tryz.prog W = .ok (118, .pointer (some ⟨G, 0, none⟩)) W := by kernel_rfl
theorem Hw (G : Nat) (W : World) : (method 292 89 (.pointer (some ⟨G, 0, none⟩)) "State").run Tryz.prog W = .ok (119, .pointer (some ⟨G, 0, none⟩)) W := by kernel_rfl
set_option maxRecDepth 1000000 in
theorem Px (vb iT:Nat) (ro:Option Addr) (ak au:Nat) (vars:List Int) (rows:List (List Int)) (nt:Bool) (dn:List Nat) (w:World) (h8:dn.length=8) (hv0:0<vars.length) (h4:vars.length<=4)
  (hv:∀i,i<vars.length->0<=vars.getD i 0/\vars.getD i 0<8) (aX:∀q,dn.getD q 0<64) (hrl:rows.length<=60) (hrow:∀j,j<rows.length->(rows.getD j []).length=vars.length)
  (hvs:ax w (some ⟨vb,iT,none⟩) vars) (hrs:dW w ro rows):
  Calls Tryz.prog 26 #[.agg #[.slice (some ⟨vb,iT,none⟩) vars.length ak,.slice ro rows.length au,.bool nt,.int .i64 2],.agg (ay dn)] w fun e w'=>
   ∃G g cap nv,e= .returned (.iface 89 (.pointer (some ⟨G,0,none⟩)))/\Nw w w'/\yZ w' G g cap nv vars (aY vars nt dn vars.length 0 rows [zero6,zero6]).1 (aY vars nt dn vars.length 0 rows [zero6,zero6]).2/\w.heap.size<=G/\w.heap.size<=g/\(∀k,nv.ownBlock=some k->w.heap.size<=k):=by
 obtain⟨v0,v1,v2,v3,v4,v5,v6,v7,hdv⟩:=iV h8;obtain⟨W,hW⟩:∃W,W=(w.alloc (.cells #[.slice (some ⟨vb,iT,none⟩) vars.length ak,.slice ro rows.length au,.bool nt,.int .i64 2] 41)).alloc (.cells (ay dn) 60):=⟨_,rfl⟩;have dM:Nw w W:=by rw[hW];exact((Fr.refl _ w).alloc _).alloc _
 have pU:af W w.heap.size #[.slice (some ⟨vb,iT,none⟩) vars.length ak,.slice ro rows.length au,.bool nt,.int .i64 2] 41:=by rw[hW];exact(af.new _ _ _).alloc _
 have hbD:af W (w.heap.size+1) (ay dn) 60:=by
  rw[hW];have:=af.new (w.alloc (.cells #[.slice (some ⟨vb,iT,none⟩) vars.length ak,.slice ro rows.length au,.bool nt,.int .i64 2] 41)) (ay dn) 60
  rw[tY] at this;exact this
 have t0:W.cell? ⟨w.heap.size,0,none⟩=some (.slice (some ⟨vb,iT,none⟩) vars.length ak):=pU.cell 0
 have t1:W.cell? ⟨w.heap.size,1,none⟩=some (.slice ro rows.length au):=pU.cell 1
 have t2:W.cell? ⟨w.heap.size,2,none⟩=some (.bool nt):=pU.cell 2
 have t3:W.cell? ⟨w.heap.size,3,none⟩=some (.int .i64 2):=pU.cell 3
 obtain⟨c0,c1,c2,c3,c4,c5,c6,c7⟩:=cZ (hdv▸hbD);have Hn:=hd (AQ vb iT ro ak au vars rows nt 2 dn W h8 hv0 h4 hv aX hrl hrow (hvs.nw dM) (hrs.nw dM));have HW:=hd hW;have Hdv:=hd hdv;clear hW pU hbD hdv;go_enter Tryz.func26,Tryz.ntmps26
 go_upto_region 1 with fail
 rw[<-HW.out];go_wp2_with fail
 rw[<-Hdv.out];refine Hn.out.mono ?_
 rintro e w1 ⟨G,g,cap,nv,rfl,hf1,hD1,V9,hgl,hnl⟩
 have hs:=dM.size;go_wp2
 go_ret
 exact⟨G,g,cap,nv,rfl,dM.trans hf1 (fun i h=>h.elim),hD1,by omega,by omega,fun k hk=>by have:=hnl k hk;omega⟩
end Go.Proofs.YtkjfpdfkcfgfkaaGreat
namespace Go.Proofs.YtkjfpdfkcfgfkaaGreat
open Go.RowKit
theorem abS (G:Nat) (W:World):(Instr.typeAssert (.iface 91 (.pointer (some ⟨G,0,none⟩))) 73 91 true).run Tryz.prog W= .ok (.tuple #[.pointer (some ⟨G,0,none⟩),.bool true]) W:=by kernel_rfl
theorem ZB (G:Nat) (W:World):(Instr.typeAssert (.iface 89 (.pointer (some ⟨G,0,none⟩))) 73 91 true).run Tryz.prog W= .ok (.tuple #[.pointer none,.bool false]) W:=by kernel_rfl
theorem aeA (G:Nat) (W:World):(Instr.typeAssert (.iface 89 (.pointer (some ⟨G,0,none⟩))) 73 89 true).run Tryz.prog W= .ok (.tuple #[.pointer (some ⟨G,0,none⟩),.bool true]) W:=by kernel_rfl
set_option maxRecDepth 1000000 in
theorem KG (G:Nat) (vv:Value) (nt:Bool) (br:List Nat) (live live0:Nat) (nv:Value) (r:Int) (w:World) (sN:br.length=24) (hG:af w G (bf vv nt br live) 131):
  Calls Tryz.prog 74 #[.iface 91 (.pointer (some ⟨G,0,none⟩)),.agg #[.int .u64 (live0:Int),nv,.int .i64 r]] w fun e w'=>e= .returned (.tuple #[])/\Fr (fun k=>k=G) w w'/\af w' G (bf vv nt br live0) 131:=by
 obtain⟨W,hW⟩:∃W,W=w.alloc (.cells #[.int .u64 (live0:Int),nv,.int .i64 r] 137):=⟨_,rfl⟩;have dM:Nw w W:=by rw[hW];exact(Fr.refl _ w).alloc _
 have hb:af W w.heap.size #[.int .u64 (live0:Int),nv,.int .i64 r] 137:=by rw[hW];exact af.new _ _ _
 have JU:=hG.nw dM;have c0:W.cell? ⟨w.heap.size,0,none⟩=some (.int .u64 (live0:Int)):=hb.cell 0
 have c1:W.cell? ⟨G,26,none⟩=some (.int .u64 (live:Int)):=(JU.cell 26).trans (jH _ _ _ _ sN)
 have f1:=JU.free 26;have HGW:=hd JU;have HW:=hd hW;have hta:=abS G;clear hb JU hG hW;go_enter Tryz.func74,Tryz.ntmps74
 go_upto_region 1 with fail
 rw[<-HW.out];go_wp2
 go_end0
 refine⟨rfl,(dM.mono (fun i h=>h.elim)).setCell _ _ (.inl rfl),?_⟩
 have h5:=HGW.out.set 26 (.int .u64 (live0:Int));rw[mG _ _ _ _ _ sN] at h5;exact h5
set_option maxRecDepth 1000000 in
theorem Py (G g cap:Nat) (sU nv:Value) (vars:List Int) (os ns:List (List Nat)) (root r:Nat) (u:Value) (w:World) (hD:yZ w G g cap sU vars os root) (hrow:w.ownsRow 0 151 6 nv ns.length (ns.flatMap aT)) (hok:∀n∈ns,jP n) (h2:2<=ns.length) (We:nv.ownBlock≠some G):
  Calls Tryz.prog 74 #[.iface 89 (.pointer (some ⟨G,0,none⟩)),.agg #[u,nv,.int .i64 (r:Int)]] w fun e w'=>e= .returned (.tuple #[])/\Fr (fun k=>k=G) w w'/\yZ w' G g cap nv vars ns r:=by
 obtain⟨ng,iJ,CU⟩:∃ng iJ,nv= .slice (some ⟨ng,0,none⟩) ns.length iJ:=by
  rcases hrow.2 with ⟨_,h0⟩ | ⟨ng,iJ,cur,h,_⟩
  ·omega
  ·exact⟨ng,iJ,h⟩
 subst CU;obtain⟨W,hW⟩:∃W,W=w.alloc (.cells #[u,.slice (some ⟨ng,0,none⟩) ns.length iJ,.int .i64 (r:Int)] 137):=⟨_,rfl⟩;have dM:Nw w W:=by rw[hW];exact(Fr.refl _ w).alloc _
 have hb:af W w.heap.size #[u,.slice (some ⟨ng,0,none⟩) ns.length iJ,.int .i64 (r:Int)] 137:=by rw[hW];exact af.new _ _ _
 have YC:=hD.nw dM;have c0:W.cell? ⟨w.heap.size,1,none⟩=some (.slice (some ⟨ng,0,none⟩) ns.length iJ):=hb.cell 1
 have c1:W.cell? ⟨w.heap.size,2,none⟩=some (.int .i64 (r:Int)):=hb.cell 2
 have e1:W.cell? ⟨G,1,none⟩=some sU:=YC.blk.cell 1
 have e2:W.cell? ⟨G,2,none⟩=some (.int .i64 (root:Int)):=YC.blk.cell 2
 have f1:=YC.blk.free;have hta:=ZB G;have htb:=aeA G;have aeB:=hD.blk.lt;have HDW:=hd YC;have HW:=hd hW;have Hb:=hd hb;clear hb YC hD hW;go_enter Tryz.func74,Tryz.ntmps74
 go_upto_region 1 with fail
 rw[<-HW.out];go_upto_region 7 with fail
 have uI:=HDW.out.blk.lt;have V9:G<w.heap.size:=aeB;have hK0:af W.drew w.heap.size #[u,.slice (some ⟨ng,0,none⟩) ns.length iJ,.int .i64 (r:Int)] 137:=Hb.out.drew;refine wp_region_held (S:=fun w''=>af w'' w.heap.size #[u,.slice (some ⟨ng,0,none⟩) ns.length iJ,.int .i64 (r:Int)] 137) (by kernel_rfl) ?_
 refine wpAnyH_take (i:=0) (v:=.pointer (some ⟨G,0,none⟩)) rfl (by kernel_rfl) (by kernel_rfl) (by kernel_rfl) (fun _ _ _ h=>h) (.inl ⟨by kernel_rfl,fun w'' hS=>by kernel_rfl⟩) hK0 ?_
 refine wpAnyH_take (i:=1) (v:=.pointer (some ⟨G,0,none⟩)) rfl (by kernel_rfl) (by kernel_rfl) (by kernel_rfl) (fun _ _ _ h=>h) (.inl ⟨by kernel_rfl,fun w'' hS=>by kernel_rfl⟩) hK0 ?_
 refine wpAnyH_take (i:=2) (v:=.pointer (some ⟨w.heap.size,1,none⟩)) rfl (by kernel_rfl) (by kernel_rfl) (by kernel_rfl) (fun _ _ _ h=>h) (.inl ⟨by kernel_rfl,fun w'' hS=>by kernel_rfl⟩) hK0 ?_
 refine wpAnyH_take (i:=3) (v:=.slice (some ⟨ng,0,none⟩) ns.length iJ) rfl (by kernel_rfl) (by kernel_rfl) (by kernel_rfl) (fun _ _ _ h=>h) (.inl ⟨by kernel_rfl,fun w'' hS=>?_⟩) hK0 ?_
 ·have q0:w''.cell? ⟨w.heap.size,1,none⟩=some (.slice (some ⟨ng,0,none⟩) ns.length iJ):=hS.cell 1
  clear hK0 hS hok hrow hta htb f1;simp only[Act.put,bQ,bW,bU,eH,eY,fC];go_simp
 refine wpAnyH_take (i:=4) (v:=.pointer (some ⟨w.heap.size,2,none⟩)) rfl (by kernel_rfl) (by kernel_rfl) (by kernel_rfl) (fun _ _ _ h=>h) (.inl ⟨by kernel_rfl,fun w'' hS=>by kernel_rfl⟩) hK0 ?_
 refine wpAnyH_take (i:=5) (v:=.int .i64 (r:Int)) rfl (by kernel_rfl) (by kernel_rfl) (by kernel_rfl) (fun _ _ _ h=>h) (.inl ⟨by kernel_rfl,fun w'' hS=>?_⟩) hK0 ?_
 ·have q0:w''.cell? ⟨w.heap.size,2,none⟩=some (.int .i64 (r:Int)):=hS.cell 2
  clear hK0 hS hok hrow hta htb f1;simp only[Act.put,bQ,bW,bU,eH,eY,fC];go_simp
 refine wpAnyH_take (i:=6) (v:=.pointer (some ⟨G,0,none⟩)) rfl (by kernel_rfl) (by kernel_rfl) (by kernel_rfl) (fun _ _ _ h=>h) (.inl ⟨by kernel_rfl,fun w'' hS=>by kernel_rfl⟩) hK0 ?_
 refine wpAnyH_take (i:=7) (v:=.pointer (some ⟨G,1,none⟩)) rfl (by kernel_rfl) (by kernel_rfl) (by kernel_rfl) (fun _ _ _ h=>h) (.inl ⟨by kernel_rfl,fun w'' hS=>by kernel_rfl⟩) hK0 ?_
 obtain⟨Y,hY⟩:∃Y,Y=W.drew.setCell ⟨G,1,none⟩ (.slice (some ⟨ng,0,none⟩) ns.length iJ):=⟨_,rfl⟩;have rG:Fr (fun k=>k=G) W Y:=by rw[hY];exact((Fr.refl (fun k=>k=G) W).drew).setCell ⟨G,1,none⟩ _ (.inl rfl)
 have V7:af Y G #[.slice (some ⟨g,0,none⟩) vars.length cap,.slice (some ⟨ng,0,none⟩) ns.length iJ,.int .i64 (root:Int)] 125:=by
  rw[hY];have h5:=HDW.out.blk.drew.set 1 (.slice (some ⟨ng,0,none⟩) ns.length iJ);simpa using h5
 have V8:af Y w.heap.size #[u,.slice (some ⟨ng,0,none⟩) ns.length iJ,.int .i64 (r:Int)] 137:=Hb.out.fr rG (by omega)
 refine wpAnyH_all (rs:=[8]) (by kernel_rfl) (by simp) (fun j hj=>?_)
 obtain rfl:j=8:=by simpa using hj
 refine dw (w':=Y) rfl (by kernel_rfl) ?_ ⟨V8,?_⟩
 ·rw[hY];clear hK0 hok hrow hta htb hY rG V7 V8;simp only[Act.put,bQ,bW,bU,eH,eY,fC];go_simp
 clear hY;refine wpAnyH_all (rs:=[9]) (by kernel_rfl) (by simp) (fun j hj=>?_)
 obtain rfl:j=9:=by simpa using hj
 refine aA (v:=.pointer (some ⟨G,0,none⟩)) (w':=Y) rfl (by kernel_rfl) (by kernel_rfl) ⟨V8,?_⟩
 refine wpAnyH_all (rs:=[10]) (by kernel_rfl) (by simp) (fun j hj=>?_)
 obtain rfl:j=10:=by simpa using hj
 refine aA (v:=.pointer (some ⟨G,2,none⟩)) (w':=Y) rfl (by kernel_rfl) (by kernel_rfl) ⟨V8,?_⟩
 have y2:Y.cell? ⟨G,2,none⟩=some (.int .i64 (root:Int)):=V7.cell 2
 have g2:=V7.free 2;obtain⟨Z,hZ⟩:∃Z,Z=Y.setCell ⟨G,2,none⟩ (.int .i64 (r:Int)):=⟨_,rfl⟩;have qm:Fr (fun k=>k=G) Y Z:=by rw[hZ];exact(Fr.refl (fun k=>k=G) Y).setCell ⟨G,2,none⟩ _ (.inl rfl)
 have hGZ:af Z G #[.slice (some ⟨g,0,none⟩) vars.length cap,.slice (some ⟨ng,0,none⟩) ns.length iJ,.int .i64 (r:Int)] 125:=by
  rw[hZ];have h5:=V7.set 2 (.int .i64 (r:Int));simpa using h5
 refine wpAnyH_all (rs:=[11]) (by kernel_rfl) (by simp) (fun j hj=>?_)
 obtain rfl:j=11:=by simpa using hj
 refine dw (w':=Z) rfl (by kernel_rfl) ?_ ⟨V8.fr qm (by omega),wpAnyH_done (by kernel_rfl) ?_ _⟩
 ·rw[hZ];clear hK0 hok hrow hta htb rG V7 V8 hZ qm hGZ f1 e1 e2 c0 c1;simp only[Act.put,bQ,bW,bU,eH,eY,fC];go_simp
 simp only[Act.put,bQ,bW,bU,eH,eY,fC];have hFZ:Fr (fun k=>k=G) w Z:=((dM.mono (fun i h=>h.elim)).trans rG (fun k h=>.inl h)).trans qm (fun k h=>.inl h)
 have V6:Fr (fun k=>k=G) W Z:=rG.trans qm (fun k h=>.inl h)
 have hDZ:yZ Z G g cap (.slice (some ⟨ng,0,none⟩) ns.length iJ) vars ns r:=
  ⟨hGZ,HDW.out.rv.fr V6 (fun k hk e=>by subst e;exact HDW.out.rv.ne HDW.out.blk (by decide) hk),ownsRow.fr (ownsRow.fr hrow dM (fun _ _ x=>x)) V6 (fun k hk e=>We (by rw[<-e];exact hk)),hok,h2⟩
 have HFZ:=hd hFZ;have HDZ:=hd hDZ;clear hFZ V6 hDZ hGZ qm hZ V7 V8 rG hK0 c0 c1 e1 e2 f1 y2 g2 hta htb;go_wp2
 go_end0
 exact⟨rfl,HFZ.out,HDZ.out⟩
end Go.Proofs.YtkjfpdfkcfgfkaaGreat
