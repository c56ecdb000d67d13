/- Parts of the proof, number 4: contracts of the functions that the statement calls. -/
import Derived.Test.YtkjfpdfkcfgfkaaGreatM3
import Derived.Laws.AppendOwnNone
set_option maxHeartbeats 6400000
namespace Go.Proofs.YtkjfpdfkcfgfkaaGreat
open Go.RowKit
def wR (w:World) (ao:Option Addr) (bs:List Bool):Prop:=∀v,v<bs.length->∃b o,ao=some ⟨b,o,none⟩/\b<w.heap.size/\w.cell? ⟨b,o+v,none⟩=some (.bool (bs.getD v false))
def qE (w:World) (ao:Option Addr) (bss:List (List Bool)):Prop:=∀u,u<bss.length->∃b o qo qc,ao=some ⟨b,o,none⟩/\b<w.heap.size/\w.cell? ⟨b,o+u,none⟩=some (.slice qo (bss.getD u []).length qc)/\wR w qo (bss.getD u [])
theorem wR.nw {w w':World} {ao:Option Addr} {bs:List Bool} (h:wR w ao bs) (f:Nw w w'):wR w' ao bs:=fun v hv=>by
 obtain⟨b,o,rfl,hb,hc⟩:=h v hv;exact⟨b,o,rfl,Nat.lt_of_lt_of_le hb f.size,(f.cell hb (fun x=>x)).trans hc⟩
theorem qE.nw {w w':World} {ao:Option Addr} {bss:List (List Bool)} (h:qE w ao bss) (f:Nw w w'):qE w' ao bss:=fun u hu=>by
 obtain⟨b,o,qo,qc,rfl,hb,hc,hr⟩:=h u hu;exact⟨b,o,qo,qc,rfl,Nat.lt_of_lt_of_le hb f.size,(f.cell hb (fun x=>x)).trans hc,hr.nw f⟩
structure qF where
 Y:Nat
 vo:Option Addr
 ro:Option Addr
 io:Option Addr
 ak:Nat
 au:Nat
 icap:Nat
 vars:List Int
 rows:List (List Int)
 nt:Bool
 way:Int
 bss:List (List Bool)
 place:Nat
 value:Nat
structure qF.Ok (E:qF) (W:World):Prop where
 v4:E.vars.length<=4
 r60:E.rows.length<=60
 i8:E.bss.length<=8
 b6:∀u,u<E.bss.length->(E.bss.getD u []).length<=6
 vin:∀i,i<E.vars.length->0<=E.vars.getD i 0/\E.vars.getD i 0<E.bss.length
 row:∀j,j<E.rows.length->(E.rows.getD j []).length=E.vars.length
 vs:ax W E.vo E.vars
 rs:dW W E.ro E.rows
 ins:qE W E.io E.bss
 cell:W.cell? ⟨E.Y,1,none⟩=some (.slice E.io E.bss.length E.icap)
 lt:E.Y<W.heap.size
 pv:E.place<4/\E.value<6
def qF.inB (E:qF) (i v:Nat):Bool:=(E.bss.getD (E.vars.getD i 0).toNat []).getD v false
def qF.Ex (E:qF) (l:List Nat):Prop:=∃L:List Nat,L.length=E.vars.length/\l <+: L/\(∀q,l.length<=q->q<E.vars.length->E.inB q (L.getD q 0)=true)/\(l.length<=E.place->E.place<E.vars.length->L.getD E.place 0=E.value)/\jA E.rows E.nt L=true
theorem Iw {l x:List Nat} (h:l <+: x) (q:Nat) (hq:q<l.length):x.getD q 0=l.getD q 0:=by
 obtain⟨r,rfl⟩:=h;simp[List.getD,List.getElem?_append_left hq]
theorem PS (l:List Nat) (v:Nat):(l++[v]).getD l.length 0=v:=by simp[List.getD]
theorem qF.Ex.up {E:qF} {l:List Nat} {v:Nat} (hin:E.inB l.length v=true) (hp:l.length=E.place->v=E.value) (h:E.Ex (l++[v])):E.Ex l:=by
 obtain⟨L,h1,h2,h3,h4,h5⟩:=h;have hv:L.getD l.length 0=v:=by rw[Iw h2 _ (by simp),PS]
 refine⟨L,h1,(List.prefix_append _ _).trans h2,fun q hq1 hq2=>?_,fun hp1 hp2=>?_,h5⟩
 ·by_cases e:q=l.length
  ·rw[e,hv];exact hin
  ·exact h3 q (by rw[List.length_append,List.length_singleton];omega) hq2
 ·by_cases e:l.length=E.place
  ·rw[<-e,hv];exact hp e
  ·exact h4 (by rw[List.length_append,List.length_singleton];omega) hp2
theorem qF.Ex.down {E:qF} {l:List Nat} (hl:l.length<E.vars.length) (h:E.Ex l):∃v,E.inB l.length v=true/\(l.length=E.place->v=E.value)/\E.Ex (l++[v]):=by
 obtain⟨L,h1,h2,h3,h4,h5⟩:=h;refine⟨L.getD l.length 0,h3 _ (Nat.le_refl _) hl,fun e=>?_,L,h1,?_,fun q hq1 hq2=>?_,fun hp1 hp2=>?_,h5⟩
 ·have:=h4 (by omega) (by omega)
  rw[<-e] at this;exact this
 ·obtain⟨r,rfl⟩:=h2;cases r with
  | nil=>simp at h1;omega
  | cons x r=>
   have:(l++x::r).getD l.length 0=x:=by simp[List.getD]
   rw[this];exact⟨r,by simp⟩
 ·exact h3 q (by rw[List.length_append,List.length_singleton] at hq1;omega) hq2
 ·exact h4 (by rw[List.length_append,List.length_singleton] at hp1;omega) hp2
def TD (w:World) (lv:Value) (l:List Nat):Prop:=(l=[]/\lv= .slice none 0 0)\/∃b o c,lv= .slice (some ⟨b,o,none⟩) l.length c/\ax w (some ⟨b,o,none⟩) (jc l)
theorem TD.nw {w w':World} {lv:Value} {l:List Nat} (h:TD w lv l) (f:Nw w w'):TD w' lv l:=by
 rcases h with h | ⟨b,o,c,h1,h2⟩
 ·exact .inl h
 ·exact .inr ⟨b,o,c,h1,h2.nw f⟩
theorem TD.form {w:World} {lv:Value} {l:List Nat} (h:TD w lv l):∃lo lc,lv= .slice lo l.length lc/\ax w lo (jc l):=by
 rcases h with ⟨rfl,rfl⟩ | ⟨b,o,c,rfl,h2⟩
 ·exact⟨none,0,rfl,fun i hi=>absurd hi (Nat.not_lt_zero _)⟩
 ·exact⟨_,_,rfl,h2⟩
theorem Row.lat {w:World} {v:Value} {l:List Nat} (h:Row w v 3 ((jc l).map (Value.int .i64))):TD w v l:=by
 obtain⟨ro,rc,hf,_⟩:=h.form;rw[List.length_map,iE] at hf;subst hf;have hI:ax w ro (jc l):=by
  have h':Row w (.slice ro (jc l).length rc) 3 ((jc l).map (Value.int .i64)):=by rw[iE];exact h
  exact h'.oC
 by_cases h0:l.length=0
 ·have e:=List.eq_nil_of_length_eq_zero h0;subst e;cases ro with
  | none=>
   rcases h.2 with ⟨hv,_⟩ | ⟨g,cap,cur,hv,_⟩
   ·exact .inl ⟨rfl,hv⟩
   ·simp at hv
  | some ad=>
   rcases h.2 with ⟨hv,_⟩ | ⟨g,cap,cur,hv,_⟩
   ·simp at hv
   ·simp only[Value.slice.injEq,Option.some.injEq] at hv;obtain⟨rfl,_,rfl⟩:=hv;exact .inr ⟨_,_,_,rfl,hI⟩
 ·obtain⟨b,o,rfl,_,_⟩:=hI 0 (by rw[iE];omega)
  exact .inr ⟨b,o,rc,rfl,hI⟩
noncomputable def ZG:Array Oper:=gU Tryz.f94 4
structure abZ (E:qF) (W:World) (l:List Nat) (e:Ending) (w':World):Prop where
 ans:∃b,e= .returned (.bool b)/\(b=true↔E.Ex l)
 nw:Nw W w'
def Fp (E:qF) (W:World) (m:Nat):Prop:=∀(l:List Nat) (lv:Value) (w:World),l.length+m=E.vars.length->Nw W w->TD w lv l ->
  Calls Tryz.prog 94 #[.pointer (some ⟨E.Y,0,none⟩),.agg #[.slice E.vo E.vars.length E.ak,.slice E.ro E.rows.length E.au,.bool E.nt,.int .i64 E.way],lv,.int .i64 (E.place:Int),.int .i64 (E.value:Int)] w fun e w'=>abZ E w l e w'
set_option maxRecDepth 1000000 in
theorem KZ (E:qF) (W:World) (hE:E.Ok W) (m:Nat) (IH:∀m',m'<m->Fp E W m'):Fp E W m:=by
  intro l lv w hm hf hl;obtain⟨lo,lc,hlv,JZ⟩:=hl.form;obtain⟨i0,hi0,hz0,hz1,hz2⟩:=info_parts Tryz.jU;obtain⟨B,hB⟩:∃B,B=w.heap.size:=⟨_,rfl⟩;obtain⟨V,hV⟩:∃V,V=w.alloc (.cells #[.slice E.vo E.vars.length E.ak,.slice E.ro E.rows.length E.au,.bool E.nt,.int .i64 E.way] 41):=⟨_,rfl⟩;have fA:Nw w V:=by rw[hV];exact(Fr.refl _ w).alloc _
  have hbB:af V B #[.slice E.vo E.vars.length E.ak,.slice E.ro E.rows.length E.au,.bool E.nt,.int .i64 E.way] 41:=by rw[hV,hB];exact af.new _ _ _
  have Hf:=hd (hf.trans fA (fun _ x=>x.elim))
  have HwV:=hd fA;have Hl:=hd (hl.nw fA);have HIl:=hd (JZ.nw fA);have JY:=hd hbB;have HE:=hd hE;have h4:=hE.v4;subst hlv;clear hf hl JZ fA hbB hE;go_enter Tryz.func94,Tryz.ntmps94
  go_upto_region 1 with fail
  rw[<-hV,<-hB];clear hV hB;have c0:V.cell? ⟨B,0,none⟩=some (.slice E.vo E.vars.length E.ak):=JY.out.cell 0
  have c1:V.cell? ⟨B,1,none⟩=some (.slice E.ro E.rows.length E.au):=JY.out.cell 1
  have c2:V.cell? ⟨B,2,none⟩=some (.bool E.nt):=JY.out.cell 2
  have c3:V.cell? ⟨B,3,none⟩=some (.int .i64 E.way):=JY.out.cell 3
  have hBl:=JY.out.lt;cases m with
  | zero=>
   have hle:((l.length:Int)==(E.vars.length:Int))=true:=by simp;omega
   have aK:=hd (uD E.vo E.ro lo E.ak E.au lc E.vars.length (jc l) E.rows E.nt E.way V h4 (by rw[iE];omega) HE.out.r60 HE.out.row (HE.out.rs.nw Hf.out) HIl.out)
   have Heq:Hid (yF E.rows (jc l) E.nt=true↔E.Ex l):=hd (by
    rw[Eb (fun j hj=>by rw[HE.out.row j hj];omega)]
    constructor
    ·intro h;exact⟨l,by omega,List.prefix_refl _,fun q h1 h2=>by omega,fun h1 h2=>by omega,h⟩
    ·rintro⟨L,h1,⟨r,rfl⟩,_,_,h5⟩
     have:r=[]:=List.eq_nil_of_length_eq_zero (by simp at h1;omega)
     rw[this,List.append_nil] at h5;exact h5)
   have hlv:E.vars.length=l.length:=by omega
   rw[hlv] at aK c0 ⊢;go_wp2_with fail
   refine aK.out.mono ?_
   rintro e w1 ⟨rfl,hf1⟩
   have Hf1:=hd (HwV.out.trans hf1 (fun _ x=>x.elim))
   clear hf1 aK;go_wp2_with fail
   go_ret
   exact⟨⟨_,rfl,Heq.out⟩,Hf1.out⟩
  | succ m=>
   have hlt:l.length<E.vars.length:=by omega
   have hle:((l.length:Int)==(E.vars.length:Int))=false:=by rw[beq_eq_false_iff_ne];omega
   have ab1:(l.length:Int)<(E.vars.length:Int):=by omega
   have ih:∀(v:Nat) (lv:Value) (A:World),Nw W A->TD A lv (l++[v])->Calls Tryz.prog 94 #[.pointer (some ⟨E.Y,0,none⟩),.agg #[.slice E.vo E.vars.length E.ak,.slice E.ro E.rows.length E.au,.bool E.nt,.int .i64 E.way],lv,.int .i64 (E.place:Int),.int .i64 (E.value:Int)] A fun e w'=>abZ E A (l++[v]) e w':=fun v lv A hA hl=>IH m (by omega) (l++[v]) lv A (by rw[List.length_append,List.length_singleton];omega) hA hl
   have JV:=hd ih;clear ih IH;obtain⟨vb,iT,Wh,hvl,CW⟩:=(HE.out.vs.nw Hf.out) l.length hlt;obtain⟨hv0,hv1⟩:=HE.out.vin l.length hlt;obtain⟨u,hu⟩:∃u:Nat,E.vars.getD l.length 0=(u:Int):=⟨(E.vars.getD l.length 0).toNat,by omega⟩
   rw[hu] at CW hv1;have Xa:u<E.bss.length:=by omega
   obtain⟨ib,PT,qo,qc,hie,hil,hic,hRow⟩:=(HE.out.ins.nw Hf.out) u Xa;have hb6:=HE.out.b6 u Xa;have ZH:∀v,E.inB l.length v=(E.bss.getD u []).getD v false:=fun v=>by
    unfold qF.inB;rw[hu,Int.toNat_natCast]
   obtain⟨bs,hbs⟩:∃bs,E.bss.getD u []=bs:=⟨_,rfl⟩;rw[hbs] at hic hRow hb6 ZH;have cY:V.cell? ⟨E.Y,1,none⟩=some (.slice E.io E.bss.length E.icap):=(Hf.out.cell HE.out.lt (fun x=>x)).trans HE.out.cell
   have hYl:E.Y<V.heap.size:=Nat.lt_of_lt_of_le HE.out.lt Hf.out.size;have hp4:=HE.out.pv;rw[hie] at cY;rw[Wh] at c0;have ab2:=hd ZH;have Fq:=hd hRow;have Hup:=hd (fun v=>qF.Ex.up (E:=E) (l:=l) (v:=v))
   have TE:=hd (qF.Ex.down (E:=E) (l:=l) hlt);clear hu hbs hRow ZH hie Wh;obtain⟨Yv,hYv⟩:∃Yv,E.Y=Yv:=⟨_,rfl⟩;obtain⟨pl,hpl⟩:∃pl,E.place=pl:=⟨_,rfl⟩;obtain⟨va,hva⟩:∃va,E.value=va:=⟨_,rfl⟩;rw[hYv] at cY hYl JV ⊢;rw[hpl] at hp4 JV Hup TE ⊢;rw[hva] at hp4 JV Hup TE ⊢;clear hYv hpl hva;go_wp2_with fail
   have hK0:Nw V V.drew:=(Fr.refl _ V).drew;refine eF ZG 12 (fun w''=>Nw V w'') (by kernel_rfl) (by kernel_rfl) (by kernel_rfl) ?_
   refine take_at (i:=0) (d:=some 26) (v:=.pointer (some ⟨Yv,0,none⟩)) (by kernel_rfl) (by kernel_rfl) (fun _ _ _ h=>h) (fun w'' hS=>by kernel_rfl) hK0 ?_
   refine take_at (i:=1) (d:=some 27) (v:=.pointer (some ⟨Yv,0,none⟩)) (by kernel_rfl) (by kernel_rfl) (fun _ _ _ h=>h) (fun w'' hS=>by kernel_rfl) hK0 ?_
   refine take_at (i:=2) (d:=some 28) (v:=.pointer (some ⟨Yv,1,none⟩)) (by kernel_rfl) (by kernel_rfl) (fun _ _ _ h=>h) (fun w'' hS=>by kernel_rfl) hK0 ?_
   refine take_at (i:=3) (d:=some 29) (v:=.slice (some ⟨ib,PT,none⟩) E.bss.length E.icap) (by kernel_rfl) (by kernel_rfl) (fun _ _ _ h=>h) (fun w'' hS=>aj 79 (.tmp 28) (by kernel_rfl) (by kernel_rfl) (by kernel_rfl) ((hS.cell hYl (fun x=>x)).trans cY)) hK0 ?_
   refine take_at (i:=4) (d:=some 30) (v:=.pointer (some ⟨B,0,none⟩)) (by kernel_rfl) (by kernel_rfl) (fun _ _ _ h=>h) (fun w'' hS=>by kernel_rfl) hK0 ?_
   refine take_at (i:=5) (d:=some 31) (v:=.slice (some ⟨vb,iT,none⟩) E.vars.length E.ak) (by kernel_rfl) (by kernel_rfl) (fun _ _ _ h=>h) (fun w'' hS=>aj 22 (.tmp 30) (by kernel_rfl) (by kernel_rfl) (by kernel_rfl) ((hS.cell hBl (fun x=>x)).trans c0)) hK0 ?_
   refine take_at (i:=6) (d:=some 32) (v:=.int .i64 (l.length:Int)) (by kernel_rfl) (by kernel_rfl) (fun _ _ _ h=>h) (fun w'' hS=>by kernel_rfl) hK0 ?_
   refine take_at (i:=7) (d:=some 33) (v:=.pointer (some ⟨vb,iT+l.length,none⟩)) (by kernel_rfl) (by kernel_rfl) (fun _ _ _ h=>h) (fun w'' hS=>jb (i:=l.length) (n:=E.vars.length) (cap:=E.ak) 22 3 (.tmp 31) (.tmp 32) (by kernel_rfl) (by kernel_rfl) (by kernel_rfl) hlt (by kernel_rfl) (by kernel_rfl)) hK0 ?_
   refine take_at (i:=8) (d:=some 34) (v:=.int .i64 (u:Int)) (by kernel_rfl) (by kernel_rfl) (fun _ _ _ h=>h) (fun w'' hS=>aj 3 (.tmp 33) (by kernel_rfl) (by kernel_rfl) (by kernel_rfl) ((hS.cell hvl (fun x=>x)).trans CW)) hK0 ?_
   refine take_at (i:=9) (d:=some 35) (v:=.pointer (some ⟨ib,PT+u,none⟩)) (by kernel_rfl) (by kernel_rfl) (fun _ _ _ h=>h) (fun w'' hS=>jb (i:=u) (n:=E.bss.length) (cap:=E.icap) 79 84 (.tmp 29) (.tmp 34) (by kernel_rfl) (by kernel_rfl) (by kernel_rfl) Xa (by kernel_rfl) (by kernel_rfl)) hK0 ?_
   refine take_at (i:=10) (d:=some 36) (v:=.slice qo bs.length qc) (by kernel_rfl) (by kernel_rfl) (fun _ _ _ h=>h) (fun w'' hS=>aj 84 (.tmp 35) (by kernel_rfl) (by kernel_rfl) (by kernel_rfl) ((hS.cell hil (fun x=>x)).trans hic)) hK0 ?_
   refine dG (i:=11) (d:=some 12) (v:=.slice qo bs.length qc) (w':=V.drew) (by kernel_rfl) (by kernel_rfl) (by kernel_rfl) hK0 ?_
   refine wpAnyH_done (by kernel_rfl) ?_ _
   simp only[Act.put,bQ,bW,bU];have HVn:=hd Hf.out.drew;have HwU:=hd HwV.out.drew;have HlV:=hd (Hl.out.nw ((Fr.refl (fun _=>False) V).drew))
   have Xb:=hd JY.out.drew;have HRV:=hd (Fq.out.nw ((Fr.refl (fun _=>False) V).drew))
   obtain⟨U,hU⟩:∃U,V.drew=U:=⟨_,rfl⟩;rw[hU] at HVn HwU HlV Xb HRV ⊢;clear Hf Hl HIl JY Fq c0 c1 c2 c3 hBl cY hYl hvl CW hil hic hU hK0;go_wp2_with fail
   go_loopw [13,14,15] (fun v _ _ wr=>∃k:Nat,k<=bs.length/\v= .int .i64 (k:Int)/\Hid (∀x,x<k->bs.getD x false=true->(l.length=pl->x=va)->¬E.Ex (l++[x]))/\Hid (Nw U wr)) (fun v _ _ _=>bs.length-(intOf v).toNat)
   case atStart=>exact⟨0,by omega,rfl,fun x hx=>absurd hx (Nat.not_lt_zero _),Fr.refl _ _⟩
   case round=>
    obtain⟨k,hk,rfl,Hno,HN⟩:=hrel;by_cases hkl:k<bs.length
    ·have hdk:(k:Int)<(bs.length:Int):=by omega
     obtain⟨qb,YD,hqe,La,hqc⟩:=(HRV.out.nw HN.out) k hkl;subst hqe;have gY:Hid (bs.getD k false=false\/(l.length=pl/\k≠va)\/¬E.Ex (l++[k])->∀x,x<k+1->bs.getD x false=true->(l.length=pl->x=va)->¬E.Ex (l++[x])):=fun hc x hx h1 h2=>by
      by_cases e:x=k
      ·subst e;rcases hc with hc | hc | hc
       ·rw[hc] at h1;cases h1
       ·exact absurd (h2 hc.1) hc.2
       ·exact hc
      ·exact Hno.out x (by omega) h1 h2
     have TB:Hid (bs.getD k false=true->(l.length=pl->k=va)->E.Ex (l++[k])->E.Ex l):=fun h1 h2 h3=>Hup.out k (by rw[ab2.out];exact h1) h2 h3
     obtain⟨x,hx⟩:∃x,bs.getD k false=x:=⟨_,rfl⟩;rw[hx] at hqc gY TB;clear hx;cases x with
     | false=>
      go_wp2_with fail
      exact⟨⟨k+1,by omega,by simp,gY.out (.inl rfl),HN⟩,by simp[intOf];omega⟩
     | true=>
      have hB1:=Xb.out.nw HN.out;have d0:wr.cell? ⟨B,0,none⟩=some (.slice E.vo E.vars.length E.ak):=hB1.cell 0
      have d1:wr.cell? ⟨B,1,none⟩=some (.slice E.ro E.rows.length E.au):=hB1.cell 1
      have d2:wr.cell? ⟨B,2,none⟩=some (.bool E.nt):=hB1.cell 2
      have d3:wr.cell? ⟨B,3,none⟩=some (.int .i64 E.way):=hB1.cell 3
      have Iy:=hB1.lt;have HB1:=hd hB1;clear hB1;by_cases hsk:l.length=pl/\k≠va
      ·obtain⟨hp,hkv⟩:=hsk;have hpb:((l.length:Int)==(pl:Int))=true:=by rw[hp];simp
       have hkb:((k:Int)==(va:Int))=false:=by rw[beq_eq_false_iff_ne];omega
       have hkn:((k:Int) != (va:Int))=true:=by simp;omega
       have Hp:=hd hp;clear hp;go_wp2_with fail
       exact⟨⟨k+1,by omega,by simp,gY.out (.inr (.inl ⟨Hp.out,hkv⟩)),HN⟩,by simp[intOf];omega⟩
      ·have ZI:Hid (l.length=pl->k=va):=fun h=>Classical.byContradiction fun hn=>hsk ⟨h,hn⟩
       clear hsk;by_cases hp:l.length=pl
       ·have hkv:=ZI.out hp;have hpb:((l.length:Int)==(pl:Int))=true:=by rw[hp];simp
        have hkb:((k:Int)==(va:Int))=true:=by rw[hkv];simp
        have hkn:((k:Int) != (va:Int))=false:=by rw[hkv];simp
        clear hp hkv;go_upto_region 10 with fail
        go_cut [14] (fun mv wx=>Hid (Row wx mv 3 ((jc l).map (Value.int .i64)))/\Hid (Nw wr wx)/\Hid (∀q,mv.ownBlock=some q->wr.heap.size<=q))
        case first=>
         rcases HlV.out.nw HN.out with ⟨hl0,Bi⟩ | ⟨lb,PO,gp,Bi,JZ⟩
         ·simp only[Value.slice.injEq] at Bi;obtain⟨rfl,h00,rfl⟩:=Bi;clear h00;have Hl0:=hd hl0;have Hsl:Hid (Value.slice none l.length 0= .slice none 0 0):=hd (by rw[hl0];rfl)
          clear hl0;go_wp2_with (at_builtin;refine wpList_append_own_none rfl _ _ 22 rfl 0 3 i0 1 Tryz.underlying22 hi0 _ 0 [] rfl (World.ownsRow_nil _ _ _ _) Hsl.out ?_)
          go_meet
          exact⟨by rw[Hl0.out];exact Row.nil _ _,Fr.refl _ _,fun q hq=>(by cases hq)⟩
         ·simp only[Value.slice.injEq] at Bi;obtain⟨rfl,_,rfl⟩:=Bi;have hsrc:∀(j:Nat) (v:Value),((jc l).map (Value.int .i64))[j]? = some v->wr.cell? ((⟨lb,PO,none⟩:Addr).add j)=some v:=fun j v hj=>by
           have hjl:j<(jc l).length:=by
            have:=(List.getElem?_eq_some_iff.1 hj).1
            simpa using this
           obtain⟨b',o',he,_,hc⟩:=JZ j hjl;simp only[Option.some.injEq,Addr.mk.injEq,and_true] at he;obtain⟨rfl,rfl⟩:=he;rw[show (⟨lb,PO,none⟩:Addr).add j=⟨lb,PO+j,none⟩ from by by_cases h:j=0 <;> simp[Addr.add,h],hc]
           rw[List.getElem?_map,List.getElem?_eq_getElem hjl] at hj
           simp only[Option.map_some,Option.some.injEq] at hj;rw[<-hj];simp[List.getD,hjl]
          have Fv:=hd hsrc;have TF:=hd (iE l);clear hsrc JZ;go_wp2_with (at_builtin;refine wpList_append_own_at _ rfl _ _ 22 rfl 0 3 i0 (.int .i64 0) 1 8 Tryz.underlying22 hi0 hz0 hz1 hz2 rfl (by decide) _ 0 [] rfl (World.ownsRow_nil _ _ _ _) ⟨lb,PO,none⟩ l.length lc ((jc l).map (Value.int .i64)) rfl (by rw[List.length_map,TF.out];simp) Fv.out (ints_oneCell _ _) (by unfold maxLen;omega) (by omega) (Nat.zero_le _) ?_;intro v' w2 hown' hgrow _ hat)
          go_meet
          refine⟨?_,(Fr.refl _ wr).grown hgrow (fun k hk=>(by cases hk)),fun q hq=>?_⟩
          rotate_left
          ·rcases hat with hat | hat
           ·rw[hat] at hq;cases hq
           ·rw[hat] at hq;cases hq;exact Nat.le_refl _
          have h1:=hown';rw[Nat.zero_add,List.nil_append] at h1;show w2.ownsRow 0 3 1 v' ((jc l).map (Value.int .i64)).length _
          rw[List.length_map,TF.out];exact h1
        case rest=>
         obtain⟨HR2,Wi,Hw2⟩:=hcut;rename World=>w2
         obtain⟨mo,mc,hmf,_⟩:=HR2.out.form;rw[List.length_map,iE] at hmf;subst hmf;have HB2:=hd (HB1.out.nw Wi.out);clear d0 d1 d2 d3 Iy;have TF:=hd (iE l);go_wp2_with (at_builtin;refine wpList_append_own_at _ rfl _ _ 22 rfl 0 3 i0 (.int .i64 0) 1 8 Tryz.underlying22 hi0 hz0 hz1 hz2 rfl (by decide) _ _ _ rfl (Row.alloc HR2.out _) ⟨_,0,none⟩ 1 1 [.int .i64 (k:Int)] rfl rfl (cell_one_new _ _ _) (by simp[Value.oneCell']) (by rw[List.length_map,TF.out];unfold maxLen;omega) (by rw[List.length_map,TF.out];omega) (Nat.zero_le _) ?_;intro v' w3 hown' hgrow _ hat;obtain⟨g',cap',rfl,hr3,hf3,AA,hlt3⟩:=app1 hown' hgrow hat;have ZJ:=hd (Row.lat (l:=l++[k]) (by rw[show (jc (l++[k])).map (Value.int .i64)=(jc l).map (Value.int .i64)++[.int .i64 (k:Int)] by simp[jc]];exact hr3));have NI:=hd (Wi.out.trans hf3 (fun i hi=>.inr (Hw2.out i hi)));have HB3:=hd (HB2.out.fr hf3 (fun h=>absurd (Hw2.out _ h) (by have:=HB1.out.lt;omega)));have d0:w3.cell? ⟨B,0,none⟩=some (.slice E.vo E.vars.length E.ak):=HB3.out.cell 0;have d1:w3.cell? ⟨B,1,none⟩=some (.slice E.ro E.rows.length E.au):=HB3.out.cell 1;have d2:w3.cell? ⟨B,2,none⟩=some (.bool E.nt):=HB3.out.cell 2;have d3:w3.cell? ⟨B,3,none⟩=some (.int .i64 E.way):=HB3.out.cell 3;have ab3:=HB3.out.lt;clear hown' hgrow hat hr3 hf3 AA)
         rw[List.length_map] at ZJ;refine(JV.out k _ _ (HVn.out.trans (HN.out.trans NI.out (fun _ x=>x.elim)) (fun _ x=>x.elim)) ZJ.out).mono ?_
         rintro e w5 ⟨⟨b,rfl,hb⟩,hf5⟩
         have Hb:=hd hb;have Wj:=hd (HN.out.trans (NI.out.trans hf5 (fun _ x=>x.elim)) (fun _ x=>x.elim))
         clear hb hf5;cases b with
         | true=>
          go_wp2_with fail
          go_ret
          exact⟨⟨true,rfl,⟨fun _=>TB.out trivial ZI.out (Hb.out.1 trivial),fun _=>rfl⟩⟩,HwU.out.trans Wj.out (fun _ x=>x.elim)⟩
         | false=>
          go_wp2_with fail
          exact⟨⟨k+1,by omega,by simp,gY.out (.inr (.inr (fun h=>absurd (Hb.out.2 h) (by simp)))),Wj⟩,by simp[intOf];omega⟩
       ·have hpb:((l.length:Int)==(pl:Int))=false:=by rw[beq_eq_false_iff_ne];omega
        go_upto_region 10 with fail
        go_cut [14] (fun mv wx=>Hid (Row wx mv 3 ((jc l).map (Value.int .i64)))/\Hid (Nw wr wx)/\Hid (∀q,mv.ownBlock=some q->wr.heap.size<=q))
        case first=>
         rcases HlV.out.nw HN.out with ⟨hl0,Bi⟩ | ⟨lb,PO,gp,Bi,JZ⟩
         ·simp only[Value.slice.injEq] at Bi;obtain⟨rfl,h00,rfl⟩:=Bi;clear h00;have Hl0:=hd hl0;have Hsl:Hid (Value.slice none l.length 0= .slice none 0 0):=hd (by rw[hl0];rfl)
          clear hl0;go_wp2_with (at_builtin;refine wpList_append_own_none rfl _ _ 22 rfl 0 3 i0 1 Tryz.underlying22 hi0 _ 0 [] rfl (World.ownsRow_nil _ _ _ _) Hsl.out ?_)
          go_meet
          exact⟨by rw[Hl0.out];exact Row.nil _ _,Fr.refl _ _,fun q hq=>(by cases hq)⟩
         ·simp only[Value.slice.injEq] at Bi;obtain⟨rfl,_,rfl⟩:=Bi;have hsrc:∀(j:Nat) (v:Value),((jc l).map (Value.int .i64))[j]? = some v->wr.cell? ((⟨lb,PO,none⟩:Addr).add j)=some v:=fun j v hj=>by
           have hjl:j<(jc l).length:=by
            have:=(List.getElem?_eq_some_iff.1 hj).1
            simpa using this
           obtain⟨b',o',he,_,hc⟩:=JZ j hjl;simp only[Option.some.injEq,Addr.mk.injEq,and_true] at he;obtain⟨rfl,rfl⟩:=he;rw[show (⟨lb,PO,none⟩:Addr).add j=⟨lb,PO+j,none⟩ from by by_cases h:j=0 <;> simp[Addr.add,h],hc]
           rw[List.getElem?_map,List.getElem?_eq_getElem hjl] at hj
           simp only[Option.map_some,Option.some.injEq] at hj;rw[<-hj];simp[List.getD,hjl]
          have Fv:=hd hsrc;have TF:=hd (iE l);clear hsrc JZ;go_wp2_with (at_builtin;refine wpList_append_own_at _ rfl _ _ 22 rfl 0 3 i0 (.int .i64 0) 1 8 Tryz.underlying22 hi0 hz0 hz1 hz2 rfl (by decide) _ 0 [] rfl (World.ownsRow_nil _ _ _ _) ⟨lb,PO,none⟩ l.length lc ((jc l).map (Value.int .i64)) rfl (by rw[List.length_map,TF.out];simp) Fv.out (ints_oneCell _ _) (by unfold maxLen;omega) (by omega) (Nat.zero_le _) ?_;intro v' w2 hown' hgrow _ hat)
          go_meet
          refine⟨?_,(Fr.refl _ wr).grown hgrow (fun k hk=>(by cases hk)),fun q hq=>?_⟩
          rotate_left
          ·rcases hat with hat | hat
           ·rw[hat] at hq;cases hq
           ·rw[hat] at hq;cases hq;exact Nat.le_refl _
          have h1:=hown';rw[Nat.zero_add,List.nil_append] at h1;show w2.ownsRow 0 3 1 v' ((jc l).map (Value.int .i64)).length _
          rw[List.length_map,TF.out];exact h1
        case rest=>
         obtain⟨HR2,Wi,Hw2⟩:=hcut;rename World=>w2
         obtain⟨mo,mc,hmf,_⟩:=HR2.out.form;rw[List.length_map,iE] at hmf;subst hmf;have HB2:=hd (HB1.out.nw Wi.out);clear d0 d1 d2 d3 Iy;have TF:=hd (iE l);go_wp2_with (at_builtin;refine wpList_append_own_at _ rfl _ _ 22 rfl 0 3 i0 (.int .i64 0) 1 8 Tryz.underlying22 hi0 hz0 hz1 hz2 rfl (by decide) _ _ _ rfl (Row.alloc HR2.out _) ⟨_,0,none⟩ 1 1 [.int .i64 (k:Int)] rfl rfl (cell_one_new _ _ _) (by simp[Value.oneCell']) (by rw[List.length_map,TF.out];unfold maxLen;omega) (by rw[List.length_map,TF.out];omega) (Nat.zero_le _) ?_;intro v' w3 hown' hgrow _ hat;obtain⟨g',cap',rfl,hr3,hf3,AA,hlt3⟩:=app1 hown' hgrow hat;have ZJ:=hd (Row.lat (l:=l++[k]) (by rw[show (jc (l++[k])).map (Value.int .i64)=(jc l).map (Value.int .i64)++[.int .i64 (k:Int)] by simp[jc]];exact hr3));have NI:=hd (Wi.out.trans hf3 (fun i hi=>.inr (Hw2.out i hi)));have HB3:=hd (HB2.out.fr hf3 (fun h=>absurd (Hw2.out _ h) (by have:=HB1.out.lt;omega)));have d0:w3.cell? ⟨B,0,none⟩=some (.slice E.vo E.vars.length E.ak):=HB3.out.cell 0;have d1:w3.cell? ⟨B,1,none⟩=some (.slice E.ro E.rows.length E.au):=HB3.out.cell 1;have d2:w3.cell? ⟨B,2,none⟩=some (.bool E.nt):=HB3.out.cell 2;have d3:w3.cell? ⟨B,3,none⟩=some (.int .i64 E.way):=HB3.out.cell 3;have ab3:=HB3.out.lt;clear hown' hgrow hat hr3 hf3 AA)
         rw[List.length_map] at ZJ;refine(JV.out k _ _ (HVn.out.trans (HN.out.trans NI.out (fun _ x=>x.elim)) (fun _ x=>x.elim)) ZJ.out).mono ?_
         rintro e w5 ⟨⟨b,rfl,hb⟩,hf5⟩
         have Hb:=hd hb;have Wj:=hd (HN.out.trans (NI.out.trans hf5 (fun _ x=>x.elim)) (fun _ x=>x.elim))
         clear hb hf5;cases b with
         | true=>
          go_wp2_with fail
          go_ret
          exact⟨⟨true,rfl,⟨fun _=>TB.out trivial ZI.out (Hb.out.1 trivial),fun _=>rfl⟩⟩,HwU.out.trans Wj.out (fun _ x=>x.elim)⟩
         | false=>
          go_wp2_with fail
          exact⟨⟨k+1,by omega,by simp,gY.out (.inr (.inr (fun h=>absurd (Hb.out.2 h) (by simp)))),Wj⟩,by simp[intOf];omega⟩
    ·obtain rfl:bs.length=k:=by omega
     have hdk:¬((bs.length:Int)<(bs.length:Int)):=by omega
     go_wp2_with fail
     go_ret
     refine⟨⟨false,rfl,⟨fun h=>(by cases h),fun h=>?_⟩⟩,HwU.out.trans HN.out (fun _ x=>x.elim)⟩
     obtain⟨v,h1,h2,h3⟩:=TE.out h;rw[ab2.out] at h1;have hvl:v<bs.length:=by
      refine Classical.byContradiction fun hn=>?_
      simp only[List.getD] at h1;rw[List.getElem?_eq_none (by omega)] at h1
      cases h1
     exact absurd h3 (Hno.out v hvl h1 h2)
theorem PU (E:qF) (W:World) (hE:E.Ok W) (m:Nat):Fp E W m:=by
 induction m using Nat.strongRecOn with
 | _ m ih=>exact KZ E W hE m ih
def uS (bs:List Bool) (k:Nat):Bool:=(bs.take k).any id
theorem Iz (bs:List Bool) (k:Nat) (hk:k<bs.length):uS bs (k+1)=(uS bs k || bs.getD k false):=by
 unfold uS;rw[List.take_succ_eq_append_getElem hk,List.any_append];simp[List.getD,hk]
def oD (bss:List (List Bool)):Bool:=bss.any (fun bs=>!bs.any id)
set_option maxRecDepth 1000000 in
theorem empty_any (Y:Nat) (io:Option Addr) (icap:Nat) (bss:List (List Bool)) (w:World) (h8:bss.length<=8) (h6:∀u,u<bss.length->(bss.getD u []).length<=6) (hY:Y<w.heap.size) (hc:w.cell? ⟨Y,1,none⟩=some (.slice io bss.length icap)) (hin:qE w io bss):
  Calls Tryz.prog 95 #[.pointer (some ⟨Y,0,none⟩)] w fun e w'=>e= .returned (.bool (oD bss))/\Nw w w':=by
 have YE:=hd hin;have Hc:=hd hc;clear hin hc;go_enter Tryz.func95,Tryz.ntmps95
 go_wp2_with fail
 go_loopw [3,4,5] (fun v _ _ wr=>∃k:Nat,k<=bss.length/\v= .int .i64 (k:Int)/\Hid (∀u,u<k->(bss.getD u []).any id=true)/\Hid (Nw w wr)) (fun v _ _ _=>bss.length-(intOf v).toNat)
 case atStart=>exact⟨0,by omega,rfl,fun u hu=>absurd hu (Nat.not_lt_zero _),Fr.refl _ _⟩
 case round=>
  obtain⟨k,hk,rfl,xX,HN⟩:=hrel;have c1:wr.cell? ⟨Y,1,none⟩=some (.slice io bss.length icap):=(HN.out.cell hY (fun x=>x)).trans Hc.out
  have hYl:Y<wr.heap.size:=Nat.lt_of_lt_of_le hY HN.out.size;by_cases hlt:k<bss.length
  ·have hdk:(k:Int)<(bss.length:Int):=by omega
   obtain⟨ib,PT,qo,qc,hie,hil,hic,hRow⟩:=(YE.out.nw HN.out) k hlt;have hb6:=h6 k hlt;have RU:Hid (bss.getD k []∈bss):=hd (by
    rw[show bss.getD k []=bss[k] by simp[List.getD,hlt]]
    exact List.getElem_mem hlt)
   have Hk:=hd (show bss.getD k []=bss.getD k [] from rfl)
   obtain⟨bs,hbs⟩:∃bs,bss.getD k []=bs:=⟨_,rfl⟩;rw[hbs] at hic hRow hb6 RU;subst hie;have Fq:=hd hRow;have Zm:=hd hbs;clear hRow Hk hbs;go_wp2_with fail
   go_loopw [4,5] (fun a x w1=>∃j:Nat,j<=bs.length/\x= .int .i64 (j:Int)/\a= .bool (uS bs j)/\Hid (Nw wr w1)) (fun _ x _=>bs.length-(intOf x).toNat)
   case atStart=>exact⟨0,by omega,rfl,rfl,Fr.refl _ _⟩
   case round=>
    rename World=>w1
    obtain⟨j,hj,rfl,rfl,IA⟩:=hrel;have d1:w1.cell? ⟨Y,1,none⟩=some (.slice (some ⟨ib,PT,none⟩) bss.length icap):=(IA.out.cell hYl (fun x=>x)).trans c1
    have TG:Y<w1.heap.size:=Nat.lt_of_lt_of_le hYl IA.out.size;have dic:w1.cell? ⟨ib,PT+k,none⟩=some (.slice qo bs.length qc):=(IA.out.cell hil (fun x=>x)).trans hic
    have aeJ:ib<w1.heap.size:=Nat.lt_of_lt_of_le hil IA.out.size;by_cases hjl:j<bs.length
    ·have hdj:(j:Int)<(bs.length:Int):=by omega
     obtain⟨qb,YD,hqe,La,hqc⟩:=(Fq.out.nw IA.out) j hjl;subst hqe;have Hs:=hd (Iz bs j hjl);obtain⟨x,hx⟩:∃x,bs.getD j false=x:=⟨_,rfl⟩;obtain⟨a,ha⟩:∃a,uS bs j=a:=⟨_,rfl⟩;rw[hx] at hqc Hs;rw[ha] at Hs ⊢;clear hx ha;cases a with
     | true=>
      go_wp2_with fail
      exact⟨⟨j+1,by omega,by simp,by rw[Hs.out];rfl,IA⟩,by simp[intOf];omega⟩
     | false=>
      go_wp2_with fail
      exact⟨⟨j+1,by omega,by simp,by rw[Hs.out];rfl,IA⟩,by simp[intOf];omega⟩
    ·obtain rfl:bs.length=j:=by omega
     have hdj:¬((bs.length:Int)<(bs.length:Int)):=by omega
     have ha:uS bs bs.length=bs.any id:=by unfold uS;rw[List.take_length]
     rw[ha];obtain⟨a,ha'⟩:∃a,bs.any id=a:=⟨_,rfl⟩;have Ha:=hd ha';rw[ha'];clear ha ha';cases a with
     | true=>
      go_wp2_with fail
      refine⟨⟨k+1,by omega,by simp,fun u hu=>?_,HN.out.trans IA.out (fun _ x=>x.elim)⟩,by simp[intOf];omega⟩
      by_cases e:u=k
      ·rw[e,Zm.out];exact Ha.out
      ·exact xX.out u (by omega)
     | false=>
      go_wp2_with fail
      go_ret
      refine⟨?_,HN.out.trans IA.out (fun _ x=>x.elim)⟩
      have:oD bss=true:=List.any_eq_true.2 ⟨bs,RU.out,by rw[Ha.out];rfl⟩
      rw[this];rfl
  ·obtain rfl:bss.length=k:=by omega
   have hdk:¬((bss.length:Int)<(bss.length:Int)):=by omega
   go_wp2_with fail
   go_ret
   refine⟨?_,HN.out⟩
   have:oD bss=false:=by
    unfold oD;rw[List.any_eq_false];intro bs hbs;obtain⟨u,hu,rfl⟩:=List.getElem_of_mem hbs;have:=xX.out u hu
    rw[show bss.getD u []=bss[u] by simp[List.getD,hu]] at this
    rw[this];simp
   rw[this];rfl
end Go.Proofs.YtkjfpdfkcfgfkaaGreat
namespace Go.Proofs.YtkjfpdfkcfgfkaaGreat
def bitsOf (d:List Nat):Nat:=((List.range 8).map (fun q=>(vals (d.getD q 0)).length)).foldl (· + ·) 0
def marksOf (m:List Bool):Nat:=m.count true
theorem sum_lt (f g:Nat->Nat):∀(l:List Nat) (a b:Nat),(∀q∈l,f q<=g q)->a<=b->(∃q∈l,f q<g q)->(l.map f).foldl (· + ·) a<(l.map g).foldl (· + ·) b
 | [],_,_,_,_,h=>by
  obtain⟨q,hq,_⟩:=h;cases hq
 | q::l,a,b,h,hab,hx=>by
  obtain⟨p,hp,hlt⟩:=hx;rcases List.mem_cons.1 hp with rfl | hp
  ·have key:∀(l:List Nat) (a b:Nat),(∀q∈l,f q<=g q)->a<b->(l.map f).foldl (· + ·) a<(l.map g).foldl (· + ·) b:=by
    intro l;induction l with
    | nil=>intro a b _ h;exact h
    | cons q l ih=>
     intro a b h hab;have:=h q (List.mem_cons_self ..)
     exact ih (a+f q) (b+g q) (fun p hp=>h p (List.mem_cons_of_mem _ hp)) (by omega)
   exact key l (a+f p) (b+g p) (fun q hq=>h q (List.mem_cons_of_mem _ hq)) (by omega)
  ·exact sum_lt f g l (a+f q) (b+g q) (fun p hp=>h p (List.mem_cons_of_mem _ hp)) (Nat.add_le_add hab (h q (List.mem_cons_self ..))) ⟨p,hp,hlt⟩
theorem filter_le {p r:Nat->Bool} (h:∀x,p x=true->r x=true):∀l:List Nat,(l.filter p).length<=(l.filter r).length
 | []=>Nat.le_refl _
 | x::l=>by
  have ih:=filter_le h l;by_cases hp:p x=true
  ·rw[List.filter_cons_of_pos hp,List.filter_cons_of_pos (h x hp)];simp
   exact ih
  ·rw[List.filter_cons_of_neg hp];by_cases hr:r x=true
   ·rw[List.filter_cons_of_pos hr];simp
    omega
   ·rw[List.filter_cons_of_neg hr];exact ih
theorem filter_lt {p r:Nat->Bool} (h:∀x,p x=true->r x=true):∀l:List Nat,(∃x∈l,r x=true/\p x=false)->(l.filter p).length<(l.filter r).length
 | [],hx=>by
  obtain⟨x,hx,_⟩:=hx;cases hx
 | x::l,hx=>by
  obtain⟨y,hy,hr,hp⟩:=hx;rcases List.mem_cons.1 hy with rfl | hy
  ·rw[List.filter_cons_of_pos hr,List.filter_cons_of_neg (by rw[hp];simp)]
   have:=filter_le h l
   simp
   omega
  ·have ih:=filter_lt h l ⟨y,hy,hr,hp⟩;by_cases hpx:p x=true
   ·rw[List.filter_cons_of_pos hpx,List.filter_cons_of_pos (h x hpx)];simp
    exact ih
   ·rw[List.filter_cons_of_neg hpx];by_cases hrx:r x=true
    ·rw[List.filter_cons_of_pos hrx];simp
     omega
    ·rw[List.filter_cons_of_neg hrx];exact ih
theorem Fz {a b:List Nat} (ha:Dm a) (hb:Dm b) (h:dN a b) (hne:a≠b):bitsOf a<bitsOf b:=by
 obtain⟨q,v,hv,hn⟩:∃q v,(b.getD q 0).testBit v=true/\(a.getD q 0).testBit v=false:=by
  refine Classical.byContradiction fun hc=>hne (dN.eq ha hb h fun q v hv=>?_)
  cases hx:(a.getD q 0).testBit v with
  | true=>rfl
  | false=>exact absurd ⟨q,v,hv,hx⟩ hc
 have hq:q<8:=by
  refine Classical.byContradiction fun hc=>?_
  have:b.getD q 0=0:=by
   have h1:b.length<=q:=by rw[hb.len];omega
   simp[List.getD,List.getElem?_eq_none h1]
  rw[this] at hv;simp at hv
 have jv:v<8:=by
  have:=iL (hb.lt q) hv
  omega
 exact sum_lt _ _ _ 0 0 (fun q _=>filter_le (fun v hv=>h q v hv) _) (Nat.le_refl _) ⟨q,List.mem_range.2 hq,filter_lt (fun v hv=>h q v hv) _ ⟨v,List.mem_range.2 jv,hv,hn⟩⟩
theorem rV (ts:List Tab) (a:List Nat) (m:List Bool):∀k,dL ts a a m k=m
 | 0=>rfl
 | k+1=>by
  have:dX (ts.getD k aH).vars a a (ts.getD k aH).vars.length=false:=by simp[dX]
  simp only[dL,this,Bool.false_eq_true,if_false];exact rV ts a m k
theorem Bj (m:List Bool):marksOf m<=m.length:=List.count_le_length
theorem Ed:∀(m:List Bool) (k:Nat),m.getD k false=true->marksOf (m.set k false)<marksOf m
 | [],k,h=>by simp[List.getD] at h
 | b::m,0,h=>by
  have hb:b=true:=by simpa[List.getD] using h
  subst hb;simp[marksOf]
 | b::m,k+1,h=>by
  have ih:=Ed m k (by simpa[List.getD] using h)
  simp only[marksOf,bU,List.count_cons] at ih ⊢;omega
theorem Lc {ts:List Tab} {m:List Bool} {next nd:List Nat} (hm:m.length=12) (hd:Dm next) (hd':Dm nd) (hs:dN nd next) {k:Nat} (hk:m.getD k false=true):
  bitsOf nd*13+marksOf ((dL ts next nd m ts.length).set k false)<bitsOf next*13+marksOf m:=by
 by_cases e:nd=next
 ·subst e;rw[rV];have:=Ed m k hk
  omega
 ·have h1:=Fz hd' hd hs e;have h2:=Bj ((dL ts next nd m ts.length).set k false)
  rw[List.length_set,iG,hm] at h2;omega
end Go.Proofs.YtkjfpdfkcfgfkaaGreat
namespace Go.Proofs.YtkjfpdfkcfgfkaaGreat
open Go.RowKit
theorem jd (az:Value) (d:List Nat) (tv:Value) (l:Rest) (h:d.length=8) (v:Value):(ah az d tv l).setIfInBounds 10 v=ah az d tv ⟨v,l.starts,l.busy⟩:=by
 obtain⟨d0,d1,d2,d3,d4,d5,d6,d7,rfl⟩:=nZ h;simp[ah]
theorem mY (az:Value) (d:List Nat) (tv:Value) (l:Rest) (h:d.length=8) (v:Value):(ah az d tv l).setIfInBounds 11 v=ah az d tv ⟨l.bC,v,l.busy⟩:=by
 obtain⟨d0,d1,d2,d3,d4,d5,d6,d7,rfl⟩:=nZ h;simp[ah]
theorem Tryz.TI:(Tryz.prog.info? 1).map (fun i=>(i.zero,i.size,i.bytes))=some (some .nilFunc,1,8):=by kernel_rfl
set_option maxRecDepth 1000000 in
theorem Le (X:Nat) (az:Value) (d:List Nat) (tv:Value) (l:Rest) (so:Option Addr) (n sc:Nat) (fn:Fn) (fs cs:Array Value) (xs:List Value) (w:World) (hX:af w X (ah az d tv l) 66) (hd8:d.length=8)
  (hl:l.starts= .slice so (n+1) sc) (hb:Row w l.bC 1 xs) (hxs:xs.length<=1000000):
  Calls Tryz.prog 71 #[.pointer (some ⟨X,10,none⟩),.func fn fs cs] w fun e w'=>e= .returned (.tuple #[])/\∃bv,Row w' bv 1 (xs++[.func fn fs cs])/\Fr (fun k=>k=X\/l.bC.ownBlock=some k) w w'/\af w' X (ah az d tv ⟨bv,l.starts,l.busy⟩) 66/\(∀k,bv.ownBlock=some k->l.bC.ownBlock=some k\/w.heap.size<=k):=by
 have h:w.cell? ⟨X,11,none⟩=some (.slice so (n+1) sc):=(hX.cell 11).trans ((aO _ _ _ _ hd8).trans (by rw[hl]))
 have h10:w.cell? ⟨X,10,none⟩=some l.bC:=(hX.cell 10).trans (fU _ _ _ _ hd8)
 have hXf:=hX.free 10;have HX:=hd hX;have Hb:=hd hb;clear hX hb;obtain⟨bv,hbv⟩:∃bv,l.bC=bv:=⟨_,rfl⟩;rw[hbv] at h10;obtain⟨i0,hi0,hz0,hz1,hz2⟩:=info_parts Tryz.TI;have uT:X<w.heap.size:=HX.out.lt;have Xc:Hid (bv.ownBlock≠some X):=by
  rw[<-hbv];exact Hb.out.ne HX.out (by decide)
 have hb':Row w bv 1 xs:=hbv▸Hb.out;obtain⟨bo,fO,hform,_⟩:=hb'.form;subst hform;have Hbv:=hd hbv;have Hl:=hd hl;clear hbv hl Hb;go_enter Tryz.func71,Tryz.ntmps71
 go_wp2_with (first
  | (go_at_call 24;refine(iq X so (n+1) sc _ h).mono ?_;rintro e w' ⟨rfl,rfl⟩)
  | (at_builtin;refine wpList_append_own_at _ rfl _ _ 62 rfl 0 1 i0 .nilFunc 1 8 Tryz.underlying62 hi0 hz0 hz1 hz2 rfl (by decide) _ _ _ rfl (Row.alloc hb' _) ⟨_,0,none⟩ 1 1 [.func fn fs cs] rfl rfl (cell_one_new _ _ _) (by simp[Value.oneCell']) (by unfold maxLen;omega) (by omega) (Nat.zero_le _) ?_;intro v' w1 hown' hgrow _ hat;obtain⟨g',cap',rfl,hr1,hf1,ha1,hlt1⟩:=app1 hown' hgrow hat;have hX1:=HX.out.fr hf1 (fun e=>Xc.out e);have hfz1:=hX1.free 10;have hc1:=(hX1.cell 10).trans (fU _ _ _ _ hd8);have HX1:=hd hX1;clear hX1 hown' hgrow hat))
 go_end0
 have hne:(Value.slice (some ⟨g',0,none⟩) (xs.length+1) cap').ownBlock≠some X:=hr1.ne HX1.out (by decide)
 refine⟨rfl,_,hr1.fr ((Fr.refl (fun k=>k=X) w1).setCell ⟨X,10,none⟩ _ (.inl rfl)) (fun k hk e=>hne (by rw[<-e];exact hk)),?_,?_,fun k hk=>?_⟩
 ·refine(hf1.mono (fun i h=>.inl (.inr ?_))).setCell ⟨X,10,none⟩ _ (.inl (.inl rfl))
  rw[Hbv.out];exact h
 ·have h5:=HX1.out.set 10 (.slice (some ⟨g',0,none⟩) (xs.length+1) cap');rw[jd _ _ _ _ hd8] at h5;exact h5
 ·have e:g'=k:=by cases hk;rfl
  subst e;rcases ha1 with h | h
  ·rw[Hbv.out];exact .inl h
  ·exact .inr (by omega)
set_option maxRecDepth 1000000 in
theorem push_any (X:Nat) (az:Value) (d:List Nat) (tv:Value) (l:Rest) (bo:Option Addr) (bn fO:Nat) (xs:List Value) (w:World) (hX:af w X (ah az d tv l) 66) (hd8:d.length=8)
  (hl:l.bC= .slice bo bn fO) (hb:Row w l.starts 3 xs) (hxs:xs.length<=1000000):
  Calls Tryz.prog 82 #[.pointer (some ⟨X,10,none⟩)] w fun e w'=>e= .returned (.tuple #[])/\∃sv,Row w' sv 3 (xs++[.int .i64 (bn:Int)])/\Fr (fun k=>k=X\/l.starts.ownBlock=some k) w w'/\af w' X (ah az d tv ⟨l.bC,sv,l.busy⟩) 66/\(∀k,sv.ownBlock=some k->l.starts.ownBlock=some k\/w.heap.size<=k):=by
 have h10:w.cell? ⟨X,10,none⟩=some (.slice bo bn fO):=(hX.cell 10).trans ((fU _ _ _ _ hd8).trans (by rw[hl]))
 obtain⟨sv,hsv⟩:∃sv,l.starts=sv:=⟨_,rfl⟩;have h11:w.cell? ⟨X,11,none⟩=some sv:=(hX.cell 11).trans ((aO _ _ _ _ hd8).trans (by rw[hsv]))
 have hXf:=hX.free 11;obtain⟨i0,hi0,hz0,hz1,hz2⟩:=info_parts Tryz.jU;have uT:X<w.heap.size:=hX.lt;have Xc:Hid (sv.ownBlock≠some X):=by
  rw[<-hsv];exact hb.ne hX (by decide)
 have hb':Row w sv 3 xs:=hsv▸hb;obtain⟨so,scap,hform,_⟩:=hb'.form;subst hform;have HX:=hd hX;have Hsv:=hd hsv;have Hl:=hd hl;clear hsv hl hX hb;go_enter Tryz.func82,Tryz.ntmps82
 go_upto_region 0 with fail
 have hK0:af w.drew X (ah az d tv l) 66:=HX.out.drew;refine vY (S:=fun w''=>af w'' X (ah az d tv l) 66) 14 (by kernel_rfl) ?_
 refine bH (i:=0) (v:=.pointer (some ⟨X,10,none⟩)) (by kernel_rfl) rfl (by kernel_rfl) (by kernel_rfl) (by kernel_rfl) (fun _ _ _ h=>h) (.inl ⟨by kernel_rfl,fun w'' hS=>by kernel_rfl⟩) hK0 ?_
 refine bH (i:=1) (v:=.pointer (some ⟨X,10,none⟩)) (by kernel_rfl) rfl (by kernel_rfl) (by kernel_rfl) (by kernel_rfl) (fun _ _ _ h=>h) (.inl ⟨by kernel_rfl,fun w'' hS=>by kernel_rfl⟩) hK0 ?_
 refine bH (i:=2) (v:=.pointer (some ⟨X,10,none⟩)) (by kernel_rfl) rfl (by kernel_rfl) (by kernel_rfl) (by kernel_rfl) (fun _ _ _ h=>h) (.inl ⟨by kernel_rfl,fun w'' hS=>by kernel_rfl⟩) hK0 ?_
 refine bH (i:=3) (v:=.pointer (some ⟨X,11,none⟩)) (by kernel_rfl) rfl (by kernel_rfl) (by kernel_rfl) (by kernel_rfl) (fun _ _ _ h=>h) (.inl ⟨by kernel_rfl,fun w'' hS=>by kernel_rfl⟩) hK0 ?_
 refine bH (i:=4) (v:=.slice so xs.length scap) (by kernel_rfl) rfl (by kernel_rfl) (by kernel_rfl) (by kernel_rfl) (fun _ _ _ h=>h) (.inl ⟨by kernel_rfl,fun w'' hS=>?_⟩) hK0 ?_
 ·have hc:=(hS.cell 11).trans ((aO _ _ _ _ hd8).trans (by rw[Hsv.out]))
  clear hS hK0 h10 h11 hXf hb';simp only[Act.put,bQ,bW,bU,eH,eY,fC];go_simp
 refine bH (i:=5) (v:=.pointer (some ⟨X,10,none⟩)) (by kernel_rfl) rfl (by kernel_rfl) (by kernel_rfl) (by kernel_rfl) (fun _ _ _ h=>h) (.inl ⟨by kernel_rfl,fun w'' hS=>by kernel_rfl⟩) hK0 ?_
 refine bH (i:=6) (v:=.pointer (some ⟨X,10,none⟩)) (by kernel_rfl) rfl (by kernel_rfl) (by kernel_rfl) (by kernel_rfl) (fun _ _ _ h=>h) (.inl ⟨by kernel_rfl,fun w'' hS=>by kernel_rfl⟩) hK0 ?_
 refine bH (i:=7) (v:=.pointer (some ⟨X,10,none⟩)) (by kernel_rfl) rfl (by kernel_rfl) (by kernel_rfl) (by kernel_rfl) (fun _ _ _ h=>h) (.inl ⟨by kernel_rfl,fun w'' hS=>by kernel_rfl⟩) hK0 ?_
 refine bH (i:=8) (v:=.slice bo bn fO) (by kernel_rfl) rfl (by kernel_rfl) (by kernel_rfl) (by kernel_rfl) (fun _ _ _ h=>h) (.inl ⟨by kernel_rfl,fun w'' hS=>?_⟩) hK0 ?_
 ·have hc:=(hS.cell 10).trans ((fU _ _ _ _ hd8).trans (by rw[Hl.out]))
  clear hS hK0 h10 h11 hXf hb';simp only[Act.put,bQ,bW,bU,eH,eY,fC];go_simp
 refine bH (i:=9) (v:=.int .i64 (bn:Int)) (by kernel_rfl) rfl (by kernel_rfl) (by kernel_rfl) (by kernel_rfl) (fun _ _ _ h=>h) (.inl ⟨by kernel_rfl,fun w'' hS=>by kernel_rfl⟩) hK0 ?_
 refine fF (i:=10) (by kernel_rfl) ?_
 refine aA (v:=.slice (some ⟨w.heap.size,0,none⟩) 1 1) (w':=w.drew.alloc (.cells #[.int .i64 (bn:Int)] 3)) rfl (by kernel_rfl) ?_ ⟨fun _=>hK0.alloc _,?_⟩
 ·kernel_rfl
 obtain⟨v',w3,hr,hown,hgrow,_,hat⟩:=run_append_own_at (P:=Tryz.prog) (w.drew.alloc (.cells #[.int .i64 (bn:Int)] 3)) 0 22 22 3 i0 (.int .i64 0) 1 8 Tryz.underlying22 hi0 hz0 hz1 hz2 rfl (by decide) (.slice so xs.length scap) xs.length xs (Row.alloc hb'.drew _) ⟨w.heap.size,0,none⟩ 1 1 [.int .i64 (bn:Int)] rfl (cell_one_new _ _ _) (by simp[Value.oneCell']) (by unfold maxLen;omega) (by omega) (Nat.zero_le _)
 obtain⟨g',cap',rfl,hr1,hf1,ha1,hlt1⟩:=app1 (w:=w.drew) hown hgrow hat;clear hown hgrow hat;have hX1:af w3 X (ah az d tv l) 66:=hK0.fr hf1 (fun e=>Xc.out e)
 refine fF (i:=11) (by kernel_rfl) ?_
 refine aA (v:=.slice (some ⟨g',0,none⟩) (xs.length+1) cap') (w':=w3) rfl (by kernel_rfl) ?_ ⟨fun _=>hX1,?_⟩
 ·simp only[Act.put,bQ,bW,bU,eH,eY,fC];unfold execOp;simp only[resolve,invoke,builtin,Sem.run_bind,Sem.run_pure,Result.andThen_ok,List.map_toArray,List.map_cons,List.map_nil,Act.eval];erw [hr]
  rfl
 refine fF (i:=12) (by kernel_rfl) ?_
 refine aA (v:=.pointer (some ⟨X,10,none⟩)) (w':=w3) rfl (by kernel_rfl) (by kernel_rfl) ⟨fun _=>hX1,?_⟩
 refine fF (i:=13) (by kernel_rfl) ?_
 refine aA (v:=.pointer (some ⟨X,11,none⟩)) (w':=w3) rfl (by kernel_rfl) (by kernel_rfl) ⟨fun _=>hX1,?_⟩
 refine fF (i:=14) (by kernel_rfl) ?_
 have uU:=(hX1.cell 11).trans (aO _ _ _ _ hd8);have aeK:=hX1.free 11;refine dw (w':=w3.setCell ⟨X,11,none⟩ (.slice (some ⟨g',0,none⟩) (xs.length+1) cap')) rfl (by kernel_rfl) ?_ ⟨fun h=>absurd rfl h,pg (by kernel_rfl) ?_ _⟩
 ·clear hK0 h10 h11 hXf hb' hX1 hf1 hr hr1;simp only[Act.put,bQ,bW,bU,eH,eY,fC];go_simp
 simp only[Act.put,bQ,bW,bU,eH,eY,fC];have HX1:=hd hX1;clear hX1 hr hK0 h10 h11 hXf hb' uU aeK;have dQ:Fr (fun k=>(Value.slice so xs.length scap).ownBlock=some k) w w3:=⟨hf1.os,hf1.tape,hf1.output,hf1.size,hf1.block⟩
 clear hf1;go_end0
 have hne:(Value.slice (some ⟨g',0,none⟩) (xs.length+1) cap').ownBlock≠some X:=hr1.ne HX1.out (by decide)
 refine⟨rfl,_,hr1.fr ((Fr.refl (fun k=>k=X) w3).setCell ⟨X,11,none⟩ _ (.inl rfl)) (fun k hk e=>hne (by rw[<-e];exact hk)),?_,?_,fun k hk=>?_⟩
 ·refine(dQ.mono (fun i h=>.inl (.inr ?_))).setCell ⟨X,11,none⟩ _ (.inl (.inl rfl))
  rw[Hsv.out];exact h
 ·have h5:=HX1.out.set 11 (.slice (some ⟨g',0,none⟩) (xs.length+1) cap');rw[mY _ _ _ _ hd8] at h5;exact h5
 ·have e:g'=k:=by cases hk;rfl
  subst e;rcases ha1 with h | h
  ·rw[Hsv.out];exact .inl h
  ·refine .inr ?_
   have h2:g'=w.heap.size+1:=h;omega
def Lh (ss xs:List Value) (fv:Value):List Value:=if ss.isEmpty then xs else xs++[fv]
structure mP (w:World) (l:Rest) (ss xs:List Value):Prop where
 starts:Row w l.starts 3 ss
 bC:Row w l.bC 1 xs
theorem mP.fr {S:Nat->Prop} {w w':World} {l:Rest} {ss xs:List Value} (h:mP w l ss xs) (f:Fr S w w') (hs:∀k,l.starts.ownBlock=some k->¬S k) (hb:∀k,l.bC.ownBlock=some k->¬S k):mP w' l ss xs:=⟨h.starts.fr f hs,h.bC.fr f hb⟩
theorem mP.nw {w w':World} {l:Rest} {ss xs:List Value} (h:mP w l ss xs) (f:Nw w w'):mP w' l ss xs:=h.fr f (fun _ _ x=>x) (fun _ _ x=>x)
theorem Row.TJ {w:World} {u v:Value} {e e':TypeId} {xs ys:List Value} (h:Row w u e xs) (k:Row w v e' ys) (hne:e≠e') {j:Nat} (hu:u.ownBlock=some j):v.ownBlock≠some j:=by
 intro hv;obtain⟨cur,hb,_⟩:=h.blk hu;exact k.ne hb (fun e=>hne e.symm) hv
theorem write_any (X:Nat) (az:Value) (d:List Nat) (tv:Value) (l:Rest) (ss xs:List Value) (fn:Fn) (fs cs:Array Value) (w:World) (hX:af w X (ah az d tv l) 66) (hd8:d.length=8) (ht:mP w l ss xs) (hxs:xs.length<=1000000):
  Calls Tryz.prog 71 #[.pointer (some ⟨X,10,none⟩),.func fn fs cs] w fun e w'=>e= .returned (.tuple #[])/\∃bv,mP w' ⟨bv,l.starts,l.busy⟩ ss (Lh ss xs (.func fn fs cs))/\Fr (fun k=>k=X\/l.bC.ownBlock=some k) w w' /\
   af w' X (ah az d tv ⟨bv,l.starts,l.busy⟩) 66/\(∀k,bv.ownBlock=some k->l.bC.ownBlock=some k\/w.heap.size<=k):=by
 obtain⟨so,sc,hform,_⟩:=ht.starts.form;have aeL:l.starts.ownBlock≠some X:=ht.starts.ne hX (by decide)
 cases ss with
 | nil=>
  refine(Kq X so sc _ w ((hX.cell 11).trans ((aO _ _ _ _ hd8).trans (by rw[hform];rfl)))).mono ?_
  rintro e w' ⟨rfl,rfl⟩
  exact⟨rfl,l.bC,ht,Fr.refl _ _,hX,fun k hk=>.inl hk⟩
 | cons s ss=>
  refine(Le X az d tv l so ss.length sc fn fs cs xs w hX hd8 hform ht.bC hxs).mono ?_
  rintro e w' ⟨rfl,bv,hr,hf,hb,ho⟩
  refine⟨rfl,bv,⟨ht.starts.fr hf (fun k hk=>?_),hr⟩,hf,hb,ho⟩
  rintro(rfl | h)
  ·exact aeL hk
  ·exact ht.starts.TJ ht.bC (by decide) hk h
theorem TS.Lj (t:TS) (a:Array Value) (W:World):(callFunc t.ni a).run Tryz.prog W= .ok (.enter t.ni a) W:=by
 cases t with
 | rs nt br live=>
  simp only[TS.ni];kernel_rfl
 | dg nv os root=>
  simp only[TS.ni];kernel_rfl
theorem TS.IB (t:TS) (a:Array Value) (W:World):(callFunc t.kG a).run Tryz.prog W= .ok (.enter t.kG a) W:=by
 cases t with
 | rs nt br live=>
  simp only[TS.kG];kernel_rfl
 | dg nv os root=>
  simp only[TS.kG];kernel_rfl
theorem Ee (vars:List Int) (dn:List Nat) (h:dn.length=8) (t:TS):(rQ vars dn t).length=8:=by
 have key:∀s,(eu vars dn s vars.length).length=8:=fun s=>by rw[gy];exact h
 cases t with
 | rs nt br live=>
  cases nt with
  | false=>exact key _
  | true=>exact key _
 | dg nv os root=>exact key _
def NR (T S:Nat):Value:=.func (.func 73) #[] #[.pointer (some ⟨T,0,none⟩),.pointer (some ⟨S,0,none⟩)]
theorem oN.uV {w:World} {G g cap:Nat} {vars:List Int} {t:TS} (h:oN w G g cap vars t) {k:Nat} (hk:k=G\/k=g\/t.nodes k):∃cur e,af w k cur e/\(e=131\/e=125\/e=3\/e=151):=by
 cases t with
 | rs nt br live=>
  rcases hk with rfl | rfl | hk
  ·exact⟨_,_,h.1,.inl rfl⟩
  ·obtain⟨cur,hb,_⟩:=h.2.1.blk rfl;exact⟨_,_,hb,.inr (.inr (.inl rfl))⟩
  ·exact hk.elim
 | dg nv os root=>
  rcases hk with rfl | rfl | hk
  ·exact⟨_,_,h.1.blk,.inr (.inl rfl)⟩
  ·obtain⟨cur,hb,_⟩:=h.1.rv.blk rfl;exact⟨_,_,hb,.inr (.inr (.inl rfl))⟩
  ·rcases h.1.row.2 with ⟨rfl,_⟩ | ⟨g',cap',cur,rfl,_,hb,_⟩
   ·cases hk
   ·cases hk;exact⟨_,_,hb,.inr (.inr (.inr rfl))⟩
theorem oN.YF {w:World} {G g cap:Nat} {vars:List Int} {t:TS} (h:oN w G g cap vars t):∃cur e,af w G cur e/\(e=131\/e=125):=by
 cases t with
 | rs nt br live=>exact⟨_,_,h.1,.inl rfl⟩
 | dg nv os root=>exact⟨_,_,h.1.blk,.inr rfl⟩
theorem oN.apart {w:World} {G g cap:Nat} {vars:List Int} {t:TS} (h:oN w G g cap vars t) {X:Nat} {cur:Array Value} (hX:af w X cur 66) {bv:Value} {xs:List Value} (hb:Row w bv 1 xs) {k:Nat} (hk:k=G\/k=g\/t.nodes k):¬(k=X\/bv.ownBlock=some k):=by
 obtain⟨c,e,h1,h2⟩:=h.uV hk;rintro(rfl | h3)
 ·have:=(h1.inj hX).2
  subst this;revert h2
  decide
 ·refine hb.ne h1 ?_ h3
  rintro rfl
  revert h2
  decide
theorem oN.Ll {w:World} {G g cap:Nat} {vars:List Int} {t:TS} (h:oN w G g cap vars t):∃(s0:Int) (so:Option Addr) (sl sc:Nat) (s2:Int),t.state=#[.int .u64 s0,.slice so sl sc,.int .i64 s2]:=by
 cases t with
 | rs nt br live=>exact⟨_,_,_,_,_,rfl⟩
 | dg nv os root=>
  rcases h.1.row.2 with ⟨rfl,_⟩ | ⟨g,cap,cur,rfl,_⟩
  ·exact⟨_,_,_,_,_,rfl⟩
  ·exact⟨_,_,_,_,_,rfl⟩
set_option maxRecDepth 1000000 in
theorem zk (X G g cap:Nat) (az:Value) (d:List Nat) (tv:Value) (l:Rest) (ss xs:List Value) (vars:List Int) (t:TS) (dn:List Nat) (w:World)
  (hX:af w X (ah az d tv l) 66) (hd8:d.length=8) (htr:mP w l ss xs) (hxs:xs.length<=1000000)
  (hT:oN w G g cap vars t) (h8:dn.length=8) (h4:vars.length<=4) (hv:∀i,i<vars.length->0<=vars.getD i 0/\vars.getD i 0<8) (aX:∀q,dn.getD q 0<64):
  Calls Tryz.prog 46 #[.pointer (some ⟨X,0,none⟩),.iface t.ty (.pointer (some ⟨G,0,none⟩)),.agg (ay dn)] w fun e w'=>e= .returned (.agg (ay (rQ vars dn t)))/\Fr (fun k=>k=G\/k=X\/l.bC.ownBlock=some k) w w' /\
   ∃(bv:Value) (t':TS) (S:Nat),TS.Next vars dn t t'/\oN w' G g cap vars t'/\af w' X (ah az d tv ⟨bv,l.starts,l.busy⟩) 66/\mP w' ⟨bv,l.starts,l.busy⟩ ss (Lh ss xs (NR w.heap.size S)) /\
    af w' w.heap.size #[.iface t.ty (.pointer (some ⟨G,0,none⟩))] 73/\af w' S t.state 137/\w.heap.size<=S/\(∀k,t'.nodes k->w.heap.size<=k)/\(∀k,bv.ownBlock=some k->l.bC.ownBlock=some k\/w.heap.size<=k):=by
 obtain⟨v0,v1,v2,v3,v4,v5,v6,v7,hdv⟩:=iV h8;obtain⟨nd,hnd⟩:∃nd,rQ vars dn t=nd:=⟨_,rfl⟩;obtain⟨n0,n1,n2,n3,n4,n5,n6,n7,CU⟩:=iV (hnd▸Ee vars dn h8 t);obtain⟨⟨y0,rfl⟩,⟨y1,rfl⟩,⟨y2,rfl⟩,⟨y3,rfl⟩,⟨y4,rfl⟩,⟨y5,rfl⟩,⟨y6,rfl⟩,⟨y7,rfl⟩⟩:=iO nd CU;rw[hnd];have Hnd:=hd hnd;have xU:=hd CU;clear hnd CU;have hXlt:=hX.lt;obtain⟨ty,hty⟩:∃ty,t.ty=ty:=⟨_,rfl⟩;obtain⟨W,hW⟩:∃W,W=((w.alloc (.cells #[.iface ty (.pointer (some ⟨G,0,none⟩))] 73)).alloc (.cells (ay dn) 60)).alloc (.cells (ay aQ) 60):=⟨_,rfl⟩;have dM:Nw w W:=by rw[hW];exact(((Fr.refl _ w).alloc _).alloc _).alloc _
 have pU:af W w.heap.size #[.iface ty (.pointer (some ⟨G,0,none⟩))] 73:=by rw[hW];exact((af.new _ _ _).alloc _).alloc _
 have hbD:af W (w.heap.size+1) (ay dn) 60:=by
  rw[hW];have:=(af.new (w.alloc (.cells #[.iface ty (.pointer (some ⟨G,0,none⟩))] 73)) (ay dn) 60).alloc (.cells (ay aQ) 60)
  simpa using this
 have hbR:af W (w.heap.size+2) (ay aQ) 60:=by
  rw[hW];have:=af.new ((w.alloc (.cells #[.iface ty (.pointer (some ⟨G,0,none⟩))] 73)).alloc (.cells (ay dn) 60)) (ay aQ) 60
  simpa using this
 have hsW:W.heap.size=w.heap.size+3:=by rw[hW];simp
 have zU:W.cell? ⟨w.heap.size,0,none⟩=some (.iface ty (.pointer (some ⟨G,0,none⟩))):=pU.cell 0
 have hms:=fun W=>hty▸TS.KH t G W
 have rM:=hd pU;have tX:=hd hbD;have NC:=hd hbR;have HX:=hd (hX.nw dM);have HT:=hd (hT.nw dM);have Htr:=hd (htr.nw dM);have HW:=hd hW;have uq:=hd hsW;have Hdv:=hd hdv;have HTw:=hd hT;have HXw:=hd hX;have Xd:=hd htr;obtain⟨fs,hfs⟩:∃f,t.ni=f:=⟨_,rfl⟩;obtain⟨s0,so,sl,sc,s2,hst⟩:=HTw.out.Ll;have hcs:=fun a W=>TS.Lj t a W
 rw[hfs] at hms hcs;rw[hty];clear pU hbD hbR hX hT htr hW hsW hdv;go_enter Tryz.func46,Tryz.ntmps46
 go_upto_region 1 with fail
 rw[show ((w.alloc (Obj.cells #[Value.iface ty (Value.pointer (some ⟨G,0,none⟩))] 73)).alloc (Obj.cells (ay dn) 60)).alloc (Obj.cells #[Value.int .u8 0,.int .u8 0,.int .u8 0,.int .u8 0,.int .u8 0,.int .u8 0,.int .u8 0,.int .u8 0] 60)=W from HW.out.symm]
 go_wp2_with fail
 rw[<-hfs];refine(KI G g cap vars t _ HT.out).mono ?_
 rw[hst];rintro e w1 ⟨rfl,hf1⟩
 go_upto_region 2 with fail
 obtain⟨U,hU⟩:∃U,U=w1.alloc (.cells #[.int .u64 s0,.slice so sl sc,.int .i64 s2] 137):=⟨_,rfl⟩;have iR:Nw W U:=by rw[hU];exact hf1.alloc _
 have hbS:af U w1.heap.size t.state 137:=by rw[hU,hst];exact af.new _ _ _
 rw[<-hU];have hsz1:=hf1.size;obtain⟨S,hS⟩:∃S,w1.heap.size=S:=⟨_,rfl⟩;rw[hS] at hbS hsz1 ⊢;have ZK:S<U.heap.size:=hbS.lt;clear hU zU hms hS hf1 hcs;have FB:=HX.out.nw iR;have ab4:=Htr.out.nw iR;have Rl:=HT.out.nw iR;have ab5:=rM.out.nw iR;have ab6:=tX.out.nw iR;have ab7:=NC.out.nw iR;have Yu:=iR.size;rw[uq.out] at Yu hsz1;have TK:Hid (Nw w U):=dM.trans iR (fun i h=>h.elim)
 have hbl:∀k,l.bC.ownBlock=some k->k<w.heap.size:=fun k hk=>Xd.out.bC.lt hk
 have HTU:=hd Rl;have aeM:=hd ab5;have aeN:=hd ab6;have aeO:=hd ab7;have HbS:=hd hbS;have HXU:=hd FB;have Xe:=hd ab4;have yV:=hd hst;clear Rl ab5 ab6 ab7 hbS FB ab4 iR hst;go_wp2_with fail
 refine(write_any X az d tv l ss xs _ _ _ _ HXU.out hd8 Xe.out hxs).mono ?_
 rintro e w2 ⟨rfl,bv,TL,hf2,hX2,ho2⟩
 have Ho2:=hd ho2;clear ho2;have hap:∀k,(k=G\/k=g\/t.nodes k)->¬(k=X\/l.bC.ownBlock=some k):=fun k hk=>HTw.out.apart HXw.out Xd.out.bC hk
 have hout:∀k,w.heap.size<=k->¬(k=X\/l.bC.ownBlock=some k):=fun k hk=>by
  rintro(rfl | h)
  ·omega
  ·have:=hbl k h
   omega
 have hT2:=HTU.out.fr hf2 hap;have ZL:=aeM.out.fr hf2 (hout _ (Nat.le_refl _));have ab8:=aeN.out.fr hf2 (hout _ (by omega))
 have ab9:=aeO.out.fr hf2 (hout _ (by omega))
 have acd:=HbS.out.fr hf2 (hout _ (by omega))
 have hs2:=hf2.size;have zU:w2.cell? ⟨w.heap.size,0,none⟩=some (.iface ty (.pointer (some ⟨G,0,none⟩))):=ZL.cell 0
 obtain⟨c0,c1,c2,c3,c4,c5,c6,c7⟩:=cZ (Hdv.out▸ab8);have hmn:=fun W=>hty▸TS.rE t G W
 have hcn:=fun a W=>TS.IB t a W
 obtain⟨fN,hfN⟩:∃f,t.kG=f:=⟨_,rfl⟩;rw[hfN] at hmn hcn;have HT2:=hd hT2;have aeP:=hd ZL;have aeQ:=hd ab9;have aeR:=hd acd;have Wl:=hd hX2;have Lm:=hd TL;have yG:=hd hf2;have Hap:=hd hap;have agS:=hd hout;clear hT2 ZL ab8 ab9 acd hX2 TL hf2 hap hout hbl;go_wp2_with fail
 rw[<-Hdv.out,<-hfN];refine(Ia G g cap vars t dn _ HT2.out h8 h4 hv aX).mono ?_
 rw[Hnd.out,xU.out];rintro e w3 ⟨rfl,hf3,t',hnx,NS,hnew⟩
 have uI:=HTw.out.lt (.inl rfl);have Dc:=aeQ.out.fr hf3 (by omega)
 obtain⟨r0,r1,r2,r3,r4,r5,r6,r7⟩:=cZ Dc;have f0:∀i,w3.frozen? ⟨w.heap.size+2,i,none⟩=false:=Dc.free
 have hGX:X≠G:=fun e=>(Hap.out G (.inl rfl)) (.inl e.symm)
 have HX3:=hd (Wl.out.fr hf3 hGX);have aeS:=hd (aeP.out.fr hf3 (by omega))
 have aeT:=hd (aeR.out.fr hf3 (by omega))
 have ZM:=hd (Lm.out.fr hf3 (fun k hk e=>by
   subst e;obtain⟨c,ty',h1,h2⟩:=HT2.out.YF;refine Lm.out.starts.ne h1 ?_ hk
   rintro rfl
   revert h2
   decide) (fun k hk e=>by
   subst e;exact(HT2.out.apart Wl.out Lm.out.bC (.inl rfl)) (.inr hk)))
 have HR3:=hd Dc;have HT3:=hd NS;have HF3:Hid (Fr (fun k=>k=G\/k=X\/l.bC.ownBlock=some k) w w3):=((TK.out.mono (S':=fun k=>k=G\/k=X\/l.bC.ownBlock=some k) (fun i h=>h.elim)).trans yG.out (fun i h=>.inl (.inr h))).trans hf3 (fun i h=>.inl (.inl h))
 clear Dc NS hf3 c0 c1 c2 c3 c4 c5 c6 c7 zU hmn hcn;go_wp2
 have hB:=HR3.out.mJ 0 1 2 3 4 5 6 7 (.int .u8 y0) (.int .u8 y1) (.int .u8 y2) (.int .u8 y3) (.int .u8 y4) (.int .u8 y5) (.int .u8 y6) (.int .u8 y7);have tV:=HF3.out.mJ (w.heap.size+2) 0 1 2 3 4 5 6 7 (.int .u8 y0) (.int .u8 y1) (.int .u8 y2) (.int .u8 y3) (.int .u8 y4) (.int .u8 y5) (.int .u8 y6) (.int .u8 y7) (.inr (by omega))
 have hFg:=(Fr.refl (fun k=>k=w.heap.size+2) w3).mJ (w.heap.size+2) 0 1 2 3 4 5 6 7 (.int .u8 y0) (.int .u8 y1) (.int .u8 y2) (.int .u8 y3) (.int .u8 y4) (.int .u8 y5) (.int .u8 y6) (.int .u8 y7) (.inl rfl)
 have hB':=(J6 _ _ _ _ _ _ _ _ _ _ _ _ _ _ _ _)▸hB;obtain⟨q0,q1,q2,q3,q4,q5,q6,q7⟩:=cZ hB';have hT8:=HT3.out.fr hFg (fun k hk e=>by
  subst e;obtain⟨c,ty',h1,h2⟩:=HT3.out.uV hk;have h3:=(h1.inj HR3.out).2;subst h3;revert h2
  decide)
 have hX8:=HX3.out.fr hFg (by omega)
 have aeU:=ZM.out.fr hFg (fun k hk e=>by
  subst e;exact ZM.out.starts.ne HR3.out (by decide) hk) (fun k hk e=>by
  subst e;exact ZM.out.bC.ne HR3.out (by decide) hk)
 have aeV:=aeS.out.fr hFg (by omega)
 have aeW:=aeT.out.fr hFg (by omega)
 refine bodyPost_ret (v:=.agg (ay nd)) ?_ rfl ⟨rfl,tV,bv,t',S,hnx,hT8,hX8,aeU,aeV,aeW,by omega,fun k hk=>?_,fun k hk=>(Ho2.out k hk).imp id (fun h=>by have:=TK.out.size;omega)⟩
 ·rw[xU.out];simp[results,Tryz.results46,go_sem,q0,q1,q2,q3,q4,q5,q6,q7]
 ·have:=hnew k hk
  omega
def NT (T D:Nat):Value:=.func (.func 72) #[] #[.pointer (some ⟨D,0,none⟩),.pointer (some ⟨T,0,none⟩)]
set_option maxRecDepth 1000000 in
theorem wS (X:Nat) (az:Value) (d:List Nat) (tv:Value) (l:Rest) (ss xs:List Value) (n:List Nat) (w:World)
  (hX:af w X (ah az d tv l) 66) (hd8:d.length=8) (htr:mP w l ss xs) (hxs:xs.length<=1000000) (h8:n.length=8) (hd6:∀x∈d,x<64) (G5:∀x∈n,x<64):
  Calls Tryz.prog 45 #[.pointer (some ⟨X,0,none⟩),.agg (ay n)] w fun e w'=>e= .returned (.tuple #[])/\Fr (fun k=>k=X\/l.bC.ownBlock=some k) w w' /\
   ((n=d/\af w' X (ah az d tv l) 66/\mP w' l ss xs)\/(n≠d/\∃bv D,af w' X (ah az n tv ⟨bv,l.starts,l.busy⟩) 66/\mP w' ⟨bv,l.starts,l.busy⟩ ss (Lh ss xs (NT w.heap.size D)) /\
    af w' w.heap.size #[.pointer (some ⟨X,0,none⟩)] 35/\af w' D (ay d) 60/\w.heap.size<=D/\(∀k,bv.ownBlock=some k->l.bC.ownBlock=some k\/w.heap.size<=k))):=by
 obtain⟨v0,v1,v2,v3,v4,v5,v6,v7,CU⟩:=iV h8;obtain⟨u0,u1,u2,u3,u4,u5,u6,u7,hdv⟩:=iV hd8;obtain⟨⟨x0,rfl⟩,⟨x1,rfl⟩,⟨x2,rfl⟩,⟨x3,rfl⟩,⟨x4,rfl⟩,⟨x5,rfl⟩,⟨x6,rfl⟩,⟨x7,rfl⟩⟩:=iO n CU;obtain⟨⟨y0,rfl⟩,⟨y1,rfl⟩,⟨y2,rfl⟩,⟨y3,rfl⟩,⟨y4,rfl⟩,⟨y5,rfl⟩,⟨y6,rfl⟩,⟨y7,rfl⟩⟩:=iO d hdv;have hXlt:=hX.lt;obtain⟨W,hW⟩:∃W,W=(w.alloc (.cells #[.pointer (some ⟨X,0,none⟩)] 35)).alloc (.cells (ay n) 60):=⟨_,rfl⟩;have dM:Nw w W:=by rw[hW];exact((Fr.refl _ w).alloc _).alloc _
 have hbP:af W w.heap.size #[.pointer (some ⟨X,0,none⟩)] 35:=by rw[hW];exact(af.new _ _ _).alloc _
 have hbN:af W (w.heap.size+1) (ay n) 60:=by
  rw[hW];have:=af.new (w.alloc (.cells #[.pointer (some ⟨X,0,none⟩)] 35)) (ay n) 60
  simpa using this
 have hsW:W.heap.size=w.heap.size+2:=by rw[hW];simp
 have hXW:=hX.nw dM;obtain⟨c0,c1,c2,c3,c4,c5,c6,c7⟩:=vX hXW hdv;obtain⟨e0,e1,e2,e3,e4,e5,e6,e7⟩:=cZ (CU▸hbN);have hcP:W.cell? ⟨w.heap.size,0,none⟩=some (.pointer (some ⟨X,0,none⟩)):=hbP.cell 0
 have HXW:=hd hXW;have HbP:=hd hbP;have Xc:=hd hbN;have uq:=hd hsW;have HW:=hd hW;have xU:=hd CU;have Hdv:=hd hdv;clear hXW hbP hbN hsW hW CU hdv hX;go_enter Tryz.func45,Tryz.ntmps45
 go_upto_region 1 with fail
 rw[<-HW.out];go_upto_region 2 with fail
 obtain⟨U,hU⟩:∃U,U=W.alloc (.cells (ay d) 60):=⟨_,rfl⟩;have iR:Nw W U:=by rw[hU];exact(Fr.refl _ W).alloc _
 have ZN:af U W.heap.size (ay d) 60:=by rw[hU];exact af.new _ _ _
 rw[<-Hdv.out];rw[<-hU];clear hU c0 c1 c2 c3 c4 c5 c6 c7 e0 e1 e2 e3 e4 e5 e6 e7 hcP;have FB:=HXW.out.nw iR;have hcP:U.cell? ⟨w.heap.size,0,none⟩=some (.pointer (some ⟨X,0,none⟩)):=(HbP.out.nw iR).cell 0
 obtain⟨e0,e1,e2,e3,e4,e5,e6,e7⟩:=cZ (xU.out▸(Xc.out.nw iR));obtain⟨g0,g1,g2,g3,g4,g5,g6,g7⟩:=cZ (Hdv.out▸ZN);obtain⟨c0,c1,c2,c3,c4,c5,c6,c7⟩:=vX FB Hdv.out;have hfz:∀i,U.frozen? ⟨X,i,none⟩=false:=FB.free
 have HXU:=hd FB;have Xe:=hd ((htr.nw dM).nw iR);have Xd:=hd htr;have aeX:=hd (HbP.out.nw iR);have HbU:=hd ZN;have Yu:w.heap.size+2<=W.heap.size:=by rw[uq.out];exact Nat.le_refl _
 clear htr;have aeY:=hd iR;have TK:Hid (Nw w U):=dM.trans iR (fun i h=>h.elim)
 clear ZN FB iR dM;by_cases hnd:n=d
 ·have heq:=GR n d h8 hd8 G5 hd6;rw[decide_eq_true hnd,xU.out,Hdv.out] at heq;have Hnd:=hd hnd;clear hnd;go_wp2
  exact bodyPost_ret (v:=.tuple #[]) (results_none rfl _ _ _) rfl ⟨rfl,TK.out.mono (fun i h=>h.elim),.inl ⟨Hnd.out,HXU.out,Xe.out⟩⟩
 ·have heq:=GR n d h8 hd8 G5 hd6;rw[decide_eq_false hnd,xU.out,Hdv.out] at heq;have Hnd:=hd hnd;clear hnd;go_wp2_with (go_at_call 71;refine(write_any X az d tv l ss xs _ _ _ _ HXU.out hd8 Xe.out hxs).mono ?_;rintro e w2 ⟨rfl,bv,TL,hf2,hX2,ho2⟩;have Ho2:=hd ho2;clear ho2;clear c0 c1 c2 c3 c4 c5 c6 c7 e0 e1 e2 e3 e4 e5 e6 e7 g0 g1 g2 g3 g4 g5 g6 g7 hcP hfz;have hbl:∀k,l.bC.ownBlock=some k->k<w.heap.size:=(fun k hk=>Xd.out.bC.lt hk);have hout:∀k,w.heap.size<=k->¬(k=X\/l.bC.ownBlock=some k):=(fun k hk h=>h.elim (fun h=>by omega) (fun h=>by have:=hbl k h;omega));have ace:=(Xc.out.nw aeY.out).fr hf2 (hout _ (by omega));have ZO:=aeX.out.fr hf2 (hout _ (Nat.le_refl _));have acf:=HbU.out.fr hf2 (hout _ (by omega));obtain⟨e0,e1,e2,e3,e4,e5,e6,e7⟩:=cZ (xU.out▸ace);obtain⟨c0,c1,c2,c3,c4,c5,c6,c7⟩:=vX hX2 Hdv.out;have hcP:w2.cell? ⟨w.heap.size,0,none⟩=some (.pointer (some ⟨X,0,none⟩)):=ZO.cell 0;have hfz:∀i,w2.frozen? ⟨X,i,none⟩=false:=hX2.free;have Wl:=hd hX2;have Lm:=hd TL;have yG:=hd hf2;have aeZ:=hd ZO;have ae0:=hd acf;clear hX2 TL hf2 ZO acf ace hbl hout)
  go_end0
  have hFg:=(Fr.refl (fun k=>k=X) w2).mJ X 1 2 3 4 5 6 7 8 (.int .u8 x0) (.int .u8 x1) (.int .u8 x2) (.int .u8 x3) (.int .u8 x4) (.int .u8 x5) (.int .u8 x6) (.int .u8 x7) (.inl rfl)
  refine⟨rfl,?_,.inr ⟨Hnd.out,bv,W.heap.size,?_,Lm.out.fr hFg (fun k hk e=>?_) (fun k hk e=>?_),aeZ.out.fr hFg (by omega),ae0.out.fr hFg (by omega),by omega,fun k hk=>(Ho2.out k hk).imp id (fun h=>by have:=TK.out.size;omega)⟩⟩
  ·exact((TK.out.mono (S':=fun k=>k=X\/l.bC.ownBlock=some k) (fun i h=>h.elim)).trans yG.out (fun i h=>.inl h)).mJ X 1 2 3 4 5 6 7 8 _ _ _ _ _ _ _ _ (.inl (.inl rfl))
  ·have h5:=Wl.out.mJ 1 2 3 4 5 6 7 8 (.int .u8 x0) (.int .u8 x1) (.int .u8 x2) (.int .u8 x3) (.int .u8 x4) (.int .u8 x5) (.int .u8 x6) (.int .u8 x7);rw[uu az d tv ⟨bv,l.starts,l.busy⟩ hd8 n xU.out] at h5;exact h5
  ·subst e;exact Lm.out.starts.ne Wl.out (by decide) hk
  ·subst e;exact Lm.out.bC.ne Wl.out (by decide) hk
set_option maxRecDepth 1000000 in
theorem PW (X T D:Nat) (az:Value) (d n:List Nat) (tv:Value) (l:Rest) (w:World) (hX:af w X (ah az n tv l) 66) (hd8:d.length=8) (h8:n.length=8)
  (hT:af w T #[.pointer (some ⟨X,0,none⟩)] 35) (hD:af w D (ay d) 60):
  Calls Tryz.prog 72 #[.pointer (some ⟨D,0,none⟩),.pointer (some ⟨T,0,none⟩)] w fun e w'=>e= .returned (.tuple #[])/\Fr (fun k=>k=X) w w'/\af w' X (ah az d tv l) 66:=by
 obtain⟨v0,v1,v2,v3,v4,v5,v6,v7,hdv⟩:=iV hd8;obtain⟨u0,u1,u2,u3,u4,u5,u6,u7,CU⟩:=iV h8;obtain⟨⟨x0,rfl⟩,⟨x1,rfl⟩,⟨x2,rfl⟩,⟨x3,rfl⟩,⟨x4,rfl⟩,⟨x5,rfl⟩,⟨x6,rfl⟩,⟨x7,rfl⟩⟩:=iO d hdv;obtain⟨c0,c1,c2,c3,c4,c5,c6,c7⟩:=vX hX CU;obtain⟨e0,e1,e2,e3,e4,e5,e6,e7⟩:=cZ (hdv▸hD);have zU:w.cell? ⟨T,0,none⟩=some (.pointer (some ⟨X,0,none⟩)):=hT.cell 0
 have hfz:∀i,w.frozen? ⟨X,i,none⟩=false:=hX.free
 have HX:=hd hX;have Hdv:=hd hdv;clear hX hdv CU hT hD;go_enter Tryz.func72,Tryz.ntmps72
 go_wp2
 go_end0
 refine⟨rfl,(Fr.refl _ w).mJ X 1 2 3 4 5 6 7 8 _ _ _ _ _ _ _ _ (.inl rfl),?_⟩
 have h5:=HX.out.mJ 1 2 3 4 5 6 7 8 (.int .u8 x0) (.int .u8 x1) (.int .u8 x2) (.int .u8 x3) (.int .u8 x4) (.int .u8 x5) (.int .u8 x6) (.int .u8 x7);rw[uu az n tv l h8 d Hdv.out] at h5;exact h5
set_option maxRecDepth 1000000 in
theorem PX (T S G g cap:Nat) (vars:List Int) (t t0:TS) (w:World) (h:oN w G g cap vars t) (h0:TS.JX w G vars t t0) (hst:∃(s0:Int) (so:Option Addr) (sl sc:Nat) (s2:Int),t0.state=#[.int .u64 s0,.slice so sl sc,.int .i64 s2])
  (hT:af w T #[.iface t.ty (.pointer (some ⟨G,0,none⟩))] 73) (hS:af w S t0.state 137):
  Calls Tryz.prog 73 #[.pointer (some ⟨T,0,none⟩),.pointer (some ⟨S,0,none⟩)] w fun e w'=>e= .returned (.tuple #[])/\Fr (fun k=>k=G) w w'/\oN w' G g cap vars t0:=by
 obtain⟨s0,so,sl,sc,s2,hst⟩:=hst;have zU:w.cell? ⟨T,0,none⟩=some (.iface t.ty (.pointer (some ⟨G,0,none⟩))):=hT.cell 0
 have c0:w.cell? ⟨S,0,none⟩=some (.int .u64 s0):=(hS.cell 0).trans (by rw[hst];rfl)
 have c1:w.cell? ⟨S,1,none⟩=some (.slice so sl sc):=(hS.cell 1).trans (by rw[hst];rfl)
 have c2:w.cell? ⟨S,2,none⟩=some (.int .i64 s2):=(hS.cell 2).trans (by rw[hst];rfl)
 obtain⟨ty,hty⟩:∃ty,t.ty=ty:=⟨_,rfl⟩;rw[hty] at zU;have yV:=hd hst;clear hst hT hS;go_enter Tryz.func73,Tryz.ntmps73
 go_wp2_with fail
 rw[<-yV.out,<-hty];refine(Ff G g cap vars t t0 _ h h0).mono ?_
 rintro e w1 ⟨rfl,hf,hT⟩
 go_wp2
 go_end0
 exact⟨rfl,hf,hT⟩
theorem wU:∀(l:List Bool) (k:Nat),(firstAt true l k=-1/\∀i,l.getD i false=false)\/∃i,i<l.length/\firstAt true l k=((k+i:Nat):Int)/\l.getD i false=true
 | [],k=>.inl ⟨rfl,fun i=>by simp[List.getD]⟩
 | b::l,k=>by
  cases b with
  | true=>exact .inr ⟨0,by simp,by simp[firstAt],rfl⟩
  | false=>
   rcases wU l (k+1) with ⟨h1,h2⟩ | ⟨i,h1,h2,h3⟩
   ·refine .inl ⟨by simpa[firstAt] using h1,fun i=>?_⟩
    cases i with
    | zero=>rfl
    | succ i=>simpa[List.getD] using h2 i
   ·refine .inr ⟨i+1,by simp;omega,?_,by simpa[List.getD] using h3⟩
    have e:firstAt true (false::l) k=firstAt true l (k+1):=by simp[firstAt]
    rw[e,h2];congr 1
    omega
theorem Bl (m:List Bool) (i:Nat) (hi:i<m.length):(jq m)[i]? = some (.bool (m.getD i false)):=by
 simp[jq,List.getD,hi]
theorem Ef (b:Nat) (m:List Bool) (w:World) (hm:m.length=12) (h:af w b (jq m) 71):
  Calls Tryz.prog 44 #[.slice (some ⟨b,0,none⟩) 12 12,.bool true] w fun e w'=>e= .returned (.int .i64 (firstAt true m 0))/\w'=w:=by
 have hc:=CY b 0 12 m w (by omega) (fun i hi=>by
  rw[Nat.zero_add,h.cell i];exact Bl m i hi)
 rw[hm] at hc;exact hc
theorem Ls {n:Nat} {d:List Nat} (hd:d.length=8) (hn:n<=8):Aj n d=false↔Full n d:=by
 unfold Aj Full;constructor
 ·intro h q hq e;have:(d.take n).contains 0=true:=by
   rw[List.contains_iff_mem,List.mem_iff_getElem];refine⟨q,by simp;omega,?_⟩
   have hq':q<d.length:=by omega
   simp only[List.getElem_take];simpa[List.getD,hq'] using e
  rw[this] at h;cases h
 ·intro h;cases hx:(d.take n).contains 0 with
  | false=>rfl
  | true=>
   rw[List.contains_iff_mem,List.mem_iff_getElem] at hx;obtain⟨q,hq,e⟩:=hx;simp at hq
   have hq':q<d.length:=by omega
   refine absurd ?_ (h q (by omega))
   simp only[List.getElem_take] at e;simpa[List.getD,hq'] using e
def Only (w:World) (S:Nat->Prop) (es:List TypeId):Prop:=∀k cur e,S k->af w k cur e->e∈es
theorem Only.one {w:World} {X:Nat} {cur:Array Value} {e:TypeId} (h:af w X cur e):Only w (fun k=>k=X) [e]:=by
 rintro k cur' e' rfl h'
 rw[(h'.inj h).2];exact List.mem_singleton.2 rfl
theorem Only.or {w:World} {S S':Nat->Prop} {es es':List TypeId} (h:Only w S es) (h':Only w S' es'):Only w (fun k=>S k\/S' k) (es++es'):=by
 rintro k cur e (hs | hs) hb
 ·exact List.mem_append_left _ (h k cur e hs hb)
 ·exact List.mem_append_right _ (h' k cur e hs hb)
theorem Only.row {w:World} {v:Value} {e:TypeId} {xs:List Value} (h:Row w v e xs):Only w (fun k=>v.ownBlock=some k) [e]:=by
 intro k cur e' hk hb;refine Classical.byContradiction fun hc=>?_
 exact h.ne hb (fun x=>hc (by rw[x];exact List.mem_singleton.2 rfl)) hk
theorem Only.mono {w:World} {S S':Nat->Prop} {es es':List TypeId} (h:Only w S es) (hs:∀k,S' k->S k) (he:∀e∈es,e∈es'):Only w S' es':=fun k cur e hk hb=>he e (h k cur e (hs k hk) hb)
theorem Only.none (w:World):Only w (fun _=>False) []:=fun _ _ _ h=>h.elim
theorem af.jr {S:Nat->Prop} {w w':World} {g:Nat} {cur:Array Value} {e:TypeId} (h:af w g cur e) (f:Fr S w w') {es:List TypeId} (o:Only w S es) (he:e∉es):af w' g cur e:=h.fr f (fun hs=>he (o g cur e hs h))
theorem Row.jr {S:Nat->Prop} {w w':World} {v:Value} {e:TypeId} {xs:List Value} (h:Row w v e xs) (f:Fr S w w') {es:List TypeId} (o:Only w S es) (he:e∉es):Row w' v e xs:=h.fr f (fun k hk hs=>by
 obtain⟨cur,hb,_⟩:=h.blk hk;exact he (o k cur e hs hb))
theorem ownsRow.blk {w:World} {v:Value} {e:TypeId} {size n:Nat} {xs:List Value} (h:w.ownsRow 0 e size v n xs) {k:Nat} (hk:v.ownBlock=some k):∃cur,af w k cur e:=by
 rcases h.2 with ⟨rfl,_⟩ | ⟨g,cap,cur,rfl,_,hb,_⟩
 ·cases hk
 ·cases hk;exact⟨cur,hb⟩
theorem ownsRow.jr {S:Nat->Prop} {w w':World} {v:Value} {e:TypeId} {size n:Nat} {xs:List Value} (h:w.ownsRow 0 e size v n xs) (f:Fr S w w') {es:List TypeId} (o:Only w S es) (he:e∉es):w'.ownsRow 0 e size v n xs:=ownsRow.fr h f (fun k hk hs=>by
 obtain⟨cur,hb⟩:=ownsRow.blk h hk;exact he (o k cur e hs hb))
theorem mP.jr {S:Nat->Prop} {w w':World} {l:Rest} {ss xs:List Value} (h:mP w l ss xs) (f:Fr S w w') {es:List TypeId} (o:Only w S es) (he:3∉es/\1∉es):mP w' l ss xs:=⟨h.starts.jr f o he.1,h.bC.jr f o he.2⟩
def Bo:List TypeId:=[131,125,3,151]
theorem oN.jr {S:Nat->Prop} {w w':World} {G g cap:Nat} {vars:List Int} {t:TS} (h:oN w G g cap vars t) (f:Fr S w w') {es:List TypeId} (o:Only w S es) (he:∀e∈Bo,e∉es):oN w' G g cap vars t:=h.fr f (fun k hk hs=>by
 obtain⟨cur,e,hb,hc⟩:=h.uV hk;refine he e ?_ (o k cur e hs hb)
 simp only[Bo,List.mem_cons,List.not_mem_nil,or_false];exact hc)
theorem jZ.jr {S:Nat->Prop} {w w':World} {so:Option Addr} {aI:Nat} {ts:List Tab} (h:jZ w so aI ts) (f:Fr S w w') {es:List TypeId} (o:Only w S es) (he:∀e∈73::Bo,e∉es):jZ w' so aI ts:=
 ⟨h.row.jr f o (he _ (List.mem_cons_self ..)),fun i hi=>(h.at_ i hi).jr f o (fun e h'=>he e (List.mem_cons_of_mem _ h')),h.four,h.ok⟩
theorem jZ.nw {w w':World} {so:Option Addr} {aI:Nat} {ts:List Tab} (h:jZ w so aI ts) (f:Nw w w'):jZ w' so aI ts:=h.jr f (Only.none w) (fun _ _=>List.not_mem_nil)
def TS.Bq:TS->TS->Prop
 | .rs nt br _,.rs nt' br' _=>nt'=nt/\br'=br
 | .dg ..,.dg ..=>True
 | _,_=>False
theorem TS.Bq.refl (t:TS):TS.Bq t t:=by cases t <;> simp[TS.Bq]
theorem TS.Bq.trans {a b c:TS} (h:TS.Bq a b) (k:TS.Bq b c):TS.Bq a c:=by
 cases a <;> cases b <;> cases c <;> simp_all [TS.Bq]
theorem TS.Bq.ty {a b:TS} (h:TS.Bq a b):b.ty=a.ty:=by
 cases a <;> cases b <;> simp_all [TS.Bq,TS.ty]
theorem TS.Next.kin {vars:List Int} {dn:List Nat} {t t':TS} (h:TS.Next vars dn t t'):TS.Bq t t':=by
 cases t with
 | rs nt br live=>
  have:t'= .rs nt br (jy br live vars dn):=h
  subst this;exact⟨rfl,rfl⟩
 | dg nv os root=>
  obtain⟨uy,rfl⟩:=h;trivial
theorem TS.JX.kin {w:World} {G:Nat} {vars:List Int} {t t' t0:TS} (h:TS.JX w G vars t t0) (k:TS.Bq t t'):TS.JX w G vars t' t0:=by
 cases t <;> cases t' <;> cases t0 <;> simp_all [TS.Bq,TS.JX]
theorem TS.JX.acg {w:World} {G:Nat} {vars:List Int} {t t0:TS} (h:TS.JX w G vars t t0):TS.Bq t t0:=by
 cases t <;> cases t0 <;> simp_all [TS.Bq,TS.JX]
theorem TS.JX.jr {S:Nat->Prop} {w w':World} {G:Nat} {vars:List Int} {t t0:TS} (h:TS.JX w G vars t t0) (f:Fr S w w') {es:List TypeId} (o:Only w S es) (he:151∉es):TS.JX w' G vars t t0:=by
 cases t <;> cases t0
 ·exact h
 ·exact h
 ·exact h
 ·exact⟨ownsRow.jr h.1 f o he,h.2⟩
theorem oN.was {w:World} {G g cap:Nat} {vars:List Int} {t:TS} (h:oN w G g cap vars t):TS.JX w G vars t t:=by
 cases t with
 | rs nt br live=>exact⟨rfl,rfl,h.2.2.2.2.1⟩
 | dg nv os root=>exact⟨h.1.row,h.1.ok,h.1.two,fun e=>by
   obtain⟨cur,hb⟩:=ownsRow.blk h.1.row e;have:=(hb.inj h.1.blk).2
   revert this
   decide,h.2⟩
theorem TS.JX.form {w:World} {G:Nat} {vars:List Int} {t t0:TS} (h:TS.JX w G vars t t0):∃(s0:Int) (so:Option Addr) (sl sc:Nat) (s2:Int),t0.state=#[.int .u64 s0,.slice so sl sc,.int .i64 s2]:=by
 cases t0 with
 | rs nt br live=>exact⟨_,_,_,_,_,rfl⟩
 | dg nv os root=>
  cases t with
  | rs nt br live=>exact h.elim
  | dg uy os' root'=>
   rcases h.1.2 with ⟨rfl,_⟩ | ⟨g,cap,cur,rfl,_⟩
   ·exact⟨_,_,_,_,_,rfl⟩
   ·exact⟨_,_,_,_,_,rfl⟩
structure gV (ts ts':List Tab):Prop where
 len:ts'.length=ts.length
 at_:∀i,i<ts.length->(ts'.getD i aH).G=(ts.getD i aH).G/\(ts'.getD i aH).g=(ts.getD i aH).g/\(ts'.getD i aH).cap=(ts.getD i aH).cap/\(ts'.getD i aH).vars=(ts.getD i aH).vars/\TS.Bq (ts.getD i aH).t (ts'.getD i aH).t
theorem gV.refl (ts:List Tab):gV ts ts:=⟨rfl,fun _ _=>⟨rfl,rfl,rfl,rfl,TS.Bq.refl _⟩⟩
theorem gV.trans {a b c:List Tab} (h:gV a b) (k:gV b c):gV a c:=⟨k.len.trans h.len,fun i hi=>by
 obtain⟨h1,h2,h3,h4,h5⟩:=h.at_ i hi;obtain⟨k1,k2,k3,k4,k5⟩:=k.at_ i (by rw[h.len];exact hi)
 exact⟨k1.trans h1,k2.trans h2,k3.trans h3,k4.trans h4,h5.trans k5⟩⟩
theorem gV.val {ts ts':List Tab} (h:gV ts ts') (i:Nat) (hi:i<ts.length):(ts'.getD i aH).val=(ts.getD i aH).val:=by
 obtain⟨h1,_,_,_,h5⟩:=h.at_ i hi;simp only[Tab.val,h1,h5.ty]
theorem gV.vals {ts ts':List Tab} (h:gV ts ts'):ts'.map Tab.val=ts.map Tab.val:=by
 refine List.ext_getElem (by simp[h.len]) fun i h1 h2=>?_
 have hi:i<ts.length:=by simpa using h2
 have hi':i<ts'.length:=by simpa using h1
 have:=h.val i hi
 simpa[List.getD,hi,hi'] using this
theorem sW (ts:List Tab) (k i:Nat) (x:Tab) (hk:k<ts.length):(ts.set k x).getD i aH=if k=i then x else ts.getD i aH:=by
 simp only[List.getD,List.getElem?_set]
 by_cases h:k=i
 ·subst h;simp[hk]
 ·simp[h]
theorem gV.set {ts:List Tab} {k:Nat} (hk:k<ts.length) {t':TS} (h:TS.Bq (ts.getD k aH).t t'):gV ts (ts.set k {ts.getD k aH with t:=t'}):=⟨by simp,fun i hi=>by
 rw[sW _ _ _ _ hk];by_cases e:k=i
 ·subst e;simpa using h
 ·rw[if_neg e];exact⟨rfl,rfl,rfl,rfl,TS.Bq.refl _⟩⟩
theorem gV.fits {bs:List Tb} {ts ts':List Tab} (h:gV ts ts') (hf:Fits bs ts):Fits bs ts':=⟨h.len.trans hf.1,fun k hk=>by
 rw[<-hf.2 k hk];exact(h.at_ k (by rw[hf.1];exact hk)).2.2.2.1⟩
inductive Un where
 | n (T S k:Nat) (t0:TS)
 | r (T D:Nat) (d0:List Nat)
def Un.val:Un->Value
 | .n T S _ _=>NR T S
 | .r T D _=>NT T D
def Un.isN:Un->Prop
 | .n ..=>True
 | .r ..=>False
def Un.boxes:Un->Nat->Prop
 | .n T S _ _=>fun k=>k=T\/k=S
 | .r T D _=>fun k=>k=T\/k=D
def Un.At (w:World) (X:Nat) (ts:List Tab):Un->Prop
 | .n T S k t0=>k<ts.length/\af w T #[(ts.getD k aH).val] 73/\af w S t0.state 137/\TS.JX w (ts.getD k aH).G (ts.getD k aH).vars (ts.getD k aH).t t0
 | .r T D d0=>af w T #[.pointer (some ⟨X,0,none⟩)] 35/\af w D (ay d0) 60/\d0.length=8/\∀x∈d0,x<64
def Un.uX:Un->List Nat×List TS->List Nat×List TS
 | .n _ _ k t0,s=>(s.1,s.2.set k t0)
 | .r _ _ d0,s=>(d0,s.2)
theorem Un.At.jr {S:Nat->Prop} {w w':World} {X:Nat} {ts:List Tab} {u:Un} (h:u.At w X ts) (f:Fr S w w') {es:List TypeId} (o:Only w S es) (he:73∉es/\137∉es/\151∉es/\35∉es) (hD:u.isN\/60∉es):u.At w' X ts:=by
 cases u with
 | n T S' k t0=>exact⟨h.1,h.2.1.jr f o he.1,h.2.2.1.jr f o he.2.1,h.2.2.2.jr f o he.2.2.1⟩
 | r T D d0=>
  rcases hD with hD | hD
  ·exact hD.elim
  ·exact⟨h.1.jr f o he.2.2.2,h.2.1.jr f o hD,h.2.2⟩
theorem Un.At.same {w:World} {X:Nat} {ts ts':List Tab} {u:Un} (h:u.At w X ts) (s:gV ts ts'):u.At w X ts':=by
 cases u with
 | n T S' k t0=>
  obtain⟨h1,h2,h3,h4⟩:=h;obtain⟨e1,e2,e3,e4,e5⟩:=s.at_ k h1;refine⟨by rw[s.len];exact h1,by rw[s.val k h1];exact h2,h3,?_⟩
  rw[e1,e4];exact h4.kin e5
 | r T D d0=>exact h
def Inj (ts:List Tab):Prop:=∀i j,i<ts.length->j<ts.length->(ts.getD i aH).G=(ts.getD j aH).G->i=j
theorem gV.inj {ts ts':List Tab} (h:gV ts ts') (k:Inj ts):Inj ts':=fun i j hi hj e=>by
 rw[h.len] at hi hj;rw[(h.at_ i hi).1,(h.at_ j hj).1] at e;exact k i j hi hj e
theorem jZ.step {S:Nat->Prop} {w w':World} {so:Option Addr} {aI:Nat} {ts:List Tab} (h:jZ w so aI ts) (hi:Inj ts) {k:Nat} (hk:k<ts.length) {es:List TypeId} (o:Only w S es) (f:Fr (fun q=>q=(ts.getD k aH).G\/S q) w w')
  (he:∀e∈73::Bo,e∉es) {t':TS} (kin:TS.Bq (ts.getD k aH).t t') (ht:oN w' (ts.getD k aH).G (ts.getD k aH).g (ts.getD k aH).cap (ts.getD k aH).vars t'):jZ w' so aI (ts.set k {ts.getD k aH with t:=t'}):=by
 have hs:=gV.set hk kin;obtain⟨cG,eG,Gu,yf⟩:=(h.at_ k hk).YF;have oG:Only w (fun q=>q=(ts.getD k aH).G\/S q) (eG::es):=(Only.one Gu).or o
 refine⟨?_,fun i hi'=>?_,fun i hi'=>?_,fun i hi'=>?_⟩
 ·rw[hs.len,hs.vals];refine h.row.jr f oG ?_
  rw[List.mem_cons];rintro(rfl | hx)
  ·revert yf;decide
  ·exact he _ (List.mem_cons_self ..) hx
 ·rw[List.length_set] at hi';rw[sW _ _ _ _ hk];by_cases e:k=i
  ·subst e;rw[if_pos rfl];exact ht
  ·rw[if_neg e];refine(h.at_ i hi').fr f ?_
   rintro q hq (hx | hx)
   ·obtain⟨cur,e',hb,hc⟩:=(h.at_ i hi').uV hq;subst hx;have e2:=(hb.inj Gu).2;rcases hq with hq | hq | hq
    ·exact e (hi k i hk hi' hq)
    ·obtain⟨Xf,hb2,_⟩:=(show Row w (.slice (some ⟨(ts.getD i aH).g,0,none⟩) (ts.getD i aH).vars.length (ts.getD i aH).cap) 3 ((ts.getD i aH).vars.map (Value.int .i64)) from by
      have:=h.at_ i hi'
      revert this
      cases (ts.getD i aH).t with
      | rs nt br live=>exact fun h=>h.2.1
      | dg nv os root=>exact fun h=>h.1.rv).blk (k:=(ts.getD i aH).g) rfl
     rw[hq] at Gu;have e3:=(hb2.inj Gu).2;subst e3;revert yf
     decide
    ·have h3:=h.at_ i hi';revert h3 hq
     cases (ts.getD i aH).t with
     | rs nt br live=>exact fun hq=>hq.elim
     | dg nv os root=>
      intro h3 hq;obtain⟨Xf,hb2⟩:=ownsRow.blk hq.1.row h3;have e3:=(hb2.inj Gu).2;subst e3;revert yf
      decide
   ·obtain⟨cur,e',hb,hc⟩:=(h.at_ i hi').uV hq;refine he e' (List.mem_cons_of_mem _ ?_) (o q cur e' hx hb)
    simp only[Bo,List.mem_cons,List.not_mem_nil,or_false];exact hc
 ·rw[List.length_set] at hi';rw[(hs.at_ i hi').2.2.2.1];exact h.four i hi'
 ·rw[List.length_set] at hi';rw[(hs.at_ i hi').2.2.2.1];exact h.ok i hi'
theorem IC (us:List Un) (u:Un) (s s':List Nat×List TS) (h:u.uX s'=s):(us++[u]).foldr Un.uX s'=us.foldr Un.uX s:=by
 simp[List.foldr_append,h]
theorem TM (ts:List Tab) (k:Nat) (hk:k<ts.length) (t':TS) (d:List Nat) (T S:Nat):(Un.n T S k (ts.getD k aH).t).uX (d,(ts.set k {ts.getD k aH with t:=t'}).map Tab.t)=(d,ts.map Tab.t):=by
 simp only[Un.uX,List.map_set,List.set_set,Prod.mk.injEq,true_and];refine List.ext_getElem (by simp) fun i h1 h2=>?_
 simp only[List.getElem_set,List.getElem_map];split
 ·rename_i e;subst e;simp[List.getD,hk]
 ·rfl
def cellsOf (w:World) (g:Nat):List Value:=match w.heap[g]? with
 | some (.cells c _ _)=>c.toList
 | _=>[]
def TN:Value->Nat
 | .int _ z=>z.toNat
 | _=>0
def Lt:Value->Bool
 | .bool b=>b
 | _=>false
theorem zo {w:World} {g:Nat} {cur:Array Value} {e:TypeId} (h:af w g cur e):cellsOf w g=cur.toList:=by
 have h':w.heap[g]? = some (.cells cur e (0,0)):=h
 simp[cellsOf,h']
def ZP (w:World) (N:Nat):Nat:=bitsOf ((cellsOf w N).map TN)*13+marksOf ((cellsOf w (N+1)).map Lt)
theorem YG {w:World} {N:Nat} {next:List Nat} {m:List Bool} (h:af w N (ay next) 60) (h':af w (N+1) (jq m) 71):ZP w N=bitsOf next*13+marksOf m:=by
 have e1:(ay next).toList.map TN=next:=by
  exact List.ext_getElem (by simp) (fun i h1 h2=>by simp[TN])
 have e2:(jq m).toList.map Lt=m:=by
  exact List.ext_getElem (by simp[jq]) (fun i h1 h2=>by simp[jq,Lt])
 simp only[ZP,zo h,zo h',e1,e2]
structure Dk where
 X:Nat
 az:Value
 zs:List Int
 d:List Nat
 so:Option Addr
 aI:Nat
 l:Rest
 ss:List Value
 xs:List Value
 ts:List Tab
 bs:List Tb
 start:List Nat
def Xg (X:Nat) (ts:List Tab) (bv:Value) (k:Nat):Prop:=k=X\/(∃i,i<ts.length/\k=(ts.getD i aH).G)\/bv.ownBlock=some k
def ji (ss xs:List Value) (us:List Un):List Value:=if ss.isEmpty then xs else xs++us.map Un.val
theorem Lu (ss xs:List Value):ji ss xs []=xs:=by simp[ji]
theorem Eg (ss xs:List Value) (us:List Un) (u:Un):Lh ss (ji ss xs us) u.val=ji ss xs (us++[u]):=by
 unfold Lh ji;split <;> simp
theorem LC (ss xs:List Value) (us:List Un):(ji ss xs us).length<=xs.length+us.length:=by
 unfold ji;split <;> simp
structure oP (c:Dk) (w wr:World) (next:List Nat) (m:List Bool) (ts:List Tab) (bv:Value) (us:List Un):Prop where
 fr:Fr (Xg c.X c.ts c.l.bC) w wr
 own:∀k,bv.ownBlock=some k->c.l.bC.ownBlock=some k\/w.heap.size<=k
 blk:af wr c.X (ah c.az c.d (.slice c.so ts.length c.aI) ⟨bv,c.l.starts,c.l.busy⟩) 66
 nx:af wr w.heap.size (ay next) 60
 NU:af wr (w.heap.size+1) (jq m) 71
 sz:Row wr c.az 3 (c.zs.map (Value.int .i64))
 tabs:jZ wr c.so c.aI ts
 tr:mP wr ⟨bv,c.l.starts,c.l.busy⟩ c.ss (ji c.ss c.xs us)
 same:gV c.ts ts
 un:∀u∈us,u.At wr c.X ts/\u.isN
 new:∀u∈us,∀k,u.boxes k->w.heap.size<=k
 back:us.foldr Un.uX (c.d,ts.map Tab.t)=(c.d,c.ts.map Tab.t)
theorem oP.wr {c:Dk} {w wr wr':World} {next next':List Nat} {m m':List Bool} {ts:List Tab} {bv:Value} {us:List Un} {S:Nat->Prop} (h:oP c w wr next m ts bv us) (f:Fr S wr wr') (o:Only wr S [71,60]) (hs:∀k,S k->w.heap.size<=k)
  (nx':af wr' w.heap.size (ay next') 60) (mk':af wr' (w.heap.size+1) (jq m') 71):oP c w wr' next' m' ts bv us:=
 ⟨h.fr.trans f (fun i hi=>.inr (hs i hi)),h.own,h.blk.jr f o (by decide),nx',mk',h.sz.jr f o (by decide),h.tabs.jr f o (by decide),h.tr.jr f o (by decide),h.same,fun u hu=>⟨(h.un u hu).1.jr f o (by decide) (.inl (h.un u hu).2),(h.un u hu).2⟩,h.new,h.back⟩
theorem oP.nw {c:Dk} {w wr wr':World} {next:List Nat} {m:List Bool} {ts:List Tab} {bv:Value} {us:List Un} (h:oP c w wr next m ts bv us) (f:Nw wr wr'):oP c w wr' next m ts bv us:=
 h.wr f ((Only.none wr).mono (fun _ x=>x) (fun _ x=>by cases x)) (fun _ x=>x.elim) (h.nx.nw f) (h.NU.nw f)
theorem oP.only {c:Dk} {w wr:World} {next:List Nat} {m:List Bool} {ts:List Tab} {bv:Value} {us:List Un} (h:oP c w wr next m ts bv us) {k:Nat} (hk:k<ts.length):
  Only wr (fun q=>q=(ts.getD k aH).G\/q=c.X\/bv.ownBlock=some q) [131,125,66,1]:=by
 obtain⟨cG,eG,Gu,yf⟩:=(h.tabs.at_ k hk).YF;have oR:Only wr (fun q=>q=c.X\/bv.ownBlock=some q) [66,1]:=(Only.one h.blk).or (Only.row h.tr.bC)
 refine((Only.one Gu).or oR).mono (fun _ x=>x) ?_
 intro e he;rcases yf with rfl | rfl
 ·revert e;decide
 ·revert e;decide
theorem oP.reads {c:Dk} {w wr:World} {next:List Nat} {m:List Bool} {ts:List Tab} {bv:Value} {us:List Un} (h:oP c w wr next m ts bv us) (hd8:c.d.length=8) {k:Nat} (hk:k<ts.length) {tb:Nat} (hso:c.so=some ⟨tb,0,none⟩):
  wr.cell? ⟨c.X,9,none⟩=some (.slice (some ⟨tb,0,none⟩) ts.length c.aI)/\wr.cell? ⟨tb,k,none⟩=some (ts.getD k aH).val/\af wr w.heap.size (ay next) 60:=by
 refine⟨(h.blk.cell 9).trans ((dV _ _ _ _ hd8).trans (by rw[hso])),?_,h.nx⟩
 have hr:=h.tabs.row;rw[hso] at hr;rw[(hr.at_ k (by simpa using hk)).1]
 simp[List.getD,hk]
theorem oP.narrowed {c:Dk} {w wr w3:World} {next:List Nat} {m:List Bool} {ts:List Tab} {bv bv':Value} {us:List Un} (h:oP c w wr next m ts bv us) (hinj:Inj c.ts) {k:Nat} (hk:k<ts.length) {t':TS} {T S:Nat} (kin:TS.Bq (ts.getD k aH).t t')
  (f:Fr (fun q=>q=(ts.getD k aH).G\/q=c.X\/bv.ownBlock=some q) wr w3) (hT:oN w3 (ts.getD k aH).G (ts.getD k aH).g (ts.getD k aH).cap (ts.getD k aH).vars t')
  (hX:af w3 c.X (ah c.az c.d (.slice c.so ts.length c.aI) ⟨bv',c.l.starts,c.l.busy⟩) 66) (htr:mP w3 ⟨bv',c.l.starts,c.l.busy⟩ c.ss (Lh c.ss (ji c.ss c.xs us) (NR T S)))
  (pU:af w3 T #[(ts.getD k aH).val] 73) (hbS:af w3 S (ts.getD k aH).t.state 137) (hown:∀q,bv'.ownBlock=some q->bv.ownBlock=some q\/wr.heap.size<=q) (hTl:wr.heap.size<=T) (hSl:wr.heap.size<=S):
  oP c w w3 next m (ts.set k {ts.getD k aH with t:=t'}) bv' (us++[Un.n T S k (ts.getD k aH).t]):=by
 have hs:=gV.set hk kin;have oR:Only wr (fun q=>q=c.X\/bv.ownBlock=some q) [66,1]:=(Only.one h.blk).or (Only.row h.tr.bC)
 have o:=h.only hk;have hk0:k<c.ts.length:=by rw[<-h.same.len];exact hk
 refine⟨h.fr.trans f ?_,fun q hq=>?_,?_,h.nx.jr f o (by decide),h.NU.jr f o (by decide),h.sz.jr f o (by decide),h.tabs.step (h.same.inj hinj) hk oR f (by decide) kin hT,?_,h.same.trans hs,?_,?_,?_⟩
 ·rintro i (rfl | rfl | hi)
  ·exact .inl (.inr (.inl ⟨k,hk0,(h.same.at_ k hk0).1⟩))
  ·exact .inl (.inl rfl)
  ·exact(h.own i hi).imp (fun x=>.inr (.inr x)) id
 ·rcases hown q hq with h1 | h1
  ·exact h.own q h1
  ·exact .inr (Nat.le_trans h.fr.size h1)
 ·rw[hs.len];exact hX
 ·rw[<-Eg];exact htr
 ·intro u hu;rcases List.mem_append.1 hu with hu | hu
  ·exact⟨((h.un u hu).1.jr f o (by decide) (.inl (h.un u hu).2)).same hs,(h.un u hu).2⟩
  ·rw[List.mem_singleton] at hu;subst hu;refine⟨Un.At.same (ts:=ts) ⟨hk,pU,hbS,?_⟩ hs,trivial⟩
   exact(h.tabs.at_ k hk).was.jr f o (by decide)
 ·intro u hu q hq;rcases List.mem_append.1 hu with hu | hu
  ·exact h.new u hu q hq
  ·rw[List.mem_singleton] at hu;subst hu;have:=h.fr.size
   rcases hq with rfl | rfl
   ·omega
   ·omega
 ·rw[IC _ _ (c.d,ts.map Tab.t) _ (TM ts k hk t' c.d T S)];exact h.back
structure FD (c:Dk) (B:Nat) (w w':World) (d':List Nat) (bv:Value) (ts:List Tab) (us:List Un):Prop where
 fr:Fr (Xg c.X c.ts c.l.bC) w w'
 own:∀k,bv.ownBlock=some k->c.l.bC.ownBlock=some k\/w.heap.size<=k
 blk:af w' c.X (ah c.az d' (.slice c.so ts.length c.aI) ⟨bv,c.l.starts,c.l.busy⟩) 66
 sz:Row w' c.az 3 (c.zs.map (Value.int .i64))
 tabs:jZ w' c.so c.aI ts
 tr:mP w' ⟨bv,c.l.starts,c.l.busy⟩ c.ss (ji c.ss c.xs us)
 same:gV c.ts ts
 un:∀u∈us,u.At w' c.X ts
 new:∀u∈us,∀k,u.boxes k->w.heap.size<=k
 back:us.foldr Un.uX (d',ts.map Tab.t)=(c.d,c.ts.map Tab.t)
 clo:Closure c.zs.length c.bs c.start d'
 dm:Dm d'
 rep:∀k,k<c.bs.length->qC (c.bs.getD k tb0) d' (ts.getD k aH).t
 cnt:us.length+bitsOf d'*13<=B+(if d'=c.d then 0 else 1)
theorem oP.replaced {c:Dk} {w wr w':World} {next n:List Nat} {m:List Bool} {ts:List Tab} {bv:Value} {us:List Un} (h:oP c w wr next m ts bv us) {B:Nat} (hd8:c.d.length=8) (hd6:∀x∈c.d,x<64)
  (ach:Closure c.zs.length c.bs c.start n) (hdm:Dm n) (hrep:∀k,k<c.bs.length->qC (c.bs.getD k tb0) n (ts.getD k aH).t) (hcnt:us.length+bitsOf n*13<=B)
  (f:Fr (fun k=>k=c.X\/bv.ownBlock=some k) wr w') {tv:Value} (sZ:tv= .slice c.so ts.length c.aI)
  (hp:(n=c.d/\af w' c.X (ah c.az c.d tv ⟨bv,c.l.starts,c.l.busy⟩) 66/\mP w' ⟨bv,c.l.starts,c.l.busy⟩ c.ss (ji c.ss c.xs us))\/(n≠c.d/\∃bv' D,af w' c.X (ah c.az n tv ⟨bv',c.l.starts,c.l.busy⟩) 66/\mP w' ⟨bv',c.l.starts,c.l.busy⟩ c.ss (Lh c.ss (ji c.ss c.xs us) (NT wr.heap.size D)) /\
    af w' wr.heap.size #[.pointer (some ⟨c.X,0,none⟩)] 35/\af w' D (ay c.d) 60/\wr.heap.size<=D/\(∀k,bv'.ownBlock=some k->bv.ownBlock=some k\/wr.heap.size<=k))):
  ∃bv us,FD c B w w' n bv ts us:=by
 subst sZ;have o:Only wr (fun q=>q=c.X\/bv.ownBlock=some q) [66,1]:=(Only.one h.blk).or (Only.row h.tr.bC)
 have hfr:=h.fr.trans f (fun i hi=>hi.elim (fun e=>.inl (.inl e)) (fun e=>(h.own i e).imp (fun x=>.inr (.inr x)) id))
 have hun:∀u∈us,u.At w' c.X ts:=fun u hu=>(h.un u hu).1.jr f o (by decide) (.inl (h.un u hu).2)
 rcases hp with ⟨rfl,hX,htr⟩ | ⟨hne,bv',D,hX,htr,hbP,hbD,hDl,hown⟩
 ·exact⟨bv,us,hfr,h.own,hX,h.sz.jr f o (by decide),h.tabs.jr f o (by decide),htr,h.same,hun,h.new,h.back,ach,hdm,hrep,by rw[if_pos rfl];exact hcnt⟩
 ·refine⟨bv',us++[Un.r wr.heap.size D c.d],hfr,fun q hq=>?_,hX,h.sz.jr f o (by decide),h.tabs.jr f o (by decide),?_,h.same,fun u hu=>?_,fun u hu q hq=>?_,?_,ach,hdm,hrep,?_⟩
  ·rcases hown q hq with h1 | h1
   ·exact h.own q h1
   ·exact .inr (Nat.le_trans h.fr.size h1)
  ·rw[<-Eg];exact htr
  ·rcases List.mem_append.1 hu with hu | hu
   ·exact hun u hu
   ·rw[List.mem_singleton] at hu;subst hu;exact⟨hbP,hbD,hd8,hd6⟩
  ·rcases List.mem_append.1 hu with hu | hu
   ·exact h.new u hu q hq
   ·rw[List.mem_singleton] at hu;subst hu;have:=h.fr.size
    rcases hq with rfl | rfl
    ·omega
    ·omega
  ·rw[IC _ _ (c.d,ts.map Tab.t) _ rfl];exact h.back
  ·rw[if_neg hne,List.length_append];simp only[List.length_singleton];omega
theorem Dm.mem {d:List Nat} (h:Dm d):∀x∈d,x<64:=by
 intro x hx;obtain⟨i,hi,e⟩:=List.getElem_of_mem hx;have:=h.lt i
 simpa[List.getD,hi,e] using this
theorem Bv:Dm aQ:=⟨rfl,fun q=>by rw[gG];decide⟩
theorem yH (d:List Nat):dN aQ d:=fun q v h=>by rw[gG] at h;simp at h
theorem LD:bitsOf aQ=0:=by decide
set_option maxRecDepth 1000000 in
theorem Bz (c:Dk) (next:List Nat) (m:List Bool) (w:World)
  (hX:af w c.X (ah c.az c.d (.slice c.so c.ts.length c.aI) c.l) 66) (hsz:Row w c.az 3 (c.zs.map (Value.int .i64))) (hz0:0<c.zs.length) (hzl:c.zs.length<=8) (hd8:c.d.length=8) (hd6:∀x∈c.d,x<64)
  (ht:jZ w c.so c.aI c.ts) (hinj:Inj c.ts) (h12:c.ts.length<=12) (hm:m.length=12) (hmo:∀k,c.ts.length<=k->m.getD k false=false)
  (htr:mP w c.l c.ss c.xs) (hxs:c.xs.length+(bitsOf next*13+marksOf m)<=900000) (hS:yz c.bs c.ts m c.start next) (hb:NQ c.zs.length c.bs) (hf:Fits c.bs c.ts):
  Calls Tryz.prog 27 #[.pointer (some ⟨c.X,0,none⟩),.agg (ay next),.agg (jq m)] w fun e w'=>e= .returned (.tuple #[])/\∃d' bv ts us,FD c (bitsOf next*13+marksOf m) w w' d' bv ts us:=by
 obtain⟨B,hB⟩:∃B,bitsOf next*13+marksOf m=B:=⟨_,rfl⟩
 rw[hB] at hxs ⊢;obtain⟨W,hW⟩:∃W,W=(w.alloc (.cells (ay next) 60)).alloc (.cells (jq m) 71):=⟨_,rfl⟩
 have dM:Nw w W:=by rw[hW];exact((Fr.refl _ w).alloc _).alloc _
 have hbN:af W w.heap.size (ay next) 60:=by rw[hW];exact(af.new _ _ _).alloc _
 have Dl:af W (w.heap.size+1) (jq m) 71:=by
  rw[hW];have:=af.new (w.alloc (.cells (ay next) 60)) (jq m) 71
  simpa using this
 have hM0:oP c w W next m c.ts c.l.bC []:=⟨dM.mono (fun i h=>h.elim),fun k hk=>.inl hk,hX.nw dM,hbN,Dl,hsz.nw dM,ht.nw dM,by rw[Lu];exact htr.nw dM,gV.refl _,fun u hu=>(by cases hu),fun u hu=>(by cases hu),rfl⟩
 have hXlt:=hX.lt;have HW:=hd hW;have H0:Hid (∃next m ts bv us,Hid (oP c w W next m ts bv us)/\Hid (yz c.bs ts m c.start next)/\Hid (us.length+(bitsOf next*13+marksOf m)<=B)/\Hid (m.length=12)/\Hid (∀k,c.ts.length<=k->m.getD k false=false)):=
  ⟨next,m,c.ts,c.l.bC,[],hM0,hS,by show 0+_<=B;omega,hm,hmo⟩
 have hsm:=Iu (w.heap.size+1);have Hb:=hd hb;have Hf:=hd hf;have aci:=hd hinj;have Hd6:=hd hd6;clear hX hsz ht htr hbN Dl hW hM0 dM hS hm hmo hB hb hf hinj hd6;go_enter Tryz.func27,Tryz.ntmps27
 go_wp2_with fail
 rw[<-HW.out];go_loopw [] (fun wr=>∃next m ts bv us,Hid (oP c w wr next m ts bv us)/\Hid (yz c.bs ts m c.start next)/\Hid (us.length+(bitsOf next*13+marksOf m)<=B)/\Hid (m.length=12)/\Hid (∀k,c.ts.length<=k->m.getD k false=false)) (fun wr=>ZP wr w.heap.size)
 case atStart=>exact H0
 case round=>
  obtain⟨next,m,ts,bv,us,HM,HS,HC,Wn,Hmo⟩:=hrel
  clear H0 HW;have h8:next.length=8:=HS.out.dm.len
  obtain⟨v0,v1,v2,v3,v4,v5,v6,v7,hdv⟩:=iV h8;obtain⟨⟨x0,rfl⟩,⟨x1,rfl⟩,⟨x2,rfl⟩,⟨x3,rfl⟩,⟨x4,rfl⟩,⟨x5,rfl⟩,⟨x6,rfl⟩,⟨x7,rfl⟩⟩:=iO next hdv
  obtain⟨c0,c1,c2,c3,c4,c5,c6,c7⟩:=cZ (hdv▸HM.out.nx);have Hdv:=hd hdv;have hxl:(ji c.ss c.xs us).length<=1000000:=by
   have h1:=LC c.ss c.xs us;have h2:=HC.out;omega
  clear hdv;go_wp2_with fail
  rw[<-Hdv.out];refine(GK c.X c.az c.d _ _ c.zs next _ HM.out.blk HM.out.sz hzl h8).mono ?_
  have hef:=Ls (n:=c.zs.length) h8 hzl;cases hE:Aj c.zs.length next with
  | true=>
   have Hnf:Hid (¬Full c.zs.length next):=fun h=>by rw[hef.2 h] at hE;cases hE
   clear hef hE;rintro e w1 ⟨rfl,hf1⟩
   have uA:=hd (HM.out.nw hf1);clear hf1 c0 c1 c2 c3 c4 c5 c6 c7;go_wp2_with (go_at_call 45;refine(wS c.X c.az c.d _ ⟨bv,c.l.starts,c.l.busy⟩ c.ss (ji c.ss c.xs us) aQ _ uA.out.blk hd8 uA.out.tr hxl rfl Hd6.out Bv.mem).mono ?_;rintro e w2 ⟨rfl,hf2,hp2⟩)
   go_end0
   obtain⟨bv',us',hset⟩:=uA.out.replaced (B:=B) hd8 Hd6.out (HS.out.dead hz0 Hnf.out) Bv (fun k hk=>(HS.out.rep k hk).mono (yH _)) (by rw[LD];have:=HC.out;omega) hf2 rfl hp2
   exact⟨rfl,aQ,bv',ts,us',hset⟩
  | false=>
   have wV:Hid (Full c.zs.length next):=hef.1 hE
   clear hef hE;rintro e w1 ⟨rfl,hf1⟩
   have uA:=hd (HM.out.nw hf1);clear hf1 c0 c1 c2 c3 c4 c5 c6 c7;rcases wU m 0 with ⟨hfi,hq⟩ | ⟨k,hk12,hfi,hkm⟩
   ·obtain⟨c0,c1,c2,c3,c4,c5,c6,c7⟩:=cZ (Hdv.out▸uA.out.nx);have Hfi:=hd hfi;have Hq:=hd hq;clear hfi hq;go_wp2_with (first
     | (go_at_call 44;refine(Ef (w.heap.size+1) m _ Wn.out uA.out.NU).mono ?_;rw[Hfi.out];rintro e w2 ⟨rfl,rfl⟩)
     | (go_at_call 45;rw[<-Hdv.out];refine(wS c.X c.az c.d _ ⟨bv,c.l.starts,c.l.busy⟩ c.ss (ji c.ss c.xs us) next _ uA.out.blk hd8 uA.out.tr hxl h8 Hd6.out HS.out.dm.mem).mono ?_;rintro e w3 ⟨rfl,hf3,hp3⟩))
    obtain⟨bv',us',hset⟩:=uA.out.replaced (B:=B) hd8 Hd6.out (HS.out.done wV.out (fun k _=>Hq.out k)) HS.out.dm HS.out.rep (by have:=HC.out;omega) hf3 rfl hp3
    exact bodyPost_ret (v:=.tuple #[]) (results_none rfl _ _ _) rfl ⟨rfl,next,bv',ts,us',hset⟩
   ·have hkt:k<ts.length:=by
     refine Classical.byContradiction fun hc=>?_
     have h1:=Hmo.out k (by rw[<-HM.out.same.len];omega)
     rw[h1] at hkm;cases hkm
    have acj:firstAt true m 0=(k:Int):=by rw[hfi,Nat.zero_add]
    have Hfi:=hd acj;have Hkm:=hd hkm;clear hfi acj hkm;go_wp2_with (go_at_call 44;refine(Ef (w.heap.size+1) m _ Wn.out uA.out.NU).mono ?_;rw[Hfi.out];rintro e w2 ⟨rfl,rfl⟩)
    have hro:=uA.out.tabs.row;obtain⟨tb,tc,hso,_,hck,_⟩:=hro.cell k (by simpa using hkt)
    have zQ:c.so=some ⟨tb,0,none⟩:=by simp at hso;exact hso.1
    obtain⟨x,hx⟩:∃x,ts.getD k aH=x:=⟨_,rfl⟩;have hxk:ts[k]=x:=by rw[<-hx];simp[List.getD,hkt]
    have hcI:w2.cell? ⟨tb,k,none⟩=some (.iface x.t.ty (.pointer (some ⟨x.G,0,none⟩))):=by
     rw[hck];simp only[List.getElem_map,hxk];rfl
    have zU:w2.cell? ⟨c.X,9,none⟩=some (.slice (some ⟨tb,0,none⟩) ts.length c.aI):=(uA.out.blk.cell 9).trans ((dV _ _ _ _ hd8).trans (by rw[zQ]))
    have agT:tb<w2.heap.size:=by
     have:=hro.lt (k:=tb) (by rw[zQ];rfl)
     exact this
    have agU:=uA.out.blk.lt;have agV:=uA.out.nx.lt;have agW:=uA.out.NU.lt;obtain⟨ty,hty⟩:∃ty,x.t.ty=ty:=⟨_,rfl⟩;rw[hty] at hcI;obtain⟨nd,hnd⟩:∃nd,rQ x.vars next x.t=nd:=⟨_,rfl⟩
    have hn8:nd.length=8:=by rw[<-hnd];exact Ee _ _ h8 _
    obtain⟨n0,n1,n2,n3,n4,n5,n6,n7,CU⟩:=iV hn8;obtain⟨⟨y0,rfl⟩,⟨y1,rfl⟩,⟨y2,rfl⟩,⟨y3,rfl⟩,⟨y4,rfl⟩,⟨y5,rfl⟩,⟨y6,rfl⟩,⟨y7,rfl⟩⟩:=iO nd CU;have hat:=uA.out.tabs.at_ k hkt;have h4:=uA.out.tabs.four k hkt;have hok:=uA.out.tabs.ok k hkt;rw[hx] at hat h4 hok;have hk31:(k:Int)<ts.length:=by omega
    have agu:ts.length<=12:=by rw[uA.out.same.len];exact h12
    have Hat:=hd hat;have qU:=hd hok;have Hnd:=hd hnd;have xU:=hd CU;have ZQ:=hd hty;have Hx:=hd hx;clear hro hso hck hxk hat hok hnd CU hty hx;go_cut [7] (fun p wx=>∃N,p= .pointer (some ⟨N,0,none⟩)/\Hid (af wx N (ay nd) 60)/\∃t' bv' T S,Hid (TS.Next x.vars next x.t t')/\Hid (oP c w wx next m (ts.set k {x with t:=t'}) bv' (us++[Un.n T S k x.t]))/\w.heap.size+2<=N)
    case first=>
     have hKx:∀(wa:World) (ts':List Tab) (bv':Value) (us':List Un),oP c w wa next m ts' bv' us'->ts'.length=ts.length->(ts'.getD k aH).val= .iface ty (.pointer (some ⟨x.G,0,none⟩))->wa.cell? ⟨c.X,9,none⟩=some (.slice (some ⟨tb,0,none⟩) ts.length c.aI)/\wa.cell? ⟨tb,k,none⟩=some (.iface ty (.pointer (some ⟨x.G,0,none⟩)))/\af wa w.heap.size (ay next) 60:=by
      intro wa ts' bv' us' hm hl hv;have h:=hm.reads hd8 (k:=k) (by omega) zQ
      rw[hl,hv] at h;exact h
     have hval:(ts.getD k aH).val= .iface ty (.pointer (some ⟨x.G,0,none⟩)):=by rw[Hx.out,<-ZQ.out];rfl
     have hval':∀t',TS.Bq x.t t'->((ts.set k {x with t:=t'}).getD k aH).val= .iface ty (.pointer (some ⟨x.G,0,none⟩)):=by
      intro t' ht';rw[sW _ _ _ _ hkt,if_pos rfl,<-ZQ.out];show Value.iface t'.ty _=_
      rw[ht'.ty]
     have zq:Hid (oP c w w2.drew next m ts bv us):=uA.out.nw ((Fr.refl _ w2).drew)
     have hK0:=hKx _ _ _ _ zq.out rfl hval;refine wp_region_held (S:=fun w'=>w'.cell? ⟨c.X,9,none⟩=some (.slice (some ⟨tb,0,none⟩) ts.length c.aI)/\w'.cell? ⟨tb,k,none⟩=some (.iface ty (.pointer (some ⟨x.G,0,none⟩)))/\af w' w.heap.size (ay next) 60) (by kernel_rfl) ?_
     refine wpAnyH_take (i:=0) (v:=.pointer (some ⟨c.X,0,none⟩)) rfl (by kernel_rfl) (by kernel_rfl) (by kernel_rfl) (fun _ _ _ h=>h) (.inl ⟨by kernel_rfl,fun w' _=>rfl⟩) hK0 ?_
     refine wpAnyH_take (i:=1) (v:=.pointer (some ⟨c.X,0,none⟩)) rfl (by kernel_rfl) (by kernel_rfl) (by kernel_rfl) (fun _ _ _ h=>h) (.inl ⟨by kernel_rfl,fun w' _=>rfl⟩) hK0 ?_
     refine wpAnyH_take (i:=2) (v:=.pointer (some ⟨c.X,0,none⟩)) rfl (by kernel_rfl) (by kernel_rfl) (by kernel_rfl) (fun _ _ _ h=>h) (.inl ⟨by kernel_rfl,fun w' hS=>by kernel_rfl⟩) hK0 ?_
     refine wpAnyH_take (i:=3) (v:=.pointer (some ⟨c.X,9,none⟩)) rfl (by kernel_rfl) (by kernel_rfl) (by kernel_rfl) (fun _ _ _ h=>h) (.inl ⟨by kernel_rfl,fun w' hS=>by kernel_rfl⟩) hK0 ?_
     refine wpAnyH_take (i:=4) (v:=.slice (some ⟨tb,0,none⟩) ts.length c.aI) rfl (by kernel_rfl) (by kernel_rfl) (by kernel_rfl) (fun _ _ _ h=>h) (.inl ⟨by kernel_rfl,fun w' hS=>?_⟩) hK0 ?_
     ·have hc:=hS.1;clear hS hK0 hKx hval hval' zU hcI zQ;go_simp
     refine wpAnyH_take (i:=5) (v:=.int .i64 (k:Int)) rfl (by kernel_rfl) (by kernel_rfl) (by kernel_rfl) (fun _ _ _ h=>h) (.inl ⟨by kernel_rfl,fun w' hS=>rfl⟩) hK0 ?_
     refine wpAnyH_take (i:=6) (v:=.pointer (some ⟨tb,k,none⟩)) rfl (by kernel_rfl) (by kernel_rfl) (by kernel_rfl) (fun _ _ _ h=>h) (.inl ⟨by kernel_rfl,fun w' hS=>?_⟩) hK0 ?_
     ·clear hS hK0 hKx hval hval' zU hcI zQ;simp only[Act.put,bQ,bW,bU,eH,eY,fC];go_simp
     refine wpAnyH_take (i:=7) (v:=.iface ty (.pointer (some ⟨x.G,0,none⟩))) rfl (by kernel_rfl) (by kernel_rfl) (by kernel_rfl) (fun _ _ _ h=>h) (.inl ⟨by kernel_rfl,fun w' hS=>?_⟩) hK0 ?_
     ·have hc:=hS.2.1;clear hS hK0 hKx hval hval' zU hcI zQ;go_simp
     refine wpAnyH_take (i:=8) (v:=.agg (ay next)) rfl (by kernel_rfl) (by kernel_rfl) (by kernel_rfl) (fun _ _ _ h=>h) (.inl ⟨by kernel_rfl,fun w' hS=>?_⟩) hK0 ?_
     ·obtain⟨k0,k1,k2,k3,k4,k5,k6,k7⟩:=cZ (Hdv.out▸hS.2.2);clear hS hK0 hKx hval hval' zU hcI zQ;rw[Hdv.out];go_simp
     refine wpAnyH_all (rs:=[9,10]) (by kernel_rfl) (by simp) (fun i hi=>?_)
     rcases List.mem_cons.1 hi with rfl | hi
     ·refine dF (f:=46) (args:=#[.pointer (some ⟨c.X,0,none⟩),.iface ty (.pointer (some ⟨x.G,0,none⟩)),.agg (ay next)]) (w':=w2.drew) rfl (by kernel_rfl) (by kernel_rfl) ?_
      have hnar:=zk c.X x.G x.g x.cap c.az c.d _ _ c.ss _ x.vars x.t next _ zq.out.blk hd8 zq.out.tr hxl (Hat.out.nw ((Fr.refl _ w2).drew)) h8 h4 qU.out HS.out.dm.lt
      rw[ZQ.out,Hnd.out] at hnar;refine hnar.mono ?_
      clear hnar;rintro e w3 ⟨rfl,hf3,bv',t',S,hnx,NS,rO,TP,TQ,TR,hSl,_,hown⟩
      have Dn:=zq.out.narrowed aci.out hkt (t':=t') (T:=w2.drew.heap.size) (S:=S) (by rw[Hx.out];exact hnx.kin) (by rw[Hx.out];exact hf3) (by rw[Hx.out];exact NS) rO TP (by rw[hval];exact TQ) (by rw[Hx.out];exact TR) hown (Nat.le_refl _) hSl
      rw[Hx.out] at Dn;have hs3:w2.heap.size<=w3.heap.size:=hf3.size;have hK1:=hKx _ _ _ _ Dn (by simp) (hval' t' hnx.kin)
      refine⟨_,rfl,hK1,?_⟩
      refine wpAnyH_all (rs:=[10]) (by kernel_rfl) (by simp) (fun i hi=>?_)
      rcases List.mem_cons.1 hi with rfl | hi
      ·obtain⟨Y,hY⟩:∃Y,Y=w3.alloc (.cells (ay aQ) 60):=⟨_,rfl⟩;have rG:Nw w3 Y:=by rw[hY];exact(Fr.refl _ w3).alloc _
       have hZ:af Y w3.heap.size (ay aQ) 60:=by rw[hY];exact af.new _ _ _
       have Rn:=Dn.nw rG;have hKY:=hKx _ _ _ _ Rn (by simp) (hval' t' hnx.kin)
       refine aA (v:=.pointer (some ⟨w3.heap.size,0,none⟩)) (w':=Y) rfl (by kernel_rfl) ?_ ⟨hKY,?_⟩
       ·rw[hY];kernel_rfl
       ·refine wpAnyH_all (rs:=[11]) (by kernel_rfl) (by simp) (fun i hi=>?_)
        rcases List.mem_cons.1 hi with rfl | hi
        ·have tV:=(Fr.refl (fun k=>k=w3.heap.size) Y).mJ w3.heap.size 0 1 2 3 4 5 6 7 (.int .u8 y0) (.int .u8 y1) (.int .u8 y2) (.int .u8 y3) (.int .u8 y4) (.int .u8 y5) (.int .u8 y6) (.int .u8 y7) (.inl rfl)
         have PY:=hZ.abY xU.out;obtain⟨q0,q1,q2,q3,q4,q5,q6,q7⟩:=cZ hZ;have hfz:=hZ.free;have ZR:=Rn.wr tV ((Only.one hZ).mono (fun _ x=>x) (by decide)) (fun k hk=>by omega) (Rn.nx.fr tV (by omega)) (Rn.NU.fr tV (by omega))
         have hK8:=hKx _ _ _ _ ZR (by simp) (hval' t' hnx.kin)
         clear hY;refine dw (w':=_) rfl (by kernel_rfl) ?_ ⟨hK8,wpAnyH_done (by kernel_rfl) ?_ _⟩
         ·clear hK1 hK0 hKY hf3 tV PY ZR hK8 Rn Dn rO NS TQ TR TP hval hval' hKx zU hcI zQ hnx hown;rw[xU.out];go_simp
         ·simp only[Act.put,bQ,bW,bU,eH,eY,fC];go_wp2_with fail
          go_meet
          case rel=>exact⟨w3.heap.size,rfl,PY,t',bv',_,S,hnx,ZR,by omega⟩
        ·simp at hi
      ·simp at hi
     ·rcases List.mem_cons.1 hi with rfl | hi
      ·obtain⟨Y,hY⟩:∃Y,Y=w2.drew.alloc (.cells (ay aQ) 60):=⟨_,rfl⟩;have rG:Nw w2 Y:=by rw[hY];exact((Fr.refl _ w2).drew).alloc _
       have hZ:af Y w2.heap.size (ay aQ) 60:=by rw[hY];exact af.new _ _ _
       have Rn:=uA.out.nw rG;have hKY:=hKx _ _ _ _ Rn rfl hval;refine aA (v:=.pointer (some ⟨w2.heap.size,0,none⟩)) (w':=Y) rfl (by kernel_rfl) ?_ ⟨hKY,?_⟩
       ·rw[hY];kernel_rfl
       ·refine wpAnyH_all (rs:=[9]) (by kernel_rfl) (by simp) (fun i hi=>?_)
        rcases List.mem_cons.1 hi with rfl | hi
        ·refine dF (f:=46) (args:=#[.pointer (some ⟨c.X,0,none⟩),.iface ty (.pointer (some ⟨x.G,0,none⟩)),.agg (ay next)]) (w':=Y) rfl (by kernel_rfl) (by kernel_rfl) ?_
         have hnar:=zk c.X x.G x.g x.cap c.az c.d _ _ c.ss _ x.vars x.t next _ Rn.blk hd8 Rn.tr hxl (Hat.out.nw rG) h8 h4 qU.out HS.out.dm.lt
         rw[ZQ.out,Hnd.out] at hnar;refine hnar.mono ?_
         clear hnar;rintro e w3 ⟨rfl,hf3,bv',t',S,hnx,NS,rO,TP,TQ,TR,hSl,_,hown⟩
         have Dn:=Rn.narrowed aci.out hkt (t':=t') (T:=Y.heap.size) (S:=S) (by rw[Hx.out];exact hnx.kin) (by rw[Hx.out];exact hf3) (by rw[Hx.out];exact NS) rO TP (by rw[hval];exact TQ) (by rw[Hx.out];exact TR) hown (Nat.le_refl _) hSl
         rw[Hx.out] at Dn;have hs3:=hf3.size;have hK1:=hKx _ _ _ _ Dn (by simp) (hval' t' hnx.kin)
         refine⟨_,rfl,hK1,?_⟩
         refine wpAnyH_all (rs:=[11]) (by kernel_rfl) (by simp) (fun i hi=>?_)
         rcases List.mem_cons.1 hi with rfl | hi
         ·have hZ3:=hZ.jr hf3 (Hx.out▸Rn.only hkt) (by decide)
          have tV:=(Fr.refl (fun k=>k=w2.heap.size) w3).mJ w2.heap.size 0 1 2 3 4 5 6 7 (.int .u8 y0) (.int .u8 y1) (.int .u8 y2) (.int .u8 y3) (.int .u8 y4) (.int .u8 y5) (.int .u8 y6) (.int .u8 y7) (.inl rfl)
          have PY:=hZ3.abY xU.out;obtain⟨q0,q1,q2,q3,q4,q5,q6,q7⟩:=cZ hZ3;have hfz:=hZ3.free;have ZR:=Dn.wr tV ((Only.one hZ3).mono (fun _ x=>x) (by decide)) (fun k hk=>by omega) (Dn.nx.fr tV (by omega)) (Dn.NU.fr tV (by omega))
          have hK8:=hKx _ _ _ _ ZR (by simp) (hval' t' hnx.kin)
          clear hY;refine dw (w':=_) rfl (by kernel_rfl) ?_ ⟨hK8,wpAnyH_done (by kernel_rfl) ?_ _⟩
          ·clear hK1 hK0 hKY hf3 tV PY ZR hK8 Rn Dn rO NS TQ TR TP hval hval' hKx zU hcI zQ hnx hown hZ hZ3;rw[xU.out];go_simp
          ·simp only[Act.put,bQ,bW,bU,eH,eY,fC];go_wp2_with fail
           go_meet
           case rel=>exact⟨w2.heap.size,rfl,PY,t',bv',_,S,hnx,ZR,by omega⟩
         ·simp at hi
        ·simp at hi
      ·simp at hi
    case rest=>
     obtain⟨N,rfl,hN,t',bv',T,S,HNx,HM3,hNl⟩:=hcut;clear zU hcI;have hlen:(ts.set k {x with t:=t'}).length=ts.length:=by simp
     obtain⟨ts',TT⟩:∃ts',ts.set k {x with t:=t'}=ts':=⟨_,rfl⟩
     obtain⟨us',ZT⟩:∃us',us++[Un.n T S k x.t]=us':=⟨_,rfl⟩;have Dn:=HM3.out;rw[TT,ZT] at Dn;rw[TT] at hlen;obtain⟨c0,c1,c2,c3,c4,c5,c6,c7⟩:=cZ (Hdv.out▸Dn.nx);obtain⟨k0,k1,k2,k3,k4,k5,k6,k7⟩:=cZ (xU.out▸hN.out);have hwk:∀j,dL ts' next nd m j=dL ts next nd m j:=by
      intro j;induction j with
      | zero=>rfl
      | succ j ih=>
       have e:(ts'.getD j aH).vars=(ts.getD j aH).vars:=by
        rw[<-TT,sW _ _ _ _ hkt];by_cases e:k=j
        ·subst e;rw[if_pos rfl,Hx.out]
        ·rw[if_neg e]
       simp only[dL,ih,e]
     have Hwk:=hd hwk;have ae1:=hd TT;have ae2:=hd ZT;have PZ:=hd Dn;have hst:∀o,c.so=some o->o.block≠w.heap.size+1:=fun o ho e=>by
      have h1:=Dn.tabs.row;refine h1.ne Dn.NU (by decide) ?_
      rw[zQ] at ho ⊢;cases ho;exact congrArg some e
     have hnM:∀i,i<ts'.length->(ts'.getD i aH).G≠w.heap.size+1/\(ts'.getD i aH).g≠w.heap.size+1:=fun i hi=>by
      have h1:=Dn.tabs.at_ i hi;refine⟨fun e=>?_,fun e=>?_⟩
      ·obtain⟨cu,e',hb',hc'⟩:=h1.uV (.inl rfl);rw[e] at hb';have:=(hb'.inj Dn.NU).2
       subst this;revert hc'
       decide
      ·obtain⟨cu,e',hb',hc'⟩:=h1.uV (.inr (.inl rfl));rw[e] at hb';have:=(hb'.inj Dn.NU).2
       subst this;revert hc'
       decide
     have yV:=hd hst;have HnM:=hd hnM;clear HM3 TT ZT Dn hwk hst hnM;go_wp2_with fail
     rw[<-Hdv.out,<-xU.out];refine(Ic c.X (w.heap.size+1) c.so c.aI c.az c.d _ ts' next nd m _ PZ.out.blk hd8 PZ.out.tabs (by omega) Wn.out HnM.out yV.out h8 hn8 PZ.out.NU).mono ?_
     rw[Hwk.out,hlen];rintro e w4 ⟨rfl,hf4,hM4⟩
     have hN4:=hN.out.fr hf4 (by omega)
     have hS4:=PZ.out.wr hf4 ((Only.one PZ.out.NU).mono (fun _ x=>x) (by decide)) (fun k hk=>by omega) (PZ.out.nx.fr hf4 (by omega)) hM4
     have hwl:(dL ts next nd m ts.length).length=12:=by rw[iG];exact Wn.out
     obtain⟨bm,hbm⟩:∃b,w4.cell? ⟨w.heap.size+1,k,none⟩=some b:=⟨_,(hM4.cell k).trans (Bl _ _ (by omega))⟩
     have hfm:=hM4.free k;have agv:k<12:=by omega
     have HS4:=hd hS4;have TU:=hd hN4;have HM4:=hd hM4;have Hwl:=hd hwl;clear hf4 hS4 hN4 hM4 hwl c0 c1 c2 c3 c4 c5 c6 c7 k0 k1 k2 k3 k4 k5 k6 k7;go_upto_region 8 with fail
     obtain⟨U,hU⟩:∃U,U=w4.setCell ⟨w.heap.size+1,k,none⟩ (.bool false):=⟨_,rfl⟩;have iR:Fr (fun k=>k=w.heap.size+1) w4 U:=by rw[hU];exact(Fr.refl _ w4).setCell _ _ (.inl rfl)
     have Xh:af U (w.heap.size+1) (jq ((dL ts next nd m ts.length).set k false)) 71:=by
      have h5:=HM4.out.set k (.bool false);have e6:jq ((dL ts next nd m ts.length).set k false)=(jq (dL ts next nd m ts.length)).setIfInBounds k (.bool false):=by simp[jq,List.map_set]
      rw[hU,e6];exact h5
     rw[<-hU];have ZK:=HS4.out.wr iR ((Only.one HM4.out).mono (fun _ x=>x) (by decide)) (fun k hk=>by omega) (HS4.out.nx.fr iR (by omega)) Xh
     have hNU:=TU.out.fr iR (by omega)
     obtain⟨c0,c1,c2,c3,c4,c5,c6,c7⟩:=cZ (Hdv.out▸ZK.nx);obtain⟨k0,k1,k2,k3,k4,k5,k6,k7⟩:=cZ (xU.out▸hNU);have hfz:=ZK.nx.free;have PY:=af.mJ (cur:=#[Value.int .u8 x0,Value.int .u8 x1,Value.int .u8 x2,Value.int .u8 x3,Value.int .u8 x4,Value.int .u8 x5,Value.int .u8 x6,Value.int .u8 x7]) (Hdv.out▸ZK.nx) 0 1 2 3 4 5 6 7 (.int .u8 y0) (.int .u8 y1) (.int .u8 y2) (.int .u8 y3) (.int .u8 y4) (.int .u8 y5) (.int .u8 y6) (.int .u8 y7);rw[J6,<-xU.out] at PY;have tV:=(Fr.refl (fun k=>k=w.heap.size) U).mJ w.heap.size 0 1 2 3 4 5 6 7 (.int .u8 y0) (.int .u8 y1) (.int .u8 y2) (.int .u8 y3) (.int .u8 y4) (.int .u8 y5) (.int .u8 y6) (.int .u8 y7) (.inl rfl)
     have hSV:=ZK.wr tV ((Only.one ZK.nx).mono (fun _ x=>x) (by decide)) (fun k hk=>by omega) PY (Xh.fr tV (by omega))
     have HSV:=hd hSV;have HB8:=hd PY;have HMV:=hd (Xh.fr tV (by omega))
     clear hU Xh ZK hNU PY tV iR hbm hfm hSV;go_wp2_with fail
     have hfits:=HM.out.same.fits Hf.out;have hkb:k<c.bs.length:=by rw[<-hfits.1];exact hkt
     have ack:c.bs.length<=m.length:=by rw[<-hfits.1,HM.out.same.len,Wn.out];exact h12
     have hstep:=HS.out.step Hb.out hfits ack wV.out hkb (t':=t') (by rw[Hx.out];exact HNx.out)
     rw[Hx.out,Hnd.out,ae1.out] at hstep;have hsub:dN nd next:=by
      have hv:=hfits.2 k hkb;have hr:=HS.out.rep k hkb;rw[Hx.out] at hv hr;rw[<-Hnd.out,hv];exact Ba (Hb.out k hkb).1 HS.out.dm hr (Ie wV.out (Hb.out k hkb).2)
     have hless:=Lc (ts:=ts) Wn.out HS.out.dm hstep.dm hsub Hkm.out;refine⟨⟨nd,(dL ts next nd m ts.length).set k false,ts',bv',us',HSV.out,hstep,?_,?_,?_⟩,?_⟩
     ·show us'.length+_<=B
      have h1:=HC.out;rw[<-ae2.out,List.length_append];simp only[List.length_singleton];omega
     ·show List.length _=12
      rw[List.length_set];exact Hwl.out
     ·show ∀j,c.ts.length<=j->_
      intro j hj;rw[pK];split
      ·rfl
      ·have hw:=nN ts next nd m (by rw[HM.out.same.len,Wn.out];exact h12) j ts.length (Nat.le_refl _)
       cases hx:(dL ts next nd m ts.length).getD j false with
       | false=>rfl
       | true=>
        rcases hw.1 hx with h1 | ⟨h1,_⟩
        ·rw[Hmo.out j hj] at h1;cases h1
        ·rw[HM.out.same.len] at h1;omega
     ·rw[YG HSV.out.nx HSV.out.NU,YG HM.out.nx HM.out.NU];exact hless
def ZU:TS:=.rs false [] 0
structure WS where
 az:Value
 d:List Nat
 so:Option Addr
 aI:Nat
 l:Rest
 ts:List Tab
 bs:List Tb
 us:List Un
 sk:List (Nat×List Nat×List TS)
structure Good (zs:List Int) (bs:List Tb) (d:List Nat) (tss:List TS):Prop where
 dm:Dm d
 wW:dN d (fM zs zs.length)
 alive:d=aQ\/Full zs.length d
 clo:∀b∈bs,dP b d
 len:tss.length=bs.length
 rep:∀k,k<bs.length->qC (bs.getD k tb0) d (tss.getD k ZU)
def lI (zs:List Int) (bs:List Tb):List Un->List Nat×List TS->List (Nat×List Nat×List TS)->Prop
 | us,_,[]=>us=[]
 | us,cur,(n,s)::r=>n<=us.length/\(us.drop n).foldr Un.uX cur=s/\Good zs bs s.1 s.2/\n+900*bitsOf s.1<=57600/\lI zs bs (us.take n) s r
def bY (sk:List (Nat×List Nat×List TS)):List Value:=sk.reverse.map (fun p=>Value.int .i64 (p.1:Int))
structure jB (w:World) (X:Nat) (zs:List Int) (s:WS):Prop where
 blk:af w X (ah s.az s.d (.slice s.so s.ts.length s.aI) s.l) 66
 sz:Row w s.az 3 (zs.map (Value.int .i64))
 lJ:di zs=true
 tabs:jZ w s.so s.aI s.ts
 inj:Inj s.ts
 t12:s.ts.length<=12
 fits:Fits s.bs s.ts
 yI:NQ zs.length s.bs
 tr:mP w s.l (bY s.sk) (s.us.map Un.val)
 un:∀u∈s.us,u.At w X s.ts
 apart:∀k,s.l.starts.ownBlock=some k->s.az.ownBlock≠some k/\∀i,i<s.ts.length->(s.ts.getD i aH).g≠k
structure iM (w:World) (X:Nat) (zs:List Int) (s:WS):Prop where
 mem:jB w X zs s
 good:Good zs s.bs s.d (s.ts.map Tab.t)
 cnt:s.us.length+900*bitsOf s.d<=57600
 sk:lI zs s.bs s.us (s.d,s.ts.map Tab.t) s.sk
 uz:s.sk.length<=20
theorem aF {zs:List Int} (h:di zs=true):0<zs.length/\zs.length<=8:=by
 simp only[di,Bool.and_eq_true,decide_eq_true_eq] at h;omega
def WS.own (X:Nat) (s:WS) (k:Nat):Prop:=k=X\/s.az.ownBlock=some k\/(Value.slice s.so s.ts.length s.aI).ownBlock=some k\/(∃i,i<s.ts.length/\(k=(s.ts.getD i aH).G\/k=(s.ts.getD i aH).g))\/s.l.bC.ownBlock=some k\/s.l.starts.ownBlock=some k\/∃u∈s.us,u.boxes k
def yJ:List TypeId:=[66,3,73,131,125,1,137,35,60]
theorem oN.tyg {w:World} {G g cap:Nat} {vars:List Int} {t:TS} (h:oN w G g cap vars t):∃cur,af w g cur 3:=by
 cases t with
 | rs nt br live=>
  obtain⟨cur,hb,_⟩:=h.2.1.blk rfl;exact⟨cur,hb⟩
 | dg nv os root=>
  obtain⟨cur,hb,_⟩:=h.1.rv.blk rfl;exact⟨cur,hb⟩
theorem oN.tyn {w:World} {G g cap:Nat} {vars:List Int} {t:TS} (h:oN w G g cap vars t) {k:Nat} (hk:t.nodes k):∃cur,af w k cur 151:=by
 cases t with
 | rs nt br live=>exact hk.elim
 | dg nv os root=>exact ownsRow.blk h.1.row hk
theorem Un.At.box {w:World} {X:Nat} {ts:List Tab} {u:Un} (h:u.At w X ts) {k:Nat} (hk:u.boxes k):∃cur e,af w k cur e/\(e=73\/e=137\/e=35\/e=60):=by
 cases u with
 | n T S j t0=>
  rcases hk with rfl | rfl
  ·exact⟨_,_,h.2.1,.inl rfl⟩
  ·exact⟨_,_,h.2.2.1,.inr (.inl rfl)⟩
 | r T D d0=>
  rcases hk with rfl | rfl
  ·exact⟨_,_,h.1,.inr (.inr (.inl rfl))⟩
  ·exact⟨_,_,h.2.1,.inr (.inr (.inr rfl))⟩
theorem Un.At.fr {S:Nat->Prop} {w w':World} {X:Nat} {ts:List Tab} {u:Un} (h:u.At w X ts) (f:Fr S w w') (hn:∀k,u.boxes k->¬S k) {es:List TypeId} (o:Only w S es) (he:151∉es):u.At w' X ts:=by
 cases u with
 | n T S' j t0=>exact⟨h.1,h.2.1.fr f (hn _ (.inl rfl)),h.2.2.1.fr f (hn _ (.inr rfl)),h.2.2.2.jr f o he⟩
 | r T D d0=>exact⟨h.1.fr f (hn _ (.inl rfl)),h.2.1.fr f (hn _ (.inr rfl)),h.2.2⟩
theorem jB.ty {w:World} {X:Nat} {zs:List Int} {s:WS} (h:jB w X zs s) {k:Nat} (hk:s.own X k):∃cur e,af w k cur e/\e∈yJ:=by
 rcases hk with rfl | hk | hk | ⟨i,hi,rfl | rfl⟩ | hk | hk | ⟨u,hu,hk⟩
 ·exact⟨_,_,h.blk,by decide⟩
 ·obtain⟨cur,hb,_⟩:=h.sz.blk hk;exact⟨_,_,hb,by decide⟩
 ·obtain⟨cur,hb,_⟩:=h.tabs.row.blk hk;exact⟨_,_,hb,by decide⟩
 ·obtain⟨cur,e,hb,he⟩:=(h.tabs.at_ i hi).YF;refine⟨_,_,hb,?_⟩
  rcases he with rfl | rfl <;> decide
 ·obtain⟨cur,hb⟩:=(h.tabs.at_ i hi).tyg;exact⟨_,_,hb,by decide⟩
 ·obtain⟨cur,hb,_⟩:=h.tr.bC.blk hk;exact⟨_,_,hb,by decide⟩
 ·obtain⟨cur,hb,_⟩:=h.tr.starts.blk hk;exact⟨_,_,hb,by decide⟩
 ·obtain⟨cur,e,hb,he⟩:=(h.un u hu).box hk;refine⟨_,_,hb,?_⟩
  rcases he with rfl | rfl | rfl | rfl <;> decide
theorem jB.lt {w:World} {X:Nat} {zs:List Int} {s:WS} (h:jB w X zs s) {k:Nat} (hk:s.own X k):k<w.heap.size:=by
 obtain⟨_,_,hb,_⟩:=h.ty hk;exact hb.lt
theorem jB.only {w:World} {X:Nat} {zs:List Int} {s:WS} (h:jB w X zs s):Only w (s.own X) yJ:=fun k cur e hk hb=>by
 obtain⟨_,_,hb',he⟩:=h.ty hk;rw[(hb.inj hb').2];exact he
theorem jB.fr {S:Nat->Prop} {w w':World} {X:Nat} {zs:List Int} {s:WS} (h:jB w X zs s) (f:Fr S w w') (hn:∀k,s.own X k->¬S k) {es:List TypeId} (o:Only w S es) (he:151∉es):jB w' X zs s:=by
 refine⟨h.blk.fr f (hn _ (.inl rfl)),h.sz.fr f (fun k hk=>hn k (.inr (.inl hk))),h.lJ,⟨h.tabs.row.fr f (fun k hk=>hn k (.inr (.inr (.inl hk)))),fun i hi=>(h.tabs.at_ i hi).fr f ?_,h.tabs.four,h.tabs.ok⟩,h.inj,h.t12,h.fits,h.yI,h.tr.fr f (fun k hk=>hn k (.inr (.inr (.inr (.inr (.inr (.inl hk))))))) (fun k hk=>hn k (.inr (.inr (.inr (.inr (.inl hk)))))),fun u hu=>(h.un u hu).fr f (fun k hk=>hn k (.inr (.inr (.inr (.inr (.inr (.inr ⟨u,hu,hk⟩))))))) o he,h.apart⟩
 rintro k (hk | hk | hk)
 ·exact hn k (.inr (.inr (.inr (.inl ⟨i,hi,.inl hk⟩))))
 ·exact hn k (.inr (.inr (.inr (.inl ⟨i,hi,.inr hk⟩))))
 ·obtain⟨cur,hb⟩:=(h.tabs.at_ i hi).tyn hk;exact fun hs=>he (o k cur _ hs hb)
theorem iM.fr {S:Nat->Prop} {w w':World} {X:Nat} {zs:List Int} {s:WS} (h:iM w X zs s) (f:Fr S w w') (hn:∀k,s.own X k->¬S k) {es:List TypeId} (o:Only w S es) (he:151∉es):iM w' X zs s:=⟨h.mem.fr f hn o he,h.good,h.cnt,h.sk,h.uz⟩
theorem iM.nw {w w':World} {X:Nat} {zs:List Int} {s:WS} (h:iM w X zs s) (f:Nw w w'):iM w' X zs s:=h.fr f (fun _ _ x=>x) (Only.none w) (by decide)
theorem jB.nw {w w':World} {X:Nat} {zs:List Int} {s:WS} (h:jB w X zs s) (f:Nw w w'):jB w' X zs s:=h.fr f (fun _ _ x=>x) (Only.none w) (by decide)
structure gq (w w':World) (X:Nat) (s s':WS):Prop where
 fr:Fr (s.own X) w w'
 grow:∀k,s'.own X k->s.own X k\/w.heap.size<=k
theorem gq.nw {w w':World} (h:Nw w w') (X:Nat) (s:WS):gq w w' X s s:=⟨h.mono (fun _ x=>x.elim),fun _ h=>.inl h⟩
theorem gq.trans {a b c:World} {X:Nat} {s s' s'':WS} (h:gq a b X s s') (k:gq b c X s' s''):gq a c X s s'':=⟨h.fr.trans k.fr h.grow,fun i hi=>by
 rcases k.grow i hi with h1 | h1
 ·exact h.grow i h1
 ·exact .inr (Nat.le_trans h.fr.size h1)⟩
theorem P5 (b:Tb):dP b aQ:=fun i v _ h=>by rw[gG] at h;simp at h
theorem wX (d:List Nat):bitsOf d<=64:=by
 have key:∀(l:List Nat) (a:Nat),(l.map (fun q=>(vals (d.getD q 0)).length)).foldl (· + ·) a<=a+8*l.length:=by
  intro l;induction l with
  | nil=>intro a;simp
  | cons q l ih=>
   intro a;have h1:=ih (a+(vals (d.getD q 0)).length);have h2:(vals (d.getD q 0)).length<=8:=by
    have:=List.length_filter_le (fun v=>(d.getD q 0).testBit v) (List.range 8)
    simpa[vals] using this
   simp only[List.map_cons,List.foldl_cons,List.length_cons];omega
 have:=key (List.range 8) 0
 simpa[bitsOf] using this
theorem tq (ts:List Tab) (k:Nat):(ts.map Tab.t).getD k ZU=(ts.getD k aH).t:=by
 simp only[List.getD,List.getElem?_map]
 cases ts[k]? <;> rfl
def WS.ctx (X:Nat) (zs:List Int) (s:WS) (start:List Nat):Dk:=⟨X,s.az,zs,s.d,s.so,s.aI,s.l,bY s.sk,s.us.map Un.val,s.ts,s.bs,start⟩
def WS.set (s:WS) (d':List Nat) (bv:Value) (ts:List Tab) (us:List Un):WS:={s with d:=d',l:=⟨bv,s.l.starts,s.l.busy⟩,ts:=ts,us:=if s.sk.isEmpty then [] else s.us++us}
theorem jB.YH {w:World} {X:Nat} {zs:List Int} {s:WS} (h:jB w X zs s):Only w (Xg X s.ts s.l.bC) [66,131,125,1]:=by
 rintro k cur e (rfl | ⟨i,hi,rfl⟩ | hk) hb
 ·rw[(hb.inj h.blk).2];decide
 ·obtain⟨cur',e',hb',he⟩:=(h.tabs.at_ i hi).YF;rw[(hb.inj hb').2];rcases he with rfl | rfl <;> decide
 ·obtain⟨cur',hb',_⟩:=h.tr.bC.blk hk;rw[(hb.inj hb').2];decide
theorem lI.add {zs:List Int} {bs:List Tb} {us us':List Un} {cur cur':List Nat×List TS} (hb:us'.foldr Un.uX cur'=cur):∀{sk:List (Nat×List Nat×List TS)},lI zs bs us cur sk->lI zs bs (if sk.isEmpty then [] else us++us') cur' sk
 | [],_=>rfl
 | (n,s)::r,⟨h1,h2,h3,h4,h5⟩=>by
  show lI zs bs (us++us') cur' ((n,s)::r)
  refine⟨by rw[List.length_append];omega,?_,h3,h4,?_⟩
  ·rw[List.drop_append_of_le_length h1,List.foldr_append,hb];exact h2
  ·rw[List.take_append_of_le_length h1];exact h5
theorem jB.settled {w w':World} {X:Nat} {zs:List Int} {s:WS} {start:List Nat} {B:Nat} {d':List Nat} {bv:Value} {ts:List Tab} {us:List Un} (h:jB w X zs s) (hk:lI zs s.bs s.us (s.d,s.ts.map Tab.t) s.sk)
  (hin:dN start (fM zs zs.length)) (hdm:Dm s.d) (hsub:dN start s.d) (hc:s.us.length+900*bitsOf s.d<=57600) (hB1:B<=850) (hB2:d'=s.d->s.sk≠[]->B<=bitsOf s.d*13) (kS:s.sk.length<=20) (set:FD (s.ctx X zs start) B w w' d' bv ts us):
  iM w' X zs (s.set d' bv ts us)/\gq w w' X s (s.set d' bv ts us):=by
 have hsame:gV s.ts ts:=set.same;have hfr:Fr (Xg X s.ts s.l.bC) w w':=set.fr;have oS:=h.YH;have hd':dN d' s.d:=by
  by_cases hF:Full zs.length d'
  ·exact((set.clo.full hF).1).trans hsub
  ·rw[(set.clo.none hF).1];exact yH _
 refine⟨⟨⟨set.blk,set.sz,h.lJ,set.tabs,hsame.inj h.inj,by show ts.length<=12;rw[hsame.len];exact h.t12,hsame.fits h.fits,h.yI,?_,?_,fun k hk=>⟨(h.apart k hk).1,fun i hi=>?_⟩⟩,?_,?_,?_,kS⟩,?_⟩
 ·have htr:=set.tr;show mP w' ⟨bv,s.l.starts,s.l.busy⟩ (bY s.sk) ((if s.sk.isEmpty then [] else s.us++us).map Un.val)
  have e:(if s.sk.isEmpty then [] else s.us++us).map Un.val=ji (bY s.sk) (s.us.map Un.val) us:=by
   cases hsk:s.sk with
   | nil=>
    rw[hsk] at hk;have hu:s.us=[]:=hk;simp[ji,bY,hu]
   | cons p r=>simp[ji,bY]
  rw[e];exact htr
 ·intro u hu;have key:∀u∈s.us,u.At w' X ts:=fun u hu=>((h.un u hu).jr hfr oS (by decide) (.inr (by decide))).same hsame
  have hu':u∈(if s.sk.isEmpty then [] else s.us++us):=hu
  split at hu'
  ·cases hu'
  ·rcases List.mem_append.1 hu' with h1 | h1
   ·exact key u h1
   ·exact set.un u h1
 ·have hi':i<s.ts.length:=by rw[<-hsame.len];exact hi
  show (ts.getD i aH).g≠k
  rw[(hsame.at_ i hi').2.1];exact(h.apart k hk).2 i hi'
 ·refine⟨set.dm,?_,?_,?_,?_,?_⟩
  ·show dN d' _
   by_cases hF:Full zs.length d'
   ·exact((set.clo.full hF).1).trans hin
   ·rw[(set.clo.none hF).1];exact yH _
  ·by_cases hF:Full zs.length d'
   ·exact .inr hF
   ·exact .inl (set.clo.none hF).1
  ·by_cases hF:Full zs.length d'
   ·exact(set.clo.full hF).2.1
   ·intro b hb;show dP b d'
    rw[(set.clo.none hF).1];exact P5 b
  ·show (ts.map Tab.t).length=s.bs.length
   rw[List.length_map,hsame.len,h.fits.1]
  ·intro k hk';show qC _ d' ((ts.map Tab.t).getD k ZU)
   rw[tq];exact set.rep k hk'
 ·show (if s.sk.isEmpty then [] else s.us++us).length+900*bitsOf d'<=57600
  have hcnt:=set.cnt;have hm1:=wX d';cases hsk:s.sk with
  | nil=>
   simp
   omega
  | cons p r=>
   simp only[List.isEmpty_cons,Bool.false_eq_true,if_false,List.length_append];have hcnt:us.length+bitsOf d'*13<=B+(if d'=s.d then 0 else 1):=hcnt
   by_cases e:d'=s.d
   ·rw[if_pos e] at hcnt;have h2:=hB2 e (by rw[hsk];simp)
    rw[e] at hcnt ⊢;omega
   ·rw[if_neg e] at hcnt;have h2:=Fz set.dm hdm hd' e;omega
 ·exact hk.add set.back
 ·refine⟨hfr.mono ?_,?_⟩
  ·rintro i (rfl | ⟨j,hj,rfl⟩ | hi)
   ·exact .inl (.inl rfl)
   ·exact .inl (.inr (.inr (.inr (.inl ⟨j,hj,.inl rfl⟩))))
   ·exact .inl (.inr (.inr (.inr (.inr (.inl hi)))))
  ·rintro k (rfl | hk' | hk' | ⟨i,hi,hk'⟩ | hk' | hk' | ⟨u,hu,hk'⟩)
   ·exact .inl (.inl rfl)
   ·exact .inl (.inr (.inl hk'))
   ·refine .inl (.inr (.inr (.inl ?_)))
    have hk2:(Value.slice s.so ts.length s.aI).ownBlock=some k:=hk';rw[hsame.len] at hk2;exact hk2
   ·have hi':i<s.ts.length:=by rw[<-hsame.len];exact hi
    have hk2:k=(ts.getD i aH).G\/k=(ts.getD i aH).g:=hk';rw[(hsame.at_ i hi').1,(hsame.at_ i hi').2.1] at hk2;exact .inl (.inr (.inr (.inr (.inl ⟨i,hi',hk2⟩))))
   ·rcases set.own k hk' with h1 | h1
    ·exact .inl (.inr (.inr (.inr (.inr (.inl h1)))))
    ·exact .inr h1
   ·exact .inl (.inr (.inr (.inr (.inr (.inr (.inl hk'))))))
   ·have hu':u∈(if s.sk.isEmpty then [] else s.us++us):=hu
    split at hu'
    ·cases hu'
    ·rcases List.mem_append.1 hu' with h1 | h1
     ·exact .inl (.inr (.inr (.inr (.inr (.inr (.inr ⟨u,h1,hk'⟩))))))
     ·exact .inr (set.new u h1 k hk')
def fG:List Bool:=List.replicate 12 false
theorem zu (k:Nat):fG.getD k false=false:=by
 simp only[fG,List.getD,List.getElem?_replicate]
 split <;> rfl
theorem TV {α:Type} {l:List α} (h:l.length=12):∃a0 a1 a2 a3 a4 a5 a6 a7 a8 a9 a10 a11,l=[a0,a1,a2,a3,a4,a5,a6,a7,a8,a9,a10,a11]:=by
 match l,h with
 | [a0,a1,a2,a3,a4,a5,a6,a7,a8,a9,a10,a11],_=>exact⟨_,_,_,_,_,_,_,_,_,_,_,_,rfl⟩
theorem Good.acm {zs:List Int} {bs:List Tb} {ts:List Tab} {d dn:List Nat} (h:Good zs bs d (ts.map Tab.t)) (hf:Fits bs ts) (h12:ts.length<=12) (hdn:Dm dn) (hsub:dN dn d):yz bs ts (dL ts d dn fG ts.length) dn dn:=by
 refine⟨hdn,dN.refl _,fun _ h _=>h,fun k hk hq=>?_,fun k hk=>?_⟩
 ·have hw:=nN ts d dn fG (by show ts.length<=12;exact h12) k ts.length (Nat.le_refl _)
  have h2:dX (bs.getD k tb0).vars d dn (bs.getD k tb0).vars.length=false:=by
   cases hx:dX (bs.getD k tb0).vars d dn (bs.getD k tb0).vars.length with
   | false=>rfl
   | true=>
    rw[<-hf.2 k hk] at hx;rw[hw.2 (.inr ⟨by rw[hf.1];exact hk,hx⟩)] at hq
    cases hq
  exact(h.clo _ (getD_mem hk)).same (wM h2)
 ·have:=(h.rep k hk).mono hsub
  rw[tq] at this;exact this
theorem LG (ts:List Tab) (a b:List Nat) (h12:ts.length<=12) (k:Nat) (hk:ts.length<=k):(dL ts a b fG ts.length).getD k false=false:=by
 have hw:=nN ts a b fG (by show ts.length<=12;exact h12) k ts.length (Nat.le_refl _)
 cases hx:(dL ts a b fG ts.length).getD k false with
 | false=>rfl
 | true=>
  rcases hw.1 hx with h1 | ⟨h1,_⟩
  ·rw[zu] at h1;cases h1
  ·omega
set_option maxRecDepth 1000000 in
theorem wY (X:Nat) (zs:List Int) (s:WS) (v x:Nat) (w:World) (h:iM w X zs s) (hv:v<zs.length) (hsub:dN (s.d.set v x) s.d) (hfull:Full zs.length s.d):
  Calls Tryz.prog 31 #[.pointer (some ⟨X,0,none⟩),.int .i64 v,.int .u8 x] w fun e w'=>e= .returned (.tuple #[])/\∃d' bv ts us,Closure zs.length s.bs (s.d.set v x) d'/\Dm d' /\
   iM w' X zs (s.set d' bv ts us)/\gq w w' X s (s.set d' bv ts us):=by
 obtain⟨hz0,hzl⟩:=aF h.mem.lJ;have hd8:s.d.length=8:=h.good.dm.len;obtain⟨v0,v1,v2,v3,v4,v5,v6,v7,hdv⟩:=iV hd8;obtain⟨⟨x0,rfl⟩,⟨x1,rfl⟩,⟨x2,rfl⟩,⟨x3,rfl⟩,⟨x4,rfl⟩,⟨x5,rfl⟩,⟨x6,rfl⟩,⟨x7,rfl⟩⟩:=iO s.d hdv;obtain⟨dn,hdn⟩:∃dn,s.d.set v x=dn:=⟨_,rfl⟩;have h8:dn.length=8:=by rw[<-hdn];simpa using hd8
 rw[hdn] at hsub ⊢;have hdm:Dm dn:=⟨h8,fun q=>NP hsub (h.good.dm.lt q)⟩
 obtain⟨m0,m1,m2,m3,m4,m5,m6,m7,CU⟩:=iV h8;have hX:=h.mem.blk;have hXlt:=hX.lt;have hi8:(v:Int)<8:=by omega
 obtain⟨c0,c1,c2,c3,c4,c5,c6,c7⟩:=vX hX hdv;obtain⟨mk,hmk⟩:∃mk,dL s.ts s.d dn fG s.ts.length=mk:=⟨_,rfl⟩;have hml:mk.length=12:=by rw[<-hmk,iG];rfl
 obtain⟨b0,b1,b2,b3,b4,b5,b6,b7,b8,b9,b10,b11,hmb⟩:=TV hml;have hmv:jq mk=#[.bool b0,.bool b1,.bool b2,.bool b3,.bool b4,.bool b5,.bool b6,.bool b7,.bool b8,.bool b9,.bool b10,.bool b11]:=by rw[hmb];rfl
 have HH:=hd h;have HX:=hd hX;have Hdv:=hd hdv;have xU:=hd CU;have Hdn:=hd hdn;have Hmk:=hd hmk;have C9:=hd hmv;have IE:=hd hsub;have wV:=hd hfull;clear h hX hdv CU hdn hmk hmv hmb hsub hfull;go_enter Tryz.func31,Tryz.ntmps31
 go_upto_region 1 with fail
 obtain⟨W,hW⟩:∃W,W=w.alloc (.cells (ay s.d) 60):=⟨_,rfl⟩;have dM:Nw w W:=by rw[hW];exact(Fr.refl _ w).alloc _
 have hbN:af W w.heap.size (ay s.d) 60:=by rw[hW];exact af.new _ _ _
 rw[<-Hdv.out];rw[<-hW];clear hW c0 c1 c2 c3 c4 c5 c6 c7;have hfz:=hbN.free v;obtain⟨xv,hcv⟩:∃xv,W.cell? ⟨w.heap.size,v,none⟩=some xv:=⟨_,(hbN.cell _).trans (dh s.d v (by omega))⟩
 have Xc:=hd hbN;clear hbN;go_upto_region 2 with fail
 obtain⟨U,hU⟩:∃U,U=W.setCell ⟨w.heap.size,v,none⟩ (.int .u8 (x:Int)):=⟨_,rfl⟩;have ZN:af U w.heap.size (ay dn) 60:=by rw[hU,<-Hdn.out,<-ry];exact Xc.out.set v _
 have iR:Nw w U:=by rw[hU];exact dM.setCell _ _ (.inr (Nat.le_refl _))
 have hlU:=ZN.lt;rw[<-hU];clear hU dM hcv hfz Xc;have HbU:=hd ZN;clear ZN;go_upto_region 3 with fail
 obtain⟨V,hV⟩:∃V,V=U.alloc (.cells (jq fG) 71):=⟨_,rfl⟩;have fA:Nw w V:=by rw[hV];exact iR.alloc _
 have hbV:af V w.heap.size (ay dn) 60:=by rw[hV];exact HbU.out.alloc _
 have Dl:af V U.heap.size (jq fG) 71:=by rw[hV];exact af.new _ _ _
 rw[show U.alloc (Obj.cells #[Value.bool false,Value.bool false,Value.bool false,Value.bool false,Value.bool false,Value.bool false,Value.bool false,Value.bool false,Value.bool false,Value.bool false,Value.bool false,Value.bool false] 71)=V from hV.symm]
 clear hV;have hlM:=Dl.lt;have hHV:=HH.out.mem.nw fA;obtain⟨c0,c1,c2,c3,c4,c5,c6,c7⟩:=vX hHV.blk Hdv.out;obtain⟨e0,e1,e2,e3,e4,e5,e6,e7⟩:=cZ (xU.out▸hbV);have Xb:=hd hbV;have P6:=hd Dl;have HHV:=hd hHV;have HHd:=hd (hHV.nw ((Fr.refl _ V).drew));have lK:=hd fA;have Xi:Hid (∀k,s.own X k->k<w.heap.size):=fun k hk=>HH.out.mem.lt hk
 clear hbV Dl fA iR HX HbU hHV;go_still_tail 6,(by kernel_rfl)
 go_wp2_with fail
 rw[<-Hdv.out,<-xU.out];refine(Ic X U.heap.size s.so s.aI s.az s.d s.l s.ts s.d dn fG _ HHd.out.blk hd8 HHd.out.tabs HHd.out.t12 rfl (fun i hi=>⟨fun e=>?_,fun e=>?_⟩) (fun o ho e=>?_) hd8 h8 P6.out.drew).mono ?_
 ·have:=Xi.out _ (.inr (.inr (.inr (.inl ⟨i,hi,.inl rfl⟩))))
  omega
 ·have:=Xi.out _ (.inr (.inr (.inr (.inl ⟨i,hi,.inr rfl⟩))))
  omega
 ·obtain⟨so',sc',hfo,hg⟩:=HHd.out.tabs.row.form;have e2:s.so=so':=by injection hfo
  obtain⟨g,hg1,hg2⟩:=hg o (by rw[<-e2];exact ho)
  have:=Xi.out _ (.inr (.inr (.inl hg2)))
  subst hg1;have e3:g=U.heap.size:=e;omega
 rw[Hmk.out];rintro e w1 ⟨rfl,hf1,hM1⟩
 have dQ:Fr (fun k=>k=U.heap.size) V w1:=hf1.gW
 have hs1:=dQ.size;have hb1:=Xb.out.fr dQ (by omega)
 have hH1:=HHV.out.fr dQ (fun k hk e=>by have:=Xi.out k hk;omega) ((Only.one P6.out).mono (fun _ x=>x) (fun _ x=>x)) (by decide)
 clear c0 c1 c2 c3 c4 c5 c6 c7 e0 e1 e2 e3 e4 e5 e6 e7;obtain⟨e0,e1,e2,e3,e4,e5,e6,e7⟩:=cZ (xU.out▸hb1);rw[C9.out] at hM1;have r0:w1.cell? ⟨U.heap.size,0,none⟩=some (.bool b0):=hM1.cell 0
 have r1:w1.cell? ⟨U.heap.size,1,none⟩=some (.bool b1):=hM1.cell 1
 have r2:w1.cell? ⟨U.heap.size,2,none⟩=some (.bool b2):=hM1.cell 2
 have r3:w1.cell? ⟨U.heap.size,3,none⟩=some (.bool b3):=hM1.cell 3
 have r4:w1.cell? ⟨U.heap.size,4,none⟩=some (.bool b4):=hM1.cell 4
 have r5:w1.cell? ⟨U.heap.size,5,none⟩=some (.bool b5):=hM1.cell 5
 have r6:w1.cell? ⟨U.heap.size,6,none⟩=some (.bool b6):=hM1.cell 6
 have r7:w1.cell? ⟨U.heap.size,7,none⟩=some (.bool b7):=hM1.cell 7
 have r8:w1.cell? ⟨U.heap.size,8,none⟩=some (.bool b8):=hM1.cell 8
 have r9:w1.cell? ⟨U.heap.size,9,none⟩=some (.bool b9):=hM1.cell 9
 have r10:w1.cell? ⟨U.heap.size,10,none⟩=some (.bool b10):=hM1.cell 10
 have r11:w1.cell? ⟨U.heap.size,11,none⟩=some (.bool b11):=hM1.cell 11
 have Rk:Hid (Nw w w1):=lK.out.trans dQ (fun i h=>.inr (by omega))
 have Xj:=hd hH1;have hin:dN dn (fM zs zs.length):=IE.out.trans HH.out.good.wW;have hbm:=wX dn;have hmm:=Bj mk;have hcn:=HH.out.cnt;have hS:yz s.bs s.ts mk dn dn:=by rw[<-Hmk.out];exact HH.out.good.acm HH.out.mem.fits HH.out.mem.t12 hdm IE.out
 have hoff:∀k,s.ts.length<=k->mk.getD k false=false:=fun k hk=>by rw[<-Hmk.out];exact LG _ _ _ HH.out.mem.t12 k hk
 have HS:=hd hS;have Dp:=hd hoff;have YE:=hd hin;have Hdm:=hd hdm;clear hb1 hM1 hf1 dQ hH1 hS hoff hin hdm;go_wp2_with (go_at_call 27;rw[<-xU.out,<-C9.out];refine(Bz (s.ctx X zs dn) dn mk _ Xj.out.blk Xj.out.sz hz0 hzl hd8 HH.out.good.dm.mem Xj.out.tabs Xj.out.inj Xj.out.t12 hml Dp.out Xj.out.tr (by show (s.us.map Un.val).length+_<=900000;rw[List.length_map];omega) HS.out Xj.out.yI Xj.out.fits).mono ?_;rintro e w2 ⟨rfl,d',bv,ts,us,hset⟩)
 go_end0
 have hB2:d'=s.d->s.sk≠[]->bitsOf dn*13+marksOf mk<=bitsOf s.d*13:=by
  intro e _;have h1:dN s.d dn:=by
   have h2:=(hset.clo.full (by rw[e];exact wV.out)).1
   rw[e] at h2;exact h2
  have h3:dn=s.d:=dN.eq Hdm.out HH.out.good.dm IE.out h1;have h4:mk=fG:=by rw[<-Hmk.out,h3,rV]
  rw[h3,h4];exact Nat.le_of_eq rfl
 obtain⟨hA,hB⟩:=Xj.out.settled HH.out.sk YE.out HH.out.good.dm IE.out HH.out.cnt (by omega) hB2 HH.out.uz hset
 exact⟨rfl,d',bv,ts,us,hset.clo,hset.dm,hA,(gq.nw Rk.out X s).trans hB⟩
def Dq (y v:Nat):Nat:=y &&& 2^v
def rW (y v:Nat):Nat:=if y.testBit v then y-2^v else y
theorem TW (y v:Nat) (hy:y<64) (hv:v<6):bits .and .u8 (y:Int) (2^v:Nat)=(Dq y v:Nat):=by
 have key:∀y:Fin 64,∀v:Fin 6,bits .and .u8 ((y.val:Nat):Int) ((2^v.val:Nat):Int)=(Dq y.val v.val:Nat):=by decide +kernel
 exact key ⟨y,hy⟩ ⟨v,hv⟩
theorem TY (y v:Nat) (hy:y<64) (hv:v<6):bits .andNot .u8 (y:Int) (2^v:Nat)=(rW y v:Nat):=by
 have key:∀y:Fin 64,∀v:Fin 6,bits .andNot .u8 ((y.val:Nat):Int) ((2^v.val:Nat):Int)=(rW y.val v.val:Nat):=by decide +kernel
 exact key ⟨y,hy⟩ ⟨v,hv⟩
theorem BA (y v u:Nat):(Dq y v).testBit u=(y.testBit u&&decide (v=u)):=by
 simp[Dq,Nat.testBit_two_pow]
theorem NV (y v:Nat) (hy:y<64):rW y v<64:=by
 unfold rW;split
 ·exact Nat.lt_of_le_of_lt (Nat.sub_le _ _) hy
 ·exact hy
theorem BB (y v u:Nat) (hy:y<64):(rW y v).testBit u=(y.testBit u&&decide (v≠u)):=by
 by_cases hu:u<6
 ·by_cases hv:v<6
  ·have key:∀y:Fin 64,∀v:Fin 6,∀u:Fin 6,(rW y.val v.val).testBit u.val=(y.val.testBit u.val&&decide (v.val≠u.val)):=by decide +kernel
   exact key ⟨y,hy⟩ ⟨v,hv⟩ ⟨u,hu⟩
  ·have h1:y.testBit v=false:=by
    cases hx:y.testBit v with
    | false=>rfl
    | true=>exact absurd (iL hy hx) hv
   have h2:v≠u:=by omega
   simp[rW,h1,h2]
 ·have h1:y.testBit u=false:=by
   cases hx:y.testBit u with
   | false=>rfl
   | true=>exact absurd (iL hy hx) hu
  have h2:(rW y v).testBit u=false:=by
   cases hx:(rW y v).testBit u with
   | false=>rfl
   | true=>exact absurd (iL (NV y v hy) hx) hu
  rw[h1,h2];rfl
theorem NW {d:List Nat} {v x:Nat} (h:∀u,x.testBit u=true->(d.getD v 0).testBit u=true):dN (d.set v x) d:=by
 intro q u hu;by_cases e:v=q
 ·subst e;by_cases hl:v<d.length
  ·have e2:(d.set v x).getD v 0=x:=by simp[List.getD,hl]
   rw[e2] at hu;exact h u hu
  ·have e2:d.set v x=d:=List.set_eq_of_length_le (by omega)
   rw[e2] at hu;exact hu
 ·have e2:(d.set v x).getD q 0=d.getD q 0:=by simp[List.getD,e]
  rw[e2] at hu;exact hu
theorem BC {zs:List Int} {d:List Nat} {v value:Int} (h:fD zs d v value=0):0<=v/\v<zs.length/\0<=value/\value<zs.getD v.toNat 0/\d.getD 0 0≠0:=by
 unfold fD at h;split at h
 ·rename_i h1;split at h
  ·omega
  ·rename_i h2;exact⟨h1.1,h1.2.1,h1.2.2.1,h1.2.2.2,h2⟩
 ·omega
theorem fJ {zs:List Int} (h:di zs=true) (i:Nat) (hi:i<zs.length):1<=zs.getD i 0/\zs.getD i 0<=6:=by
 simp only[di,Bool.and_eq_true,decide_eq_true_eq,List.all_eq_true] at h;have h2:=h.2 zs[i] (List.getElem_mem hi);simp only[kY,decide_eq_true_eq] at h2;simpa[List.getD,hi] using h2
theorem Good.full {zs:List Int} {bs:List Tb} {d:List Nat} {tss:List TS} (h:Good zs bs d tss) (h0:d.getD 0 0≠0):Full zs.length d:=by
 rcases h.alive with e | e
 ·rw[e,gG] at h0;exact absurd rfl h0
 ·exact e
set_option maxRecDepth 1000000 in
theorem TZ (X:Nat) (zs:List Int) (s:WS) (v value:Int) (w:World) (h:iM w X zs s) (hbz:s.l.busy=false) (hf:fD zs s.d v value≠0):
  Calls Tryz.prog 56 #[.pointer (some ⟨X,0,none⟩),.int .i64 v,.int .i64 value] w fun e w'=>e= .returned (.int .i64 (fD zs s.d v value))/\w'=w:=by
 obtain⟨hz0,hzl⟩:=aF h.mem.lJ;have HH:=hd h;have hd8:s.d.length=8:=h.good.dm.len;obtain⟨r,hr⟩:∃r,fD zs s.d v value=r:=⟨_,rfl⟩;have Hr:=hd hr;rw[hr] at hf ⊢;clear h hr;go_enter Tryz.func56,Tryz.ntmps56
 go_wp2_with (go_at_call 30;refine(sK X s.az s.d _ s.l zs v value _ HH.out.mem.blk HH.out.mem.sz hzl hd8 hbz).mono ?_;rw[Hr.out];rintro e w' ⟨rfl,rfl⟩)
 go_ret
 exact⟨rfl,rfl⟩
set_option maxRecDepth 1000000 in
theorem Eh (X:Nat) (zs:List Int) (s:WS) (v value:Int) (w:World) (h:iM w X zs s) (hbz:s.l.busy=false) (hf:fD zs s.d v value≠0):
  Calls Tryz.prog 13 #[.pointer (some ⟨X,0,none⟩),.int .i64 v,.int .i64 value] w fun e w'=>e= .returned (.int .i64 (fD zs s.d v value))/\w'=w:=by
 obtain⟨hz0,hzl⟩:=aF h.mem.lJ;have HH:=hd h;have hd8:s.d.length=8:=h.good.dm.len;obtain⟨r,hr⟩:∃r,fD zs s.d v value=r:=⟨_,rfl⟩;have Hr:=hd hr;rw[hr] at hf ⊢;clear h hr;go_enter Tryz.func13,Tryz.ntmps13
 go_wp2_with (go_at_call 30;refine(sK X s.az s.d _ s.l zs v value _ HH.out.mem.blk HH.out.mem.sz hzl hd8 hbz).mono ?_;rw[Hr.out];rintro e w' ⟨rfl,rfl⟩)
 go_ret
 exact⟨rfl,rfl⟩
set_option maxRecDepth 1000000 in
theorem Xk (X:Nat) (zs:List Int) (s:WS) (v value:Nat) (w:World) (h:iM w X zs s) (hbz:s.l.busy=false) (hf:fD zs s.d v value=0):
  Calls Tryz.prog 56 #[.pointer (some ⟨X,0,none⟩),.int .i64 v,.int .i64 value] w fun e w'=>e= .returned (.int .i64 0)/\∃d' bv ts us,Closure zs.length s.bs (s.d.set v (Dq (s.d.getD v 0) value)) d'/\Dm d' /\
   iM w' X zs (s.set d' bv ts us)/\gq w w' X s (s.set d' bv ts us):=by
 obtain⟨hz0,hzl⟩:=aF h.mem.lJ;obtain⟨_,hv1,_,hv3,hv4⟩:=BC hf;rw[Int.toNat_natCast] at hv3;have ZV:v<zs.length:=by omega
 have hval:value<6:=by
  have:=fJ h.mem.lJ v ZV
  omega
 have hi8:(v:Int)<8:=by omega
 have hd8:s.d.length=8:=h.good.dm.len;have hcd:w.cell? ⟨X,1+v,none⟩=some (.int .u8 (s.d.getD v 0:Nat)):=(h.mem.blk.cell _).trans (jg _ _ _ _ _ (by omega))
 have P7:=h.good.dm.lt v;obtain⟨y,hy⟩:∃y,s.d.getD v 0=y:=⟨_,rfl⟩;have hsub:dN (s.d.set v (Dq y value)) s.d:=NW (fun u hu=>by rw[BA] at hu;rw[hy];simp at hu;exact hu.1)
 have hfull:=h.good.full hv4;rw[hy] at hcd P7 ⊢;have hbf:=TW y value P7 hval;have HH:=hd h;have Hy:=hd hy;have IE:=hd hsub;have wV:=hd hfull;have Hbf:=hd hbf;clear h hy hsub hfull hbf;go_enter Tryz.func56,Tryz.ntmps56
 go_upto_region 4 with (go_at_call 30;refine(sK X s.az s.d _ s.l zs v value _ HH.out.mem.blk HH.out.mem.sz hzl hd8 hbz).mono ?_;rw[hf];rintro e w' ⟨rfl,rfl⟩)
 go_still_tail 11,(by kernel_rfl)
 refine still_call (f:=32) (args:=#[.int .i64 (value:Int)]) (.int .u8 (2^value:Nat)) (by kernel_rfl) (by kernel_rfl) (one_any value _ (by omega)) ?_
 simp only[Act.put,bQ,bW,bU];refine yU (.int .u8 (Dq y value:Nat)) (by kernel_rfl) ?_ ?_
 ·have hxx:=Hbf.out;clear hf hv4 hcd hv3;go_simp
  simpa using hxx
 refine wpStill_nil ?_
 simp only[Act.put,bQ,bW,bU];go_wp2_with (go_at_call 31;refine(wY X zs s v (Dq y value) _ (HH.out.nw ((Fr.refl _ _).drew)) ZV IE.out wV.out).mono ?_;rintro e w2 ⟨rfl,d',bv,ts,us,h1,h2,h3,h4⟩)
 go_ret
 exact⟨rfl,d',bv,ts,us,h1,h2,h3,⟨h4.fr.gW,h4.grow⟩⟩
set_option maxRecDepth 1000000 in
theorem BD (X:Nat) (zs:List Int) (s:WS) (v value:Nat) (w:World) (h:iM w X zs s) (hbz:s.l.busy=false) (hf:fD zs s.d v value=0):
  Calls Tryz.prog 13 #[.pointer (some ⟨X,0,none⟩),.int .i64 v,.int .i64 value] w fun e w'=>e= .returned (.int .i64 0)/\∃d' bv ts us,Closure zs.length s.bs (s.d.set v (rW (s.d.getD v 0) value)) d'/\Dm d' /\
   iM w' X zs (s.set d' bv ts us)/\gq w w' X s (s.set d' bv ts us):=by
 obtain⟨hz0,hzl⟩:=aF h.mem.lJ;obtain⟨_,hv1,_,hv3,hv4⟩:=BC hf;rw[Int.toNat_natCast] at hv3;have ZV:v<zs.length:=by omega
 have hval:value<6:=by
  have:=fJ h.mem.lJ v ZV
  omega
 have hi8:(v:Int)<8:=by omega
 have hd8:s.d.length=8:=h.good.dm.len;have hcd:w.cell? ⟨X,1+v,none⟩=some (.int .u8 (s.d.getD v 0:Nat)):=(h.mem.blk.cell _).trans (jg _ _ _ _ _ (by omega))
 have P7:=h.good.dm.lt v;obtain⟨y,hy⟩:∃y,s.d.getD v 0=y:=⟨_,rfl⟩;have hsub:dN (s.d.set v (rW y value)) s.d:=NW (fun u hu=>by rw[BB _ _ _ (by rw[<-hy];exact P7)] at hu;rw[hy];simp at hu;exact hu.1)
 have hfull:=h.good.full hv4;rw[hy] at hcd P7 ⊢;have hbf:=TY y value P7 hval;have HH:=hd h;have Hy:=hd hy;have IE:=hd hsub;have wV:=hd hfull;have Hbf:=hd hbf;clear h hy hsub hfull hbf;go_enter Tryz.func13,Tryz.ntmps13
 go_upto_region 4 with (go_at_call 30;refine(sK X s.az s.d _ s.l zs v value _ HH.out.mem.blk HH.out.mem.sz hzl hd8 hbz).mono ?_;rw[hf];rintro e w' ⟨rfl,rfl⟩)
 go_still_tail 11,(by kernel_rfl)
 refine still_call (f:=32) (args:=#[.int .i64 (value:Int)]) (.int .u8 (2^value:Nat)) (by kernel_rfl) (by kernel_rfl) (one_any value _ (by omega)) ?_
 simp only[Act.put,bQ,bW,bU];refine yU (.int .u8 (rW y value:Nat)) (by kernel_rfl) ?_ ?_
 ·have hxx:=Hbf.out;clear hf hv4 hcd hv3;go_simp
  simpa using hxx
 refine wpStill_nil ?_
 simp only[Act.put,bQ,bW,bU];go_wp2_with (go_at_call 31;refine(wY X zs s v (rW y value) _ (HH.out.nw ((Fr.refl _ _).drew)) ZV IE.out wV.out).mono ?_;rintro e w2 ⟨rfl,d',bv,ts,us,h1,h2,h3,h4⟩)
 go_ret
 exact⟨rfl,d',bv,ts,us,h1,h2,h3,⟨h4.fr.gW,h4.grow⟩⟩
theorem lM {zs vars:List Int} {rows:List (List Int)} {way:Int} (h:bK zs vars rows way=true) (hz:zs.length<=8):(way=1\/way=2)/\1<=vars.length/\rows.length<=60/\lF vars/\(∀i,i<vars.length->vars.getD i 0<zs.length)/\(∀j,j<rows.length->(rows.getD j []).length=vars.length):=by
 simp only[bK,Bool.and_eq_true,decide_eq_true_eq,List.all_eq_true,List.mem_range] at h;obtain⟨⟨⟨h1,h2⟩,h3⟩,h4⟩:=h;obtain⟨b1,b2,b3⟩:=um h2;refine⟨by simpa[vV] using h1,b1,h3,⟨b2,fun i hi=>⟨(b3 i hi).1,by have:=(b3 i hi).2;omega⟩,?_⟩,fun i hi=>(b3 i hi).2,fun j hj=>?_⟩
 ·have key:∀i k,i<k->k<vars.length->vars.getD i 0≠vars.getD k 0:=by
   intro i k hik hk e;simp only[kZ,Bool.and_eq_true,decide_eq_true_eq,List.all_eq_true,List.mem_range] at h2;have h5:=h2.2 k hk;simp only[lT,Bool.and_eq_true,decide_eq_true_eq,Bool.not_eq_true'] at h5;have h6:(vars.take k).contains (vars.getD k 0)=true:=by
    rw[List.contains_iff_mem,List.mem_iff_getElem];refine⟨i,by simp;omega,?_⟩
    have hi:i<vars.length:=by omega
    rw[List.getElem_take,<-e];simp[List.getD,hi]
   rw[h6] at h5;exact absurd h5.2 (by simp)
  intro i k hi hk e;rcases Nat.lt_trichotomy i k with h | h | h
  ·exact absurd e (key i k h hk)
  ·exact h
  ·exact absurd e.symm (key k i h hi)
 ·have h5:=h4 j hj;simp only[jW,nG,Bool.and_eq_true,decide_eq_true_eq] at h5;exact h5.1
theorem kJ (ts:List Tab) (x:Tab) (i:Nat):(ts++[x]).getD i aH=if i<ts.length then ts.getD i aH else if i=ts.length then x else aH:=by
 by_cases h:i<ts.length
 ·rw[if_pos h];simp[List.getD,List.getElem?_append_left h]
 ·rw[if_neg h];by_cases e:i=ts.length
  ·subst e;simp[List.getD]
  ·rw[if_neg e];have:(ts++[x]).length<=i:=by simp;omega
   simp[List.getD,List.getElem?_eq_none this]
theorem tu (bs:List Tb) (b:Tb) (i:Nat):(bs++[b]).getD i tb0=if i<bs.length then bs.getD i tb0 else if i=bs.length then b else tb0:=by
 by_cases h:i<bs.length
 ·rw[if_pos h];simp[List.getD,List.getElem?_append_left h]
 ·rw[if_neg h];by_cases e:i=bs.length
  ·subst e;simp[List.getD]
  ·rw[if_neg e];have:(bs++[b]).length<=i:=by simp;omega
   simp[List.getD,List.getElem?_eq_none this]
def WS.more (s:WS) (so:Option Addr) (aI:Nat) (x:Tab) (b:Tb):WS:={s with so:=so,aI:=aI,ts:=s.ts++[x],bs:=s.bs++[b]}
theorem jB.more {S:Nat->Prop} {w Z:World} {X:Nat} {zs:List Int} {s:WS} {so:Option Addr} {aI:Nat} {x:Tab} {b:Tb} (h:jB w X zs s) (hu:s.us=[]) (f:Fr S w Z) (o:Only w S [66,73])
  (hX:af Z X (ah s.az s.d (.slice so (s.ts.length+1) aI) s.l) 66) (hrow:Row Z (.slice so (s.ts.length+1) aI) 73 (s.ts.map Tab.val++[x.val])) (hx:oN Z x.G x.g x.cap x.vars x.t) (hG:w.heap.size<=x.G) (hg:w.heap.size<=x.g)
  (h12:s.ts.length<12) (hv:x.vars=b.vars) (hb:b.Ok) (hbn:∀i,i<b.vars.length->b.vars.getD i 0<zs.length):jB Z X zs (s.more so aI x b):=by
 refine⟨?_,h.sz.jr f o (by decide),h.lJ,⟨?_,?_,?_,?_⟩,?_,?_,⟨?_,?_⟩,?_,h.tr.jr f o (by decide),?_,fun k hk=>⟨(h.apart k hk).1,fun i hi=>?_⟩⟩
 ·show af Z X (ah s.az s.d (.slice so (s.ts++[x]).length aI) s.l) _
  rw[List.length_append];exact hX
 ·show Row Z (.slice so (s.ts++[x]).length aI) _ ((s.ts++[x]).map Tab.val)
  rw[List.length_append,List.map_append];exact hrow
 ·intro i hi;have hi':i<s.ts.length+1:=by simpa[WS.more] using hi
  simp only[WS.more];rw[kJ];by_cases h1:i<s.ts.length
  ·rw[if_pos h1];exact(h.tabs.at_ i h1).jr f o (by decide)
  ·rw[if_neg h1,if_pos (by omega)]
   exact hx
 ·intro i hi;show ((s.ts++[x]).getD i aH).vars.length<=4
  have hi':i<s.ts.length+1:=by simpa[WS.more] using hi
  rw[kJ];by_cases h1:i<s.ts.length
  ·rw[if_pos h1];exact h.tabs.four i h1
  ·rw[if_neg h1,if_pos (by omega),hv]
   exact hb.vars.four
 ·intro i hi;show ∀k,k<((s.ts++[x]).getD i aH).vars.length->_
  have hi':i<s.ts.length+1:=by simpa[WS.more] using hi
  simp only[WS.more];rw[kJ];by_cases h1:i<s.ts.length
  ·rw[if_pos h1];exact h.tabs.ok i h1
  ·rw[if_neg h1,if_pos (by omega),hv]
   exact hb.vars.ok
 ·intro i j hi hj e;have hi':i<s.ts.length+1:=by simpa[WS.more] using hi
  have hj':j<s.ts.length+1:=by simpa[WS.more] using hj
  simp only[WS.more] at e;rw[kJ,kJ] at e;by_cases h1:i<s.ts.length
  ·rw[if_pos h1] at e;by_cases h2:j<s.ts.length
   ·rw[if_pos h2] at e;exact h.inj i j h1 h2 e
   ·rw[if_neg h2,if_pos (by omega)] at e
    have:=(h.tabs.at_ i h1).lt (.inl rfl)
    omega
  ·rw[if_neg h1,if_pos (by omega)] at e
   by_cases h2:j<s.ts.length
   ·rw[if_pos h2] at e;have:=(h.tabs.at_ j h2).lt (.inl rfl)
    omega
   ·omega
 ·show (s.ts++[x]).length<=12
  simp
  omega
 ·simp[WS.more,h.fits.1]
 ·intro k hk;have hk':k<s.bs.length+1:=by simpa[WS.more] using hk
  simp only[WS.more];rw[kJ,tu,h.fits.1];by_cases h1:k<s.bs.length
  ·rw[if_pos h1,if_pos h1];exact h.fits.2 k h1
  ·rw[if_neg h1,if_neg h1,if_pos (by omega),if_pos (by omega)]
   exact hv
 ·intro k hk;have hk':k<s.bs.length+1:=by simpa[WS.more] using hk
  simp only[WS.more];rw[tu];by_cases h1:k<s.bs.length
  ·rw[if_pos h1];exact h.yI k h1
  ·rw[if_neg h1,if_pos (by omega)]
   refine⟨hb,fun i hi=>?_⟩
   have:=hbn i hi
   have:=hb.vars.ok i hi
   omega
 ·intro u hu';have:u∈s.us:=hu'
  rw[hu] at this;cases this
 ·have hi':i<s.ts.length+1:=by simpa[WS.more] using hi
  simp only[WS.more];rw[kJ];by_cases h1:i<s.ts.length
  ·rw[if_pos h1];exact(h.apart k hk).2 i h1
  ·rw[if_neg h1,if_pos (by omega)]
   have:=h.tr.starts.lt hk
   omega
theorem Good.more {zs:List Int} {s:WS} (h:Good zs s.bs s.d (s.ts.map Tab.t)) (hf:Fits s.bs s.ts) (h12:s.ts.length<12) {so:Option Addr} {aI:Nat} {x:Tab} {b:Tb} (hr:qC b s.d x.t):
  yz (s.more so aI x b).bs (s.more so aI x b).ts (fG.set s.ts.length true) s.d s.d:=by
 refine⟨h.dm,dN.refl _,fun _ h _=>h,fun k hk hq=>?_,fun k hk=>?_⟩
 ·have hk':k<s.bs.length+1:=by simpa[WS.more] using hk
  simp only[WS.more];rw[tu];by_cases h1:k<s.bs.length
  ·rw[if_pos h1];exact h.clo _ (getD_mem h1)
  ·have e:s.ts.length=k:=by rw[hf.1];omega
   rw[pK,if_pos ⟨e,by show s.ts.length<12;exact h12⟩] at hq
   cases hq
 ·have hk':k<s.bs.length+1:=by simpa[WS.more] using hk
  simp only[WS.more];rw[tu,kJ,hf.1];by_cases h1:k<s.bs.length
  ·rw[if_pos h1,if_pos h1,<-tq];exact h.rep k h1
  ·rw[if_neg h1,if_neg h1,if_pos (by omega),if_pos (by omega)]
   exact hr
theorem gq.more {S:Nat->Prop} {w Z:World} {X:Nat} {s:WS} {so:Option Addr} {aI:Nat} {x:Tab} {b:Tb} (f:Fr S w Z) (hS:∀k,S k->s.own X k) (hso:∀k,(Value.slice so (s.ts.length+1) aI).ownBlock=some k->(Value.slice s.so s.ts.length s.aI).ownBlock=some k\/w.heap.size<=k) (hG:w.heap.size<=x.G) (hg:w.heap.size<=x.g):
  gq w Z X s (s.more so aI x b):=by
 refine⟨f.mono (fun i hi=>.inl (hS i hi)),?_⟩
 rintro k (rfl | hk' | hk' | ⟨i,hi,hk'⟩ | hk' | hk' | ⟨u,hu,hk'⟩)
 ·exact .inl (.inl rfl)
 ·exact .inl (.inr (.inl hk'))
 ·have hk2:(Value.slice so (s.ts++[x]).length aI).ownBlock=some k:=hk';rw[List.length_append] at hk2;exact(hso k hk2).imp (fun h=>.inr (.inr (.inl h))) id
 ·have hi':i<s.ts.length+1:=by simpa[WS.more] using hi
  have hk2:k=((s.ts++[x]).getD i aH).G\/k=((s.ts++[x]).getD i aH).g:=hk';rw[kJ] at hk2;by_cases h1:i<s.ts.length
  ·rw[if_pos h1] at hk2;exact .inl (.inr (.inr (.inr (.inl ⟨i,h1,hk2⟩))))
  ·rw[if_neg h1,if_pos (by omega)] at hk2
   rcases hk2 with rfl | rfl
   ·exact .inr hG
   ·exact .inr hg
 ·exact .inl (.inr (.inr (.inr (.inr (.inl hk')))))
 ·exact .inl (.inr (.inr (.inr (.inr (.inr (.inl hk'))))))
 ·exact .inl (.inr (.inr (.inr (.inr (.inr (.inr ⟨u,hu,hk'⟩))))))
end Go.Proofs.YtkjfpdfkcfgfkaaGreat
