/- Parts of the proof, number 7: contracts of the functions that the statement calls. -/
import Derived.Test.YtkjfpdfkcfgfkaaGreatM6
import Derived.Laws.AppendOwnNone
import Derived.Test.YtkjfpdfkcfgfkaaGreatM3
import Derived.Test.YtkjfpdfkcfgfkaaGreatM1
import Derived.Test.YtkjfpdfkcfgfkaaGreatM5
import Derived.Deep.RegionHeld3
import Derived.Defers
set_option maxHeartbeats 3200000
namespace Go.Proofs.YtkjfpdfkcfgfkaaGreat
open Go.RowKit
theorem kP {P:Program} (w:World) {ops:Array Oper} {rest:List Oper} {o:Oper} {a:Act} {Q:Exit->Act->World->Prop} (hgd:o.guard=none) (s x:Operand) (t:TypeId)
  (ho:o.op= .call {callee:=.builtin .append,args:=#[s,x],argTypes:=#[t,t]})
  (e:TypeId) (i:TypeInfo) (z:Value) (bytes:Nat) (ht:P.underlying t=some (.slice e)) (hi:P.info? e=some i) (hz:i.zero=some z)
  (hsize:i.size=1) (hby:i.bytes=bytes) (hzs:z.cells.size=1)
  (v:Value) (n:Nat) (xs:List Value) (hs:a.eval s=v) (hown:w.ownsRow 0 e 1 v n xs)
  (ao:Option Addr) (m c:Nat) (news:List Value) (hx:a.eval x= .slice ao m c) (hl:news.length=m) (hsrc:(ao=none/\m=0/\c=0)\/∃ad,ao=some ad/\∀j u,news[j]? = some u->w.cell? (ad.add j)=some u) (h1:∀u∈news,u.oneCell'=true)
  (h63:n+m<=maxLen) (hbytes:(n+m)*bytes<=140737488355328)
  (h:∀v' w',w'.ownsRow 0 e 1 v' (n+m) (xs++news)->w.grownBy w' v.ownBlock->(v'.ownBlock=v.ownBlock\/v'.ownBlock=some w.heap.size)->wpList P ops Q rest (a.put o.dst v') w'):
  wpList P ops Q (o::rest) a w:=by
 rcases hsrc with ⟨rfl,rfl,rfl⟩ | ⟨ad,rfl,hnews⟩
 ·have hn:news=[]:=List.eq_nil_of_length_eq_zero hl;subst hn;refine wpList_append_own_none hgd s x t ho 0 e i 1 ht hi v n xs hs hown hx ?_
  exact h v w (by rw[Nat.add_zero,List.append_nil];exact hown) ⟨rfl,rfl,rfl,Nat.le_refl _,fun _ _ _=>rfl⟩ (.inl rfl)
 ·exact wpList_append_own_at w hgd s x t ho 0 e i z 1 bytes ht hi hz hsize hby hzs (by decide) v n xs hs hown ad m c news hx (by rw[Nat.mul_one];exact hl) hnews h1 h63 hbytes (Nat.zero_le _) (fun v' w' a1 a2 _ a3=>h v' w' a1 a2 a3)
theorem aar {w0 w w1:World} {e:TypeId} {v v':Value} {xs ys:List Value} {n:Nat} (hM:Mine w0 w v e xs) (hn:(xs++ys).length=n) (h1:w1.ownsRow 0 e 1 v' n (xs++ys)) (hg:w.grownBy w1 v.ownBlock) (hat:v'.ownBlock=v.ownBlock\/v'.ownBlock=some w.heap.size):Mine w0 w1 v' e (xs++ys)/\Fr (fun k=>v.ownBlock=some k) w w1:=by
 have hr:Row w1 v' e (xs++ys):=by
  unfold Row;rw[hn];exact h1
 have hfr:Fr (fun k=>v.ownBlock=some k) w w1:=(Fr.refl (fun k=>v.ownBlock=some k) w).grown hg (fun k hk=>.inl hk)
 refine⟨⟨hr,hM.nw.trans hfr (fun i hi=>.inr (hM.since i hi)),fun q hq=>?_⟩,hfr⟩
 rcases hat with h | h
 ·exact hM.since q (by rw[<-h];exact hq)
 ·rw[h] at hq;cases hq;exact hM.nw.size
structure fK (w0 w:World) (v:Value) (vs:List Value) (xss:List (List Nat)):Prop where
 mine:Mine w0 w v 22 vs
 len:vs.length=xss.length
 each:∀j,j<xss.length->Row w (vs.getD j undef) 3 (ints (xss.getD j []))
 new:∀j,j<xss.length->∀k,(vs.getD j undef).ownBlock=some k->w0.heap.size<=k
theorem fK.nil {w0 w:World} (h:Nw w0 w):fK w0 w (.slice none 0 0) [] []:=⟨Mine.nil h _,rfl,fun _ hj=>absurd hj (Nat.not_lt_zero _),fun _ hj=>absurd hj (Nat.not_lt_zero _)⟩
theorem fK.fr {S:Nat->Prop} {w0 w w':World} {v:Value} {vs:List Value} {xss:List (List Nat)} (h:fK w0 w v vs xss) (f:Fr S w w') (hw:Nw w0 w') (hn:∀k cur e,af w k cur e->e=3\/v.ownBlock=some k->¬S k):fK w0 w' v vs xss:=
 ⟨⟨h.mine.row.fr f (fun k hk=>by
  obtain⟨cur,hb,_⟩:=h.mine.row.blk hk;exact hn k cur _ hb (.inr hk)),hw,h.mine.since⟩,h.len,fun j hj=>(h.each j hj).fr f (fun k hk=>by
  obtain⟨cur,hb,_⟩:=(h.each j hj).blk hk;exact hn k cur _ hb (.inl rfl)),h.new⟩
theorem fK.step {w0 w w':World} {v:Value} {vs:List Value} {xss:List (List Nat)} (h:fK w0 w v vs xss) (f:Nw w w'):fK w0 w' v vs xss:=h.fr f (h.mine.nw.trans f (fun _ x=>x.elim)) (fun _ _ _ _ _ x=>x)
theorem fK.lower {w0 w1 w:World} {v:Value} {vs:List Value} {xss:List (List Nat)} (h:fK w1 w v vs xss) (f:Nw w0 w1):fK w0 w v vs xss:=⟨⟨h.mine.row,f.trans h.mine.nw (fun _ x=>x.elim),fun q hq=>Nat.le_trans f.size (h.mine.since q hq)⟩,h.len,h.each,fun j hj k hk=>Nat.le_trans f.size (h.new j hj k hk)⟩
theorem BQ {α:Type} (a b:List α) (d:α) (j:Nat):(a++b).getD j d=if j<a.length then a.getD j d else b.getD (j-a.length) d:=by
 simp only[List.getD];by_cases h:j<a.length
 ·rw[if_pos h,List.getElem?_append_left h]
 ·rw[if_neg h,List.getElem?_append_right (by omega)]
theorem fK.app {w0 w1 w w':World} {v v1 v':Value} {vs vs1:List Value} {xss acU:List (List Nat)} (h:fK w0 w v vs xss) (h1:fK w1 w v1 vs1 acU) (hw:w0.heap.size<=w1.heap.size) (hM:Mine w0 w' v' 22 (vs++vs1)) (f:Fr (fun k=>v.ownBlock=some k) w w'):fK w0 w' v' (vs++vs1) (xss++acU):=by
 have hI:∀{u:Value} {xs:List Value},Row w u 3 xs->Row w' u 3 xs:=fun hr=>hr.fr f (fun k hk e=>by
  obtain⟨cur,hb,_⟩:=hr.blk hk;obtain⟨cur',hb',_⟩:=h.mine.row.blk e;exact absurd (hb.inj hb').2 (by decide))
 refine⟨hM,by rw[List.length_append,List.length_append,h.len,h1.len],fun j hj=>?_,fun j hj=>?_⟩
 ·rw[List.length_append] at hj;rw[BQ,BQ,h.len];by_cases hl:j<xss.length
  ·rw[if_pos hl,if_pos hl];exact hI (h.each j hl)
  ·rw[if_neg hl,if_neg hl];exact hI (h1.each (j-xss.length) (by omega))
 ·rw[List.length_append] at hj;rw[BQ,h.len];by_cases hl:j<xss.length
  ·rw[if_pos hl];exact h.new j hl
  ·rw[if_neg hl];exact fun k hk=>Nat.le_trans hw (h1.new (j-xss.length) (by omega) k hk)
theorem Jf (d:List Nat) (bs:List Tb):∀m l,(je d bs m l).length<=8^m
 | 0,l=>by simp[je]
 | m+1,l=>by
  have ih:=Jf d bs m;have key:∀vs:List Nat,(vs.flatMap (fun v=>if l7 bs (l++[v]) then je d bs m (l++[v]) else [])).length<=vs.length*8^m:=by
   intro vs;induction vs with
   | nil=>simp
   | cons v vs ihv=>
    rw[List.flatMap_cons,List.length_append,List.length_cons,Nat.add_mul,Nat.one_mul];have h1:(if l7 bs (l++[v]) then je d bs m (l++[v]) else []).length<=8^m:=by
     split
     ·exact ih _
     ·simp
    omega
  have h8:(vals (d.getD l.length 0)).length<=8:=Nat.le_trans (List.length_filter_le _ _) (by simp)
  have:=key (vals (d.getD l.length 0))
  show ((vals (d.getD l.length 0)).flatMap _).length<=_
  rw[Nat.pow_succ,Nat.mul_comm];exact Nat.le_trans this (Nat.mul_le_mul_right _ h8)
def qR (d:List Nat) (bs:List Tb) (m:Nat) (l:List Nat):List (List Nat):=if l7 bs l then je d bs m l else []
theorem Ql (d:List Nat) (bs:List Tb) (m:Nat) (l:List Nat):je d bs (m+1) l=(vals (d.getD l.length 0)).flatMap (fun v=>qR d bs m (l++[v])):=rfl
theorem Jg {d:List Nat} {bs:List Tb} {m:Nat} {l:List Nat}:∀(vs:List Nat),(vs.flatMap (fun v=>qR d bs m (l++[v]))).length<=vs.length*8^m
 | []=>by simp
 | v::vs=>by
  have ih:=Jg (d:=d) (bs:=bs) (m:=m) (l:=l) vs;rw[List.flatMap_cons,List.length_append,List.length_cons,Nat.add_mul,Nat.one_mul];have h1:(qR d bs m (l++[v])).length<=8^m:=by
   unfold qR;split
   ·exact Jf d bs m _
   ·simp
  omega
theorem UR {α:Type} (a b:List α) (n:Nat):(a++b).take n=a.take n++b.take (n-(a.take n).length):=by
 rw[List.take_append,List.length_take];congr 2
 omega
def UT (W:World) (lo Y:Nat) (zs:List Int) (R:RS) (d:List Nat) (m:Nat):Prop:=∀(l:List Nat) (lv:Value) (most:Nat) (w:World),l.length+m=zs.length->Nw W w->mF W w lo Y zs R->TD w lv l->(most:Int)<9223372036854775808 ->
 Calls Tryz.prog 51 #[.pointer (some ⟨Y,0,none⟩),lv,.int .i64 (most:Int)] w fun e w'=>∃v vs,e= .returned v/\fK w w' v vs ((qR d (R.ts.map jO.tb) m l).take most)
theorem TD.src {w:World} {lo:Option Addr} {lc:Nat} {l:List Nat} (h:TD w (.slice lo l.length lc) l):(lo=none/\l.length=0/\lc=0)\/∃ad,lo=some ad/\∀(j:Nat) (v:Value),(ints l)[j]? = some v->w.cell? (ad.add j)=some v:=by
 rcases h with ⟨h0,hv⟩ | ⟨b,o,c,hv,hI⟩
 ·subst h0;simp only[Value.slice.injEq] at hv;exact .inl ⟨hv.1,rfl,hv.2.2⟩
 ·simp only[Value.slice.injEq] at hv;refine .inr ⟨⟨b,o,none⟩,hv.1,fun j v hj=>?_⟩
  have hjl:j<l.length:=by
   have:=(List.getElem?_eq_some_iff.1 hj).1
   simpa[ints] using this
  obtain⟨b',o',he,_,hc⟩:=hI j (by rw[iE];exact hjl)
  simp only[Option.some.injEq,Addr.mk.injEq,and_true] at he;obtain⟨rfl,rfl⟩:=he;rw[show (⟨b,o,none⟩:Addr).add j=⟨b,o+j,none⟩ from by by_cases h:j=0 <;> simp[Addr.add,h],hc,Bh]
  simp only[ints,List.getElem?_map,List.getElem?_eq_getElem hjl,Option.map_some,Option.some.injEq] at hj
  rw[<-hj,aN _ _ _ hjl]
theorem fK.src {w0 w:World} {v:Value} {vs:List Value} {xss:List (List Nat)} (h:fK w0 w v vs xss):∀so n sc,v= .slice so n sc->((so=none/\n=0/\sc=0)\/∃ad,so=some ad/\∀j u,vs[j]? = some u->w.cell? (ad.add j)=some u)/\∀u∈vs,u.oneCell'=true:=fun so n sc hv=>by
 refine⟨?_,fun u hu=>?_⟩
 ·rcases h.mine.row.2 with ⟨h1,h0⟩ | ⟨g,cap,cur,h1,_⟩
  ·rw[hv] at h1;simp only[Value.slice.injEq] at h1;exact .inl h1
  ·have hc:=h.mine.row.cells (g:=g) (by rw[h1];rfl)
   rw[hv] at h1;simp only[Value.slice.injEq] at h1;exact .inr ⟨_,h1.1,hc⟩
 ·obtain⟨j,hj,rfl⟩:=List.getElem_of_mem hu;have hr:=h.each j (by rw[<-h.len];exact hj)
  rw[aN _ _ _ hj] at hr;obtain⟨o,c,hf,_⟩:=hr.form;rw[hf];rfl
theorem BR (l:List Nat):(ints l).length=l.length:=by simp[ints]
theorem Jh (l:List Nat):∀u∈ints l,u.oneCell'=true:=fun u hu=>by
 simp only[ints,List.mem_map] at hu;obtain⟨x,_,rfl⟩:=hu;rfl
set_option maxRecDepth 1000000 in
theorem UU (W:World) (lo Y:Nat) (zs:List Int) (R:RS) (d:List Nat) (hd8:∀q,q<zs.length->vals (d.getD q 0)=qH R.now.bss R.now.dead q) (m:Nat) (IH:∀m',m'<m->UT W lo Y zs R d m'):UT W lo Y zs R d m:=by
 intro l lv most w hm hW hR hl agA;obtain⟨i0,hi0,hz0,hz1,hz2⟩:=info_parts Tryz.jU;obtain⟨i1,hi1,I5,hz1b,I7⟩:=info_parts Tryz.xu;obtain⟨nP,lc,hlv,JZ⟩:=hl.form;have hz:=aF hR.dU.lJ;have hl8:l.length<=8:=by omega
 have zA:=hd (Jd W lo Y zs R nP lc l w hW hR hl8 JZ);subst hlv;have HL:=hd hl;have HR:=hd hR;have HW:=hd hW;obtain⟨xW,zx,iU,_⟩:=hR.dU.sz.form;rw[List.length_map] at iU;have ZE:=hd (show ∀w',Nw w w'->w'.cell? ⟨Y,0,none⟩=some (.slice xW zs.length zx) from fun w' f=>by
  have:=(hR.nw f).dU.blk.cell 0
  rw[iU] at this;exact this)
 have Uw:=hR.dU.blk.lt;obtain⟨ft,hft⟩:∃ft,l7 (R.ts.map jO.tb) l=ft:=⟨_,rfl⟩;rw[hft] at zA;have NM:=hz.2;have HIH:=hd IH;have Hd8:=hd hd8;have IL:qR d (R.ts.map jO.tb) m l=if ft then je d (R.ts.map jO.tb) m l else []:=by
  unfold qR;rw[hft]
 have HsF:=hd IL;have Wu:=hd (BR l);have Hm:=hd hm;clear hm hl hR hW iU JZ hft hz IH hd8 IL;cases ft with
 | false=>
  go_enter Tryz.func51,Tryz.ntmps51
  go_wp2_with (go_at_call 78;refine zA.out.mono ?_;rintro e w1 ⟨rfl,hf1⟩;have Hf1:=hd hf1;clear hf1)
  go_ret
  refine⟨.slice none 0 0,[],rfl,?_⟩
  rw[HsF.out];simp only[Bool.false_eq_true,if_false,List.take_nil];exact fK.nil Hf1.out
 | true=>
  by_cases hm0:most=0
  ·subst hm0;go_enter Tryz.func51,Tryz.ntmps51
   go_wp2_with (go_at_call 78;refine zA.out.mono ?_;rintro e w1 ⟨rfl,hf1⟩;have Hf1:=hd hf1;clear hf1)
   go_ret
   refine⟨.slice none 0 0,[],rfl,?_⟩
   rw[List.take_zero];exact fK.nil Hf1.out
  ·have hmp:¬((most:Int)<=0):=by omega
   cases m with
   | zero=>
    have hle:l.length=zs.length:=by have:=Hm.out;omega
    have ag8:((l.length:Int)==(zs.length:Int))=true:=by rw[hle];simp
    clear hle;go_enter Tryz.func51,Tryz.ntmps51
    go_upto_region 6 with (go_at_call 78;refine zA.out.mono ?_;rintro e w1 ⟨rfl,hf1⟩;have x0:=ZE.out w1 hf1;have hYl:=Nat.lt_of_lt_of_le Uw hf1.size;have Hf1:=hd hf1;have Fv:=hd (HL.out.nw hf1).src;clear hf1)
    go_wp2_with (at_builtin;refine kP _ rfl _ _ 22 rfl 3 i0 (.int .i64 0) 8 Tryz.underlying22 hi0 hz0 hz1 hz2 rfl (.slice none 0 0) 0 [] rfl (World.ownsRow_nil _ _ _ _) nP l.length lc (ints l) rfl Wu.out Fv.out (Jh l) (by unfold maxLen;omega) (by omega) ?_;intro v' w2 hown' hgrow hat;obtain⟨hM,hF2⟩:=aar (Mine.nil (Fr.refl (fun _=>False) w1) 3) (ys:=ints l) (n:=0+l.length) (by rw[List.nil_append,Nat.zero_add];exact Wu.out) hown' hgrow hat;rw[List.nil_append] at hM;obtain⟨mo,mc,hmf,_⟩:=hM.row.form;rw[Wu.out] at hmf;subst hmf;have HM:=hd hM;clear hown' hgrow hat hM hF2)
    go_ret
    refine⟨_,[.slice mo l.length mc],rfl,?_⟩
    have e1:(qR d (R.ts.map jO.tb) 0 l).take most=[l]:=by
     rw[HsF.out];obtain⟨k,rfl⟩:∃k,most=k+1:=⟨most-1,by omega⟩
     simp[je]
    rw[e1];have hal:Nw w2 (w2.alloc (.cells #[.slice mo l.length mc] 22)):=(Fr.refl _ w2).alloc _;have hbl:=af.new w2 #[.slice mo l.length mc] 22;have h12:=Hf1.out.trans HM.out.nw (fun _ x=>x.elim)
    refine⟨⟨⟨rfl,.inr ⟨w2.heap.size,1,_,rfl,Nat.zero_le _,hbl,Nat.le_refl _,by unfold maxLen;omega,rfl,rfl⟩⟩,h12.trans hal (fun _ x=>x.elim),fun q hq=>?_⟩,rfl,fun j hj=>?_,fun j hj k hk=>?_⟩
    ·cases hq;exact h12.size
    ·have hj':j<1:=hj;obtain rfl:j=0:=by omega
     exact HM.out.row.nw hal
    ·have hj':j<1:=hj;obtain rfl:j=0:=by omega
     exact Nat.le_trans Hf1.out.size (HM.out.since k hk)
   | succ m=>
    have hne:((l.length:Int)==(zs.length:Int))=false:=by rw[beq_eq_false_iff_ne];have:=Hm.out;omega
    have hlz:l.length<zs.length:=by have:=Hm.out;omega
    have hlz':((l.length:Int) != (zs.length:Int))=true:=by rw[bne_iff_ne];omega
    have HdD:=hd (Hd8.out l.length hlz);obtain⟨D,hD⟩:∃D,qH R.now.bss R.now.dead l.length=D:=⟨_,rfl⟩;have HDl:=hd (show D.length<=6 from by rw[<-hD];exact FK HR.out.dU.b6 l.length (by rw[HR.out.dU.len];exact hlz))
    rw[hD] at HdD;have HD:=hd hD;have acV:qR d (R.ts.map jO.tb) (m+1) l=D.flatMap (fun v=>qR d (R.ts.map jO.tb) m (l++[v])):=by
     rw[HsF.out,if_pos rfl,Ql,HdD.out]
    have aas:=hd acV;have JV:=hd (HIH.out m (by omega))
    clear hD acV hlz;go_enter Tryz.func51,Tryz.ntmps51
    go_wp2_with (first
     | (go_at_call 78;refine zA.out.mono ?_;rintro e w1 ⟨rfl,hf1⟩;have x0:=ZE.out w1 hf1;have hYl:=Nat.lt_of_lt_of_le Uw hf1.size;have Hf1:=hd hf1;have acW:=hd (oU lo Y zs R.az R.now.inv R.now.vs R.now.bss R.now.dead R.tv R.lv l.length w1 (HR.out.nw hf1).dU (by rw[HR.out.dU.len];have:=Hm.out;omega));clear hf1)
     | (go_at_call 54;refine acW.out.mono ?_;rintro e w2 ⟨dv,rfl,hM⟩;have hM':Mine w1 w2 dv 3 (ints D):=(by have:=hM;rw[show (if R.now.dead then [] else eU (R.now.bss.getD l.length []) (R.now.bss.getD l.length []).length)=D from HD.out] at this;exact this);obtain⟨dvo,dvc,hdf,_⟩:=hM'.row.form;rw[BR] at hdf;subst hdf;have zq:=hd hM';clear hM hM'))
    have Wi:=hd (Hf1.out.trans zq.out.nw (fun _ x=>x.elim))
    clear x0 hYl acW;go_loopw [9,11,12] (fun out i _ wr=>∃(k:Nat) (vs:List Value),k<=D.length/\i= .int .i64 (k:Int)/\Hid (fK w2 wr out vs (((D.take k).flatMap (fun v=>qR d (R.ts.map jO.tb) m (l++[v]))).take most))/\Hid (Nw w2 wr)) (fun _ i _ _=>D.length-(intOf i).toNat)
    case atStart=>exact⟨0,[],Nat.zero_le _,rfl,hd (by simpa using fK.nil (Fr.refl (fun _=>False) w2)),Fr.refl _ _⟩
    case round=>
     obtain⟨k,vs,hk,rfl,HS,HN⟩:=hrel;obtain⟨oo,oc,hof,_⟩:=HS.out.mine.row.form;obtain⟨n,hn⟩:∃n,vs.length=n:=⟨_,rfl⟩;rw[hn] at hof;have Hn:=hd hn;subst hof;clear hn;have acX:=HDl.out;by_cases hlt:k<D.length
     ·have hdk:(k:Int)<(D.length:Int):=by omega
      obtain⟨db,ag9,hde,hdo,hdc,_⟩:=(zq.out.row.nw HN.out).cell k (by rw[BR];exact hlt)
      have acY:wr.cell? ⟨db,k,none⟩=some (.int .i64 ((D.getD k 0:Nat):Int)):=by
       rw[hdc];simp only[ints,List.getElem_map];rw[aN _ _ _ hlt]
      have acZ:=(zq.out.row.nw HN.out).lt hdo;simp only[Value.slice.injEq] at hde;obtain⟨rfl,afq,afr⟩:=hde;clear afq afr;obtain⟨v,hv⟩:∃v,D.getD k 0=v:=⟨_,rfl⟩;rw[hv] at acY;have htk:D.take (k+1)=D.take k++[v]:=by rw[List.take_succ_eq_append_getElem hlt,<-hv,aN _ _ _ hlt]
      have Htk:=hd htk;have Fv:=hd (HL.out.nw (Wi.out.trans HN.out (fun _ x=>x.elim))).src
      have hnm:n<=most:=by
       rw[<-Hn.out,HS.out.len,List.length_take];omega
      have hbig:((D.take (k+1)).flatMap (fun v=>qR d (R.ts.map jO.tb) m (l++[v]))).length<=16777216:=by
       refine Nat.le_trans (Jg _) ?_
       have h1:(D.take (k+1)).length<=8:=by rw[List.length_take];have:=HDl.out;omega
       have h2:m<=7:=by have:=Hm.out;omega
       refine Nat.le_trans (Nat.mul_le_mul h1 (Nat.pow_le_pow_right (by decide) h2)) (by decide)
      have Hbig:=hd hbig;clear hdc hdo hv htk hbig;go_wp2_with (first
       | (at_builtin;refine kP _ rfl _ _ 22 rfl 3 i0 (.int .i64 0) 8 Tryz.underlying22 hi0 hz0 hz1 hz2 rfl (.slice none 0 0) 0 [] rfl (World.ownsRow_nil _ _ _ _) nP l.length lc (ints l) rfl Wu.out Fv.out (Jh l) (by unfold maxLen;omega) (by omega) ?_;intro v' w3 hown' hgrow hat;obtain⟨hM,hF2⟩:=aar (Mine.nil (Fr.refl (fun _=>False) wr) 3) (ys:=ints l) (n:=0+l.length) (by rw[List.nil_append,Nat.zero_add];exact Wu.out) hown' hgrow hat;rw[List.nil_append] at hM;obtain⟨mo,mc,hmf,_⟩:=hM.row.form;rw[Wu.out] at hmf;subst hmf;have HM:=hd hM;have y0:=(hM.nw.cell acZ (fun x=>x)).trans acY;have ydl:=Nat.lt_of_lt_of_le acZ hM.nw.size;clear hown' hgrow hat hM hF2)
       | (at_builtin;refine wpList_append_own_at _ rfl _ _ 22 rfl 0 3 i0 (.int .i64 0) 1 8 Tryz.underlying22 hi0 hz0 hz1 hz2 rfl (by decide) (.slice mo l.length mc) l.length (ints l) rfl (by have:=HM.out.row.alloc (.cells #[.int .i64 (v:Int)] 3);unfold Row at this;rw[Wu.out] at this;exact this) ⟨w3.heap.size,0,none⟩ 1 1 [.int .i64 (v:Int)] rfl rfl (cell_one_new _ _ _) (by simp[Value.oneCell']) (by unfold maxLen;omega) (by omega) (Nat.zero_le _) ?_;intro v' w4 hown' hgrow _ hat;obtain⟨g4,cap4,rfl,hr4,hf4,ha4,hlt4⟩:=YP Wu.out hown' hgrow hat;have ac0:Row w4 (.slice (some ⟨g4,0,none⟩) (l.length+1) cap4) 3 ((jc (l++[v])).map (Value.int .i64)):=(by rw[show (jc (l++[v])).map (Value.int .i64)=ints l++[.int .i64 (v:Int)] from by simp[jc,ints]];exact hr4);have HL4:=hd ac0.lat;have TU:=hd (HM.out.nw.trans hf4 (fun i hi=>.inr (HM.out.since i hi)));clear hown' hgrow hat hr4 ac0 hf4 ha4 hlt4;have aK:=hd (JV.out (l++[v]) (.slice (some ⟨g4,0,none⟩) (l.length+1) cap4) (most-n) w4 (by rw[List.length_append];have:=Hm.out;have e:[v].length=1:=rfl;omega) (HW.out.trans ((Wi.out.trans HN.out (fun _ x=>x.elim)).trans TU.out (fun _ x=>x.elim)) (fun _ x=>x.elim)) (HR.out.nw ((Wi.out.trans HN.out (fun _ x=>x.elim)).trans TU.out (fun _ x=>x.elim))) HL4.out (by omega));rw[show ((most-n:Nat):Int)=(most:Int)-(n:Int) from by omega] at aK)
       | (go_at_call 51;refine aK.out.mono ?_;rintro e w5 ⟨v5,vs5,rfl,hS5⟩;obtain⟨so5,sc5,ac1,_⟩:=hS5.mine.row.form;have H54:=hd (hS5.src so5 vs5.length sc5 ac1);subst ac1;have HS5:=hd hS5;clear hS5;have HS0:=hd (HS.out.fr ((TU.out.trans HS5.out.mine.nw (fun _ x=>x.elim))) (HS.out.mine.nw.trans (TU.out.trans HS5.out.mine.nw (fun _ x=>x.elim)) (fun _ x=>x.elim)) (fun _ _ _ _ _ x=>x));have Wv:=hd HS0.out.mine.row;have ac2:=hd (show ((D.take (k+1)).flatMap (fun v=>qR d (R.ts.map jO.tb) m (l++[v]))).take most=((D.take k).flatMap (fun v=>qR d (R.ts.map jO.tb) m (l++[v]))).take most++(qR d (R.ts.map jO.tb) m (l++[v])).take (most-n) from by rw[Htk.out,List.flatMap_append,UR,<-HS.out.len,Hn.out];simp);have Hnb:=hd (show n+vs5.length<=16777216 from by have e:=congrArg List.length ac2.out;rw[List.length_append] at e;have h1:=Hbig.out;have h2:=List.length_take_le' most ((D.take (k+1)).flatMap (fun v=>qR d (R.ts.map jO.tb) m (l++[v])));have h3:=HS5.out.len;have h4:=HS.out.len;have h5:=Hn.out;omega))
       | (at_builtin;refine kP _ rfl _ _ 26 rfl 22 i1 (.slice none 0 0) 24 Tryz.underlying26 hi1 I5 hz1b I7 rfl (.slice oo n oc) n vs rfl (by have:=Wv.out;unfold Row at this;rw[Hn.out] at this;exact this) so5 vs5.length sc5 vs5 rfl rfl H54.out.1 H54.out.2 (by have:=Hnb.out;unfold maxLen;omega) (by have:=Hnb.out;omega) ?_;intro v' w6 hown' hgrow hat;obtain⟨hM6,hF6⟩:=aar (HS0.out.mine) (ys:=vs5) (n:=n+vs5.length) (by rw[List.length_append,Hn.out]) hown' hgrow hat;obtain⟨mo6,mc6,afs,_⟩:=hM6.row.form;subst afs;have HM6:=hd hM6;have HF6:=hd hF6;clear hown' hgrow hat hM6 hF6))
      refine⟨⟨k+1,vs++vs5,by omega,by simp,hd ?_,hd HM6.out.nw⟩,by simp[intOf];omega⟩
      rw[ac2.out];have:=HS0.out.app HS5.out (HS.out.mine.nw.trans TU.out (fun _ x=>x.elim)).size HM6.out HF6.out
      rw[List.length_append] at this;exact this
     ·obtain rfl:D.length=k:=by omega
      have hdk:¬((D.length:Int)<(D.length:Int)):=by omega
      go_wp2_with fail
      go_ret
      refine⟨_,rfl,vs,?_⟩
      have:=HS.out
      rw[List.take_length,<-aas.out] at this;exact this.lower Wi.out
theorem BU (W:World) (lo Y:Nat) (zs:List Int) (R:RS) (d:List Nat) (hd8:∀q,q<zs.length->vals (d.getD q 0)=qH R.now.bss R.now.dead q) (m:Nat):UT W lo Y zs R d m:=Nat.strongRecOn m (UU W lo Y zs R d hd8)
end Go.Proofs.YtkjfpdfkcfgfkaaGreat
namespace Go.Proofs.YtkjfpdfkcfgfkaaGreat
open Go.RowKit Go.Shelf
attribute [local go_sem] Oper.semAt_some
theorem UW (n s l:Nat) (hs:s<256) (J Jx:List Nat->World->Prop) (W:World) (h0:J [] W)
  (hY:∀(pre:List Nat) (v:Nat) (W1:World),J pre W1->(pre++[v]) <+: vals s->YieldAt Fence.wide (n-1) Tryz.prog l #[.int .i64 (v:Int)] W1 fun e W'=>(e= .returned (.bool true)/\J (pre++[v]) W')\/(e= .returned (.bool false)/\Jx (pre++[v]) W')):
  CallsIn Fence.wide n Tryz.prog 49 #[.int .u8 s,.func (.yield l) #[] #[]] W fun e W'=>(∃v,e= .returned v)/\(J (vals s) W'\/∃pre v,(pre++[v]) <+: vals s/\Jx (pre++[v]) W'):=by
 refine callsIn_of_wp Tryz.func49 rfl trivial ?_ rfl
 simp only[Tryz.ntmps49,List.size_toArray,List.length_cons,List.length_nil,Nat.reduceAdd,Nat.reduceSub,Array.replicate_succ,Array.replicate_zero,List.push_toArray,List.append_toArray,List.nil_append,List.cons_append];gi_wp2
 gi_loopw [4] (fun p wr=>∃(pre:List Nat) (r:Nat),p= .int .u8 r/\r<256/\Hid (pre++vals r=vals s)/\J pre wr) (fun p _=>(intOf p).toNat)
 case atStart=>exact⟨[],s,rfl,hs,rfl,h0⟩
 case round=>
  obtain⟨pre,r,rfl,hr,HP,hJ⟩:=hrel;by_cases hr0:r=0
  ·subst hr0;gi_wp2
   go_end0
   exact⟨⟨_,rfl⟩,.inl (by have:=HP.out;rw[sJ,List.append_nil] at this;rw[<-this];exact hJ)⟩
  ·obtain⟨hv1,hv2,hv3⟩:=DK r hr hr0;have hpos:(0:Int)<(r:Int):=by omega
   have hr1:((r:Int) != 0)=true:=by simp;omega
   have hpre:(pre++[tz r]) <+: vals s:=⟨vals (r &&& (r-1)),by rw[<-HP.out,hv1];simp⟩
   obtain⟨fn,tmps,assign,body,hy,hR⟩:=hY pre (tz r) wr hJ hpre;have HV:=hd hv1;clear hv1;gi_wp2_with fail
   refine⟨trivial,(fun h=>by cases h),?_⟩
   refine(callsIn_wide.2 (Rx r _ hr)).mono ?_
   rintro e w' ⟨rfl,rfl⟩
   gi_wp2_with fail
   refine⟨(fun h=>by cases h),?_⟩
   refine hR.mono ?_
   rintro e W3 (⟨rfl,hJ3⟩ | ⟨rfl,hJ3⟩)
   ·gi_wp2
    have e1:bits .and .u8 (r:Int) ((r:Int)-1)=((r &&& (r-1):Nat):Int):=by
     have:=u8_and_nat r (r-1) (by omega) (by omega)
     rw[<-this,show (((r-1:Nat):Int))=(r:Int)-1 from by omega]
    rw[e1];refine⟨⟨pre++[tz r],r &&& (r-1),rfl,by omega,?_,hJ3⟩,by simp[intOf];omega⟩
    show _=_
    rw[<-HP.out,HV.out];simp
   ·gi_wp2
    exact bodyPost_ret (v:=.tuple #[]) (results_none rfl _ _ _) rfl ⟨⟨_,rfl⟩,.inr ⟨pre,tz r,hpre,hJ3⟩⟩
structure lQ (lo:Nat) (W W':World):Prop where
 size:W.heap.size<=W'.heap.size
 same:∀(k:Nat) (o:Obj),lo<=k->W.heap[k]? = some o->kV o=true->W'.heap[k]? = some o
theorem Fr.Ad {S:Nat->Prop} {A B:World} {lo:Nat} (h:Fr S A B) (hs:∀k,S k->k<lo\/∃cur e,af A k cur e):lQ lo A B:=
 ⟨h.size,fun k o hlo ho hc=>(h.block k (lt_of_block ho) (fun hk=>by
  rcases hs k hk with h1 | ⟨cur,e,hb⟩
  ·omega
  ·have h':A.heap[k]? = some (.cells cur e (0,0)):=hb
   rw[h'] at ho;cases ho;cases hc)).trans ho⟩
def Qm (lo:Nat) (I Ix:World->Prop) (W:World):Exit->Act->World->Prop
 | .normal,_,W'=>lQ lo W W'/\I W'
 | .ret,_,W'=>lQ lo W W'/\Ix W'
 | _,_,_=>False
theorem UX {n s:Nat} (hs:s<256) {g:Operand} {t d:Tmp} {Ym:Nat} {ty:TypeId} {pos:String} {body:Code} {Q:Exit->Act->World->Prop} {a:Act} {w:World}
  (hg:a.eval g= .func (.func 49) #[.int .u8 s] #[]) (ht:t<a.tmps.size) (I Ix:List Nat->World->Prop) (hI:∀pre A B,I pre A->Bk w.heap.size A B->I pre B) (hIx:∀pre A B,Ix pre A->Bk w.heap.size A B->Ix pre B) (h0:I [] w)
  (pY:∀(l:Nat) (pre:List Nat) (v:Nat) (W:World),(pre++[v]) <+: vals s->I pre W ->
   body.wpIn (Fence.wide.inRound l) (n-1-1) Tryz.prog (Qm w.heap.size (I (pre++[v])) (Ix (pre++[v])) W) {tmps:=(a.tmps.setIfInBounds t (.int .i64 (v:Int))).setIfInBounds d (.int .i64 (v:Int)),defers:=[]} W)
  (hdone:∀(D:Nat) (W:World),w.heap.size<=D->I (vals s) W->W.heap[D]? = some (.deferred (some []))->Q .normal {a with defers:=mark D::a.defers} W)
  (hstop:∀(D:Nat) (pre:List Nat) (v:Nat) (W:World),w.heap.size<=D->(pre++[v]) <+: vals s->Ix (pre++[v]) W->W.heap[D]? = some (.deferred (some []))->Code.ret.wpIn Fence.wide n Tryz.prog Q {a with defers:=mark D::a.defers} W):
  (Code.rangeFunc g #[t] (Code.region Ym #[{dst:=some d,op:=.assign (.tmp t),type:=ty,pos:=pos,after:=#[],guard:=none}] false) body).wpIn Fence.wide n Tryz.prog Q a w:=by
 generalize hA:Code.region Ym #[{dst:=some d,op:=Op.assign (.tmp t),type:=ty,pos:=pos,after:=#[],guard:=none}] false=assign
 have hassign:∀(l:Nat) (v:Nat) (W:World) (K:Act->World->Prop),K {tmps:=(a.tmps.setIfInBounds t (.int .i64 (v:Int))).setIfInBounds d (.int .i64 (v:Int)),defers:=[]} W ->
   assign.wpIn (Fence.wide.inRound l) (n-1-1) Tryz.prog (Exit.then K (fun _ _ _=>False)) {tmps:=a.tmps.setIfInBounds t (.int .i64 (v:Int)),defers:=[]} W:=by
  intro l v W K hK;subst hA;have hget:(a.tmps.setIfInBounds t (Value.int .i64 (v:Int))).getD t undef= .int .i64 (v:Int):=by
   simp[ht]
  gi_wp2
  exact hK
 refine wpIn_rangeFunc ?_
 intro fn hfn;obtain⟨rec,hrec⟩:∃rec:LoopState->Option Code->Loop,rec=fun st pe=>{state:=st,pending:=pe,fn,tmps:=a.tmps,params:=#[t],assign,body,defers:=w.heap.size}:=⟨_,rfl⟩
 obtain⟨W1,hW1⟩:∃W1,(w.alloc (.deferred (some []))).alloc (.loop (rec .ready none))=W1:=⟨_,rfl⟩;have hL1:W1.heap[w.heap.size+1]? = some (.loop (rec .ready none)):=by
  rw[<-hW1];have:=heap_alloc_new (w.alloc (.deferred (some []))) (.loop (rec .ready none))
  simpa using this
 have hK1:W1.heap[w.heap.size]? = some (.deferred (some [])):=by
  rw[<-hW1];exact(Below.heap_alloc _ _ _ (by simp)).trans (heap_alloc_new w _)
 have hI1:I [] W1:=by rw[<-hW1];exact hI _ _ _ (hI _ _ _ h0 (Bk.alloc _ _ _)) (Bk.alloc _ _ _)
 refine⟨w.heap.size+1,[mark w.heap.size],W1,{target:=.fn (.func 49) #[],args:=#[.int .u8 s,.func (.yield (w.heap.size+1)) #[] #[]]},W1,49,
  #[.int .u8 s,.func (.yield (w.heap.size+1)) #[] #[]],W1,?_,?_,?_,?_,(fun h=>by cases h),?_⟩
 ·rw[<-hW1,hrec];exact run_enterLoop_outer _ _ _ _ _
 ·simp only[resolve,hg];simp[go_sem]
 ·intro f' _;trivial
 ·simp[invoke,go_sem]
 ·refine(UW (n-1) s (w.heap.size+1) hs
   (fun pre W=>I pre W/\W.heap[w.heap.size+1]? = some (.loop (rec .ready none))/\W.heap[w.heap.size]? = some (.deferred (some [])))
   (fun pre W=>Ix pre W/\W.heap[w.heap.size+1]? = some (.loop (rec .done (some .ret)))/\W.heap[w.heap.size]? = some (.deferred (some []))) W1 ⟨hI1,hL1,hK1⟩ ?_).mono ?_
  ·rintro pre v W ⟨hi,hl,hk⟩ hpre
   have hlt:w.heap.size+1<W.heap.size:=(Array.getElem?_eq_some_iff.1 hl).1
   have hy:=run_yield (P:=Tryz.prog) (args:=#[.int .i64 (v:Int)]) hl (by rw[hrec];rfl)
   rw[hrec] at hy;dsimp only at hy
   have hfold:((#[t]:Array Tmp).zip #[Value.int .i64 (v:Int)]).foldl (fun tmps (x:Tmp×Value)=>match x with | (t,a)=>tmps.setIfInBounds t a) a.tmps=a.tmps.setIfInBounds t (.int .i64 (v:Int)):=by simp
   rw[hfold] at hy;have hl2:(W.putObj (w.heap.size+1) (.loop {rec .ready none with state:=.busy})).heap[w.heap.size+1]? = some (.loop {rec .ready none with state:=.busy}):=World.putObj_heap_same hlt
   have hk2:(W.putObj (w.heap.size+1) (.loop {rec .ready none with state:=.busy})).heap[w.heap.size]? = some (.deferred (some [])):=(World.putObj_heap_other (by omega)).trans hk
   have hbody:=pY (w.heap.size+1) pre v _ hpre (hI _ _ _ hi (Bk.put (.loop {rec .ready none with state:=.busy}) (by omega) hl rfl))
   refine⟨fn,_,assign,body,hy,roundIn_of_wpIn hfn ?_⟩
   refine hassign _ v W _ ?_
   refine⟨_,run_beginRound hl (by rw[hrec]),?_⟩
   refine wpIn_mono hbody ?_
   rintro e a3 W3 hp
   cases e with
   | normal=>
    obtain⟨hk3,hi3⟩:=hp;have hl3:=hk3.same _ _ (by omega) hl2 rfl
    have hend:=run_endRound (P:=Tryz.prog) none hl3;refine⟨_,_,hend,.inl ⟨rfl,hI _ _ _ hi3 (Bk.put _ (by omega) hl3 rfl),?_,(World.putObj_heap_other (by omega)).trans (hk3.same _ _ (by omega) hk2 rfl)⟩⟩
    rw[World.putObj_heap_same (Array.getElem?_eq_some_iff.1 hl3).1,hrec]
    rfl
   | ret=>
    obtain⟨hk3,hi3⟩:=hp;have hl3:=hk3.same _ _ (by omega) hl2 rfl
    have hend:=run_endRound (P:=Tryz.prog) (some .ret) hl3;refine⟨_,_,hend,.inr ⟨rfl,hIx _ _ _ hi3 (Bk.put _ (by omega) hl3 rfl),?_,(World.putObj_heap_other (by omega)).trans (hk3.same _ _ (by omega) hk2 rfl)⟩⟩
    rw[World.putObj_heap_same (Array.getElem?_eq_some_iff.1 hl3).1,hrec]
    rfl
   | exit id=>exact hp.elim
   | goto t=>exact hp.elim
   | panic ch=>exact hp.elim
   | outgrown=>exact hp.elim
  ·rintro e W2 ⟨⟨v,rfl⟩,hcase⟩
   rcases hcase with ⟨hi,hl,hk⟩ | ⟨pre,x,hpre,hi,hl,hk⟩
   ·refine⟨none,_,?_,hdone w.heap.size _ (Nat.le_refl _) (hI _ _ _ hi (Bk.put (.loop {rec .ready none with state:=.exhausted}) (by omega) hl rfl)) ((World.putObj_heap_other (by omega)).trans hk)⟩
    have:=run_endLoop (P:=Tryz.prog) hl (by rw[hrec];simp)
    rw[hrec] at this ⊢;exact this
   ·refine⟨some .ret,_,?_,hstop w.heap.size pre x _ (Nat.le_refl _) hpre (hIx _ _ _ hi (Bk.put (.loop {rec .done (some .ret) with state:=.exhausted}) (by omega) hl rfl)) ((World.putObj_heap_other (by omega)).trans hk)⟩
    have:=run_endLoop (P:=Tryz.prog) hl (by rw[hrec];simp)
    rw[hrec] at this ⊢;exact this
end Go.Proofs.YtkjfpdfkcfgfkaaGreat
namespace Go.Proofs.YtkjfpdfkcfgfkaaGreat
open Go.RowKit Go.Shelf
section
variable {P:Program} {Q:Exit->Act->World->Prop} {S:World->Prop} {ops:Array Oper}
theorem MF {ops':Array Oper} {id lp k:Nat} {a:Act} {w:World} (ops:Array Oper) (n:Nat) (S:World->Prop) (z:Nat) (ho:ops'=ops) (hn:ops.size=n) (hnd:sO ops.toList=true) (hQ:∀a w,¬Q .outgrown a w)
  (h:gK Tryz.prog .any ops Q S z n (Array.replicate n false) a w.drew):(Code.region id ops' true).wpIn (Fence.wide.inRound lp) k Tryz.prog Q a w:=by
 subst ho;subst hn;have:=Zv (l:=ops'.toList) (id:=id) (lp:=lp) (k:=k) (S:=S) (a:=a) (w:=w) z hnd hQ (by simpa using h)
 simpa using this
theorem MG {ops':Array Oper} {id lp k:Nat} {a:Act} {w:World} (ops:Array Oper) (n:Nat) (S:World->Prop) (ho:ops'=ops) (hn:ops.size=n) (hnd:sO ops.toList=true) (hQ:∀a w,¬Q .outgrown a w)
  (h:wpAnyH Tryz.prog .any ops Q S n (Array.replicate n false) a w.drew):(Code.region id ops' true).wpIn (Fence.wide.inRound lp) k Tryz.prog Q a w:=by
 subst ho;subst hn;have:=EW (l:=ops'.toList) (id:=id) (lp:=lp) (k:=k) (S:=S) (a:=a) (w:=w) hnd hQ (by simpa using h)
 simpa using this
theorem Ey {ops':Array Oper} {id:Nat} {a:Act} {w:World} (ops:Array Oper) (n:Nat) (S:World->Prop) (z:Nat) (ho:ops'=ops) (hn:ops.size=n) (hm:P.follows .mixedOrders=true)
  (h:gK P .any ops Q S z n (Array.replicate n false) a w.drew):(Code.region id ops' true).wp P Q a w:=by
 subst ho;subst hn;exact vY z hm h
def UY (ops:Array Oper) (listed:Array Bool) (z i:Nat) (d:Option Tmp):Bool:=takeB ops listed i d&&Region.waitsFor .any ops z i
theorem bJ {z i:Nat} {d:Option Tmp} {v:Value} {fuel:Nat} {listed:Array Bool} {a:Act} {w:World} (hB:UY ops listed z i d=true) (hw:Region.wanted (opAt ops i) (yielded ops a.tmps)=true)
  (hQ:∀c a w,Q (.panic c) (a.put d v) w->Q (.panic c) a w) (hy:∀w,S w->(execOp a.eval (opAt ops i)).run P w= .ok (.value v) w) (hS:S w)
  (h:gK P .any ops Q S z fuel (listed.setIfInBounds i true) (a.put d v) w):gK P .any ops Q S z (fuel+1) listed a w:=by
 simp only[UY,takeB,Bool.and_eq_true,decide_eq_true_eq] at hB;obtain⟨⟨⟨⟨⟨h1,h2⟩,h3⟩,h4⟩,h5⟩,h6⟩:=hB;subst h5;exact bH (i:=i) (oi:=opAt ops i) (v:=v) h6 (jK h4) h1 h2 h3 hQ (.inl ⟨hw,hy⟩) hS h
theorem gI {z i:Nat} {d:Option Tmp} {fuel:Nat} {listed:Array Bool} {a:Act} {w w':World} {v:Value} (hB:pM ops listed i d=true) (hw:Region.wanted (opAt ops i) (yielded ops a.tmps)=true)
  (hr:(execOp a.eval (opAt ops i)).run P w= .ok (.value v) w') (hS:i≠z->S w') (h:gK P .any ops Q S z fuel (listed.setIfInBounds i true) (a.put d v) w'):gK P .any ops Q S z (fuel+1) listed a w:=by
 simp only[pM,Bool.and_eq_true,decide_eq_true_eq] at hB;obtain⟨⟨h3,h4⟩,h5⟩:=hB;subst h5;exact fF h3 (aA (jK h4) hw hr ⟨hS,h⟩)
theorem BV {z i:Nat} {d:Option Tmp} {fuel:Nat} {listed:Array Bool} {a:Act} {w w':World} (hB:pM ops listed i d=true) (hw:Region.wanted (opAt ops i) (yielded ops a.tmps)=true)
  (hr:(execOp a.eval (opAt ops i)).run P w= .ok .skip w') (hS:i≠z->S w') (h:gK P .any ops Q S z fuel (listed.setIfInBounds i true) (a.put d undef) w'):gK P .any ops Q S z (fuel+1) listed a w:=by
 simp only[pM,Bool.and_eq_true,decide_eq_true_eq] at hB;obtain⟨⟨h3,h4⟩,h5⟩:=hB;subst h5;exact fF h3 (dw (jK h4) hw hr ⟨hS,h⟩)
end
theorem jC {ev:Operand->Value} {o:Oper} {w:World} {b off:Nat} {v old:Value} (t:TypeId) (x y:Operand) (ho:o.op= .store t x y) (hx:ev x= .pointer (some ⟨b,off,none⟩)) (hy:ev y=v) (h1:v.oneCell'=true) (hsz:(sizeOf t).run Tryz.prog w= .ok 1 w) (hc:w.cell? ⟨b,off,none⟩=some old) (hf:w.frozen? ⟨b,off,none⟩=false):
  (execOp ev o).run Tryz.prog w= .ok .skip (w.setCell ⟨b,off,none⟩ v):=by
 have hs:(Sem.store Mode.plain (⟨b,off,none⟩:Addr) v (.pure ())).run Tryz.prog w= .ok () (w.setCell ⟨b,off,none⟩ v):=by
  cases v <;> first
   | (simp[Value.oneCell'] at h1;done)
   | (unfold Sem.run;simp[hc,hf,Sem.run])
 have h1c:v.cells=#[v]:=by cases v <;> first | rfl | (simp[Value.oneCell'] at h1;done)
 unfold execOp;simp[ho,hx,hy,Instr.storeAt,Instr.sureAddr,storeVar,h1c,hsz,storeCells,Addr.add,store,hs,Result.andThen]
theorem Ji {m m' l:Nat} {args:Array Value} {W:World} {R:Ending->World->Prop} (h:YieldAt Fence.wide m Tryz.prog l args W R):YieldAt Fence.wide m' Tryz.prog l args W R:=by
 obtain⟨fn,tmps,assign,body,hy,h1,h2⟩:=h;exact⟨fn,tmps,assign,body,hy,h1,fun c cs _=>h2 c cs (room_wide _)⟩
end Go.Proofs.YtkjfpdfkcfgfkaaGreat
namespace Go.Proofs.YtkjfpdfkcfgfkaaGreat
open Go.RowKit Go.Shelf
def uV (w:World) (k:Nat):Option TypeId:=match w.heap[k]? with
 | some (.cells _ t (0,0))=>some t
 | _=>none
theorem af.uV {w:World} {k:Nat} {cur:Array Value} {e:TypeId} (h:af w k cur e):uV w k=some e:=by
 have h':w.heap[k]? = some (.cells cur e (0,0)):=h
 unfold Go.Proofs.YtkjfpdfkcfgfkaaGreat.uV;rw[h'];rfl
theorem UZ {w:World} {k:Nat} {e:TypeId} (h:uV w k=some e):∃cur,af w k cur e:=by
 unfold uV at h;split at h
 ·rename_i cur t he;cases h;exact⟨cur,he⟩
 ·cases h
theorem Only.YR {w:World} {S:Nat->Prop} {e:TypeId} (h:∀k cur,S k->¬af w k cur e):∃es,Only w S es/\e∉es:=by
 classical
 refine⟨(List.range w.heap.size).filterMap (fun k=>if S k then uV w k else Option.none),?_,?_⟩
 ·intro k cur t hk hb;exact List.mem_filterMap.2 ⟨k,List.mem_range.2 hb.lt,by rw[if_pos hk];exact hb.uV⟩
 ·intro hm;obtain⟨k,_,hk⟩:=List.mem_filterMap.1 hm;by_cases hs:S k
  ·rw[if_pos hs] at hk;obtain⟨cur,hb⟩:=UZ hk;exact h k cur hs hb
  ·rw[if_neg hs] at hk;cases hk
theorem iM.Ro {S:Nat->Prop} {w w':World} {X:Nat} {zs:List Int} {s:WS} (h:iM w X zs s) (f:Fr S w w') (hn:∀k,s.own X k->¬S k) (ho:∀k cur,S k->¬af w k cur 151):iM w' X zs s:=by
 obtain⟨es,h1,h2⟩:=Only.YR ho;exact h.fr f hn h1 h2
section
variable {n:Nat} {P:Program} {ops:Array Oper} {Q:Exit->Act->World->Prop} {md:Region.Mode} {S:World->Prop}
theorem qQ {i:Nat} {o:Oper} {v:Value} {a:Act} (hi:ops[i]? = some o) (hy:YieldsIf P ops S o v a)
  {K:Act->World->Prop} {w:World} (hS:S w) (h:K (a.put o.dst v) w):wpOpIn Fence.wide n P ops Q i K a w:=by
 unfold Go.wpOpIn;simp only[hi];rcases hy with ⟨hw,hv⟩ | ⟨hw,rfl⟩
 ·simp only[hw,if_true,Oper.wpIn,show Fence.wide.round=none from rfl,Oper.semAt_none,hv w hS,Oper.uponIn];exact⟨fun _ _=>trivial,h⟩
 ·simp only[hw,Bool.false_eq_true,if_false];exact⟨fun _ _=>trivial,h⟩
theorem FV {j:Nat} {oi oj:Oper} {v:Value} (hj:ops[j]? = some oj) (hap:oi.apart ops oj=true)
  (hsi:∀cs b,oi.op≠.select cs b) (hsj:∀cs b,oj.op≠.select cs b)
  (hQ:∀c a w,Q (.panic c) (a.put oi.dst v) w->Q (.panic c) a w) {K:Act->World->Prop} {a:Act} {w:World}
  (hy:YieldsIf P ops S oi v a) (h:wpOpIn Fence.wide n P ops Q j K (a.put oi.dst v) w):
  wpOpIn Fence.wide n P ops Q j (fun a' w'=>YieldsIf P ops S oi v a'/\K (a'.put oi.dst v) w') a w:=by
 obtain⟨h1,h2,h3⟩:=Oper.apart_spec hap;have keep:∀(a:Act),YieldsIf P ops S oi v a->∀u,YieldsIf P ops S oi v (a.put oj.dst u):=fun a hy u=>
  hy.of_same (execOp_put oi hsi a oj.dst u h3) (wanted_put oi a oj.dst u h3)
 have keepD:∀d,YieldsIf P ops S oi v {a with defers:=d::a.defers}:=fun d=>hy.of_same rfl rfl
 unfold wpOpIn at *;simp only[hj] at *;rw[wanted_put oj a oi.dst v h1,about_put oj w a oi.dst v h1] at h;split
 ·rename_i hw;simp only[hw,if_true] at h;unfold Oper.wpIn at *;rw[about_put oj w a oi.dst v h1] at h;refine⟨h.1,?_⟩
  have h:=h.2;rw[show Fence.wide.round=none from rfl,Oper.semAt_none,execOp_put oj hsj a oi.dst v h1] at h
  rw[show Fence.wide.round=none from rfl,Oper.semAt_none]
  generalize (execOp a.eval oj).run P w=r at *
  cases r with
  | ok x w'=>
   cases x <;> simp only[Oper.uponIn] at h ⊢
   case value u=>exact⟨keep a hy u,by rw[<-Act.put_comm a v u h2];exact h⟩
   case skip=>exact⟨keep a hy _,by rw[<-Act.put_comm a v undef h2];exact h⟩
   case defer d=>
    refine⟨keep _ (keepD d) _,?_⟩
    rw[<-Act.put_comm _ v undef h2,<-Act.put_defers];exact h
   case enter f args=>
    refine⟨h.1,CallsIn.mono h.2 fun e w'' he=>?_⟩
    cases e with
    | returned u=>exact⟨keep a hy u,by rw[<-Act.put_comm a v u h2];exact he⟩
    | panicked c=>exact hQ _ _ _ he
    | outgrown=>exact he
   case row row args=>exact⟨h.1,RowsIn.mono h.2 fun u w'' he=>⟨keep a hy u,by rw[<-Act.put_comm a v u h2];exact he⟩⟩
   case round l f tmps assign body=>
    refine⟨h.1,RoundIn.mono h.2 fun e w'' he=>?_⟩
    cases e with
    | returned u=>exact⟨keep a hy u,by rw[<-Act.put_comm a v u h2];exact he⟩
    | panicked c=>exact hQ _ _ _ he
    | outgrown=>exact he
  | halt x w'=>
   cases x <;> simp only[Oper.uponIn] at h ⊢
   case panic u=>exact hQ _ _ _ h
 ·rename_i hw;simp only[hw] at h;exact⟨h.1,keep a hy _,by rw[<-Act.put_comm a v undef h2];exact h.2⟩
def jR (n:Nat) (P:Program) (md:Region.Mode) (ops:Array Oper) (Q:Exit->Act->World->Prop) (S:World->Prop):Nat->Array Bool->Act->World->Prop
 | 0,listed,a,w=>Region.ready md ops listed=[]/\Q .normal a w
 | fuel+1,listed,a,w=>(Region.ready md ops listed=[]->Q .normal a w) /\
  ∀i∈Region.ready md ops listed,wpOpIn Fence.wide n P ops Q i (fun a' w'=>S w'/\jR n P md ops Q S fuel (listed.setIfInBounds i true) a' w') a w
theorem BX:∀(fuel:Nat) (listed:Array Bool) (a:Act) (w:World),jR n P md ops Q S fuel listed a w->wpAnyIn Fence.wide n P md ops Q fuel listed a w
 | 0,_,_,_,h=>h
 | fuel+1,_,_,_,h=>⟨h.1,fun i hi=>wpOpIn_mono (fun a' w' h'=>BX fuel _ a' w' h'.2) (h.2 i hi)⟩
theorem FW {i:Nat} {oi:Oper} {v:Value} (hi:ops[i]? = some oi) (hsel:∀(j:Nat) (o:Oper) cs b,ops[j]? = some o->o.op≠.select cs b)
  (hQ:∀c a w,Q (.panic c) (a.put oi.dst v) w->Q (.panic c) a w):
  ∀(fuel:Nat) (listed:Array Bool) (a:Act) (w:World),
   (∀j oj,ops[j]? = some oj->j≠i->listed.getD j true=false->(∀e∈oj.after,Region.binds md e=true->e.on≠i)->oi.apart ops oj=true) ->
   i∈Region.ready md ops listed->YieldsIf P ops S oi v a->S w ->
   jR n P md ops Q S fuel (listed.setIfInBounds i true) (a.put oi.dst v) w->jR n P md ops Q S (fuel+1) listed a w:=by
 intro fuel;induction fuel with
 | zero=>
  intro listed a w _ hr hy hS H;refine⟨fun h=>(by rw[h] at hr;cases hr),fun j hj=>?_⟩
  by_cases hji:j=i
  ·subst hji;exact qQ hi hy hS ⟨hS,H⟩
  ·have:=ready_mono hj hji
   rw[H.1] at this;cases this
 | succ fuel ih=>
  intro listed a w hfree hr hy hS H;refine⟨fun h=>(by rw[h] at hr;cases hr),fun j hj=>?_⟩
  by_cases hji:j=i
  ·subst hji;exact qQ hi hy hS ⟨hS,H⟩
  ·have h1:=H.2 j (ready_mono hj hji);obtain⟨hjun,oj,hoj,hall⟩:=mem_ready.1 hj;have hnot:∀e∈oj.after,Region.binds md e=true->e.on≠i:=fun e he hb heq=>by
    have h1:=hall e he hb;have h0:=(mem_ready.1 hr).1;rw[heq] at h1;rcases Nat.lt_or_ge i listed.size with h' | h'
    ·simp[h'] at h0 h1;rw[h0] at h1;cases h1
    ·simp[Array.getElem?_eq_none h'] at h1
   have h2:=FV hoj (hfree j oj hoj hji hjun hnot) (fun cs b=>hsel i oi cs b hi) (fun cs b=>hsel j oj cs b hoj) hQ hy h1
   have hfree':∀k ok,ops[k]? = some ok->k≠i->(listed.setIfInBounds j true).getD k true=false ->
     (∀e∈ok.after,Region.binds md e=true->e.on≠i)->oi.apart ops ok=true:=fun k ok hk hki hun hno=>by
    refine hfree k ok hk hki ?_ hno
    by_cases hjk:j=k
    ·subst hjk;exact hjun
    ·rw[getD_set_ne true hjk] at hun;exact hun
   refine wpOpIn_mono (fun a' w' h3=>⟨h3.2.1,ih (listed.setIfInBounds j true) a' w' hfree' (ready_mono hr (Ne.symm hji)) h3.1 h3.2.1 ?_⟩) h2
   rw[Array.setIfInBounds_comm _ _ hji];exact h3.2.2
theorem xw {ops':Array Oper} {id k:Nat} {a:Act} {w:World} (ops:Array Oper) (n:Nat) (S:World->Prop) (ho:ops'=ops) (hn:ops.size=n) (hm:P.follows .mixedOrders=true)
  (h:jR k P .any ops (NoPanic Q) S n (Array.replicate n false) a w.drew):(Code.region id ops' true).wpIn Fence.wide k P Q a w:=by
 subst ho;subst hn;exact wpIn_mono (wpIn_region_any hm (BX _ _ _ _ h)) NoPanic.imp
theorem aW {i:Nat} {d:Option Tmp} {v:Value} {fuel:Nat} {listed:Array Bool} {a:Act} {w:World} (hB:takeB ops listed i d=true) (hw:Region.wanted (opAt ops i) (yielded ops a.tmps)=true)
  (hQ:∀c a w,Q (.panic c) (a.put d v) w->Q (.panic c) a w) (hy:∀w,S w->(execOp a.eval (opAt ops i)).run P w= .ok (.value v) w) (hS:S w)
  (h:jR n P .any ops Q S fuel (listed.setIfInBounds i true) (a.put d v) w):jR n P .any ops Q S (fuel+1) listed a w:=by
 simp only[takeB,Bool.and_eq_true,decide_eq_true_eq] at hB;obtain⟨⟨⟨⟨h1,h2⟩,h3⟩,h4⟩,h5⟩:=hB;subst h5;exact FW (jK h4) (Region.noSelect_spec h1) hQ fuel listed a w (Region.free_spec (jK h4) h2) (by simpa using h3) (.inl ⟨hw,hy⟩) hS h
theorem aat {i:Nat} {d:Option Tmp} {fuel:Nat} {listed:Array Bool} {a:Act} {w:World} (hB:pM ops listed i d=true) (hw:Region.wanted (opAt ops i) (yielded ops a.tmps)=true)
  (h:(opAt ops i).uponIn Fence.wide n P a (fun a' w'=>S w'/\jR n P .any ops Q S fuel (listed.setIfInBounds i true) a' w') Q ((execOp a.eval (opAt ops i)).run P w)):jR n P .any ops Q S (fuel+1) listed a w:=by
 simp only[pM,Bool.and_eq_true,decide_eq_true_eq] at hB;obtain⟨⟨h3,h4⟩,h5⟩:=hB;refine⟨fun h0=>(by rw[h3] at h0;cases h0),fun j hj=>?_⟩
 rw[h3] at hj;obtain rfl:=List.mem_singleton.1 hj
 unfold wpOpIn;simp only[jK h4,hw,if_true];refine⟨fun _ _=>trivial,?_⟩
 rw[show Fence.wide.round=none from rfl,Oper.semAt_none]
 exact h
theorem U0 {i:Nat} {d:Option Tmp} {fuel:Nat} {listed:Array Bool} {a:Act} {w w':World} (hB:pM ops listed i d=true) (hw:Region.wanted (opAt ops i) (yielded ops a.tmps)=true)
  (hr:(execOp a.eval (opAt ops i)).run P w= .ok .skip w') (hS:S w') (h:jR n P .any ops Q S fuel (listed.setIfInBounds i true) (a.put d undef) w'):jR n P .any ops Q S (fuel+1) listed a w:=by
 have hd:(opAt ops i).dst=d:=by simp only[pM,Bool.and_eq_true,decide_eq_true_eq] at hB;exact hB.2
 subst hd;refine aat hB hw ?_
 rw[hr];exact⟨hS,h⟩
theorem Qn {i:Nat} {d:Option Tmp} {fuel:Nat} {listed:Array Bool} {a:Act} {w w':World} {f:FuncId} {args:Array Value} (hB:pM ops listed i d=true) (hw:Region.wanted (opAt ops i) (yielded ops a.tmps)=true)
  (hr:(execOp a.eval (opAt ops i)).run P w= .ok (.enter f args) w')
  (h:Calls P f args w' (fun e w''=>∃v,e= .returned v/\S w''/\jR n P .any ops Q S fuel (listed.setIfInBounds i true) (a.put d v) w'')):jR n P .any ops Q S (fuel+1) listed a w:=by
 have hd:(opAt ops i).dst=d:=by simp only[pM,Bool.and_eq_true,decide_eq_true_eq] at hB;exact hB.2
 subst hd;refine aat hB hw ?_
 rw[hr];refine⟨(fun h=>by cases h),(callsIn_wide.2 h).mono ?_⟩
 rintro e w'' ⟨v,rfl,hs⟩
 exact hs
theorem Qo {i:Nat} {d:Option Tmp} {fuel:Nat} {listed:Array Bool} {a:Act} {w w':World} {l:Nat} {f:FuncId} {tmps:Array Value} {assign body:Code} (hB:pM ops listed i d=true) (hw:Region.wanted (opAt ops i) (yielded ops a.tmps)=true)
  (hr:(execOp a.eval (opAt ops i)).run P w= .ok (.round l f tmps assign body) w')
  (h:RoundIn Fence.wide (n-1) P l f tmps assign body w' (fun e w''=>∃v,e= .returned v/\S w''/\jR n P .any ops Q S fuel (listed.setIfInBounds i true) (a.put d v) w'')):jR n P .any ops Q S (fuel+1) listed a w:=by
 have hd:(opAt ops i).dst=d:=by simp only[pM,Bool.and_eq_true,decide_eq_true_eq] at hB;exact hB.2
 subst hd;refine aat hB hw ?_
 rw[hr];refine⟨(fun h=>by cases h),h.mono ?_⟩
 rintro e w'' ⟨v,rfl,hs⟩
 exact hs
theorem Oj {listed:Array Bool} {a:Act} {w:World} (hr:Region.ready md ops listed=[]) (h:Q .normal a w):∀fuel,jR n P md ops Q S fuel listed a w
 | 0=>⟨hr,h⟩
 | _+1=>⟨fun _=>h,by rw[hr];simp⟩
end
end Go.Proofs.YtkjfpdfkcfgfkaaGreat
namespace Go.Proofs.YtkjfpdfkcfgfkaaGreat
open Go.RowKit Go.Shelf
structure ac3 (J Jx:List (List Nat)->(Nat->Prop)->World->Prop) (done:List (List Nat)) (C:Nat->Prop) (L g:Nat) (W:World) (e:Ending) (W':World):Prop where
 ex:∃C':Nat->Prop,(∀k,C' k->C k\/k=g\/W.heap.size<=k)/\Fr (fun k=>C k\/k=g\/k=L) W W'/\((e= .returned (.bool true)/\J done C' W')\/(e= .returned (.bool false)/\Jx done C' W'))
structure Qp (X:Nat) (zs:List Int) (s:WS) (L N0:Nat) (all:List (List Nat)) (J Jx:List (List Nat)->(Nat->Prop)->World->Prop):Prop where
 st:∀done C S A B,J done C A->Fr S A B->(∀k,S k->N0<=k/\¬C k/\∀cur,¬af A k cur 151)->J done C B
 stx:∀done C S A B,Jx done C A->Fr S A B->(∀k,S k->N0<=k/\¬C k/\∀cur,¬af A k cur 151)->Jx done C B
 cells:∀done C A k,J done C A->C k->∃cur e,af A k cur e/\e≠151
 MH:∀done C A k,Jx done C A->C k->∃cur e,af A k cur e/\e≠151
 ac4:∀done C A,J done C A->∃r,A.heap[L]? = some (.loop r)
 yield:∀done C x g cap n W1,J done C W1->iM W1 X zs s->(done++[x]) <+: all->N0<=g->¬C g->Row W1 (.slice (some ⟨g,0,none⟩) x.length cap) 3 (ints x) ->
  YieldAt Fence.wide n Tryz.prog L #[.slice (some ⟨g,0,none⟩) x.length cap] W1 (ac3 J Jx (done++[x]) C L g W1)
structure xx (G X:Nat) (s:WS) (L N0:Nat) (dZ:List Value) (lv:Value) (C:Nat->Prop):Prop where
 gN:N0<=G
 gC:¬C G
 lN:∀k,lv.ownBlock=some k->N0<=k/\¬C k
 rN:∀i k,i<8->(dZ.getD i undef).ownBlock=some k->N0<=k/\¬C k
 LN:L<N0
 own:∀k,s.own X k->k<N0/\k≠L/\¬C k
structure aau (J Jx:List (List Nat)->(Nat->Prop)->World->Prop) (G X:Nat) (s:WS) (L N0:Nat) (dZ:List Value) (yv:Value) (done:List (List Nat)) (sol:List (List Nat)) (l:List Nat) (C:Nat->Prop) (lv:Value) (W:World) (e:Ending) (W':World):Prop where
 ex:∃(C':Nat->Prop) (vP:Value) (l':List Nat),(∀k,C' k->C k\/W.heap.size<=k)/\l <+: l'/\uj W' G X s.ts dZ vP yv l'/\xx G X s L N0 dZ vP C'/\(∀k,vP.ownBlock=some k->lv.ownBlock=some k\/W.heap.size<=k) /\
  Fr (fun k=>C k\/k=L\/k=G\/lv.ownBlock=some k) W W'/\((e= .returned (.bool true)/\J (done++sol) C' W')\/(e= .returned (.bool false)/\∃p x,(p++[x]) <+: sol/\Jx (done++p++[x]) C' W'))
noncomputable def U1:Array Oper:=gU Tryz.f91 2
noncomputable def aav:Array Oper:=gU Tryz.f91 3
noncomputable def aaw:Array Oper:=gU Tryz.f91 4
noncomputable def U2:Array Oper:=gU Tryz.f91 6
theorem uj.fr {S:Nat->Prop} {W W':World} {G X:Nat} {ts:List Tab} {dZ:List Value} {lv yv:Value} {l:List Nat} (h:uj W G X ts dZ lv yv l) (f:Fr S W W') (hG:¬S G) (hl:∀k,lv.ownBlock=some k->¬S k) (hr:∀i k,i<8->(dZ.getD i undef).ownBlock=some k->¬S k):uj W' G X ts dZ lv yv l:=
 ⟨h.blk.fr f hG,h.len,fun i hi=>(h.dZ i hi).fr f (fun k hk=>hr i k hi hk),h.list.fr f hl⟩
theorem xx.grow {W:World} {G X L N0:Nat} {s:WS} {dZ:List Value} {lv yv:Value} {l:List Nat} {C C':Nat->Prop} (h:xx G X s L N0 dZ lv C) (hA:uj W G X s.ts dZ lv yv l) (hC:∀k,C' k->C k\/W.heap.size<=k):xx G X s L N0 dZ lv C':=by
 have V9:=hA.blk.lt;have hno:∀k,k<W.heap.size->¬C k->¬C' k:=fun k hk hn hc=>(hC k hc).elim hn (fun h'=>by omega)
 refine⟨h.gN,hno _ V9 h.gC,fun k hk=>⟨(h.lN k hk).1,hno _ (hA.list.lt hk) (h.lN k hk).2⟩,fun i k hi hk=>⟨(h.rN i k hi hk).1,hno _ ((hA.dZ i hi).lt hk) (h.rN i k hi hk).2⟩,h.LN,fun k hk=>?_⟩
 obtain⟨h1,h2,h3⟩:=h.own k hk;have:=h.gN
 exact⟨h1,h2,hno k (by omega) h3⟩
theorem MI {ev:Operand->Value} {o:Oper} {w:World} {nx:Next} {L:Nat} {v:Value} (x y:Operand) (ats:Array TypeId) (ho:o.op= .call {callee:=.value x,args:=#[y],argTypes:=ats}) (hx:ev x= .func (.yield L) #[] #[]) (hy:ev y=v) (hr:(Instr.yield L #[v]).run Tryz.prog w= .ok nx w):(execOp ev o).run Tryz.prog w= .ok nx w:=by
 unfold execOp;simp only[ho,resolve,hx];simp[go_sem,invoke]
 rw[hy];exact hr
theorem oW {fn:Func} {p:Tmp} {ty:TypeId} {tmps:Array Value} {w:World} {b off:Nat} {v:Value} (h:fn.results=#[.cell p ty]) (hp:tmps.getD p undef= .pointer (some ⟨b,off,none⟩)) (hag:(isAgg ty).run Tryz.prog w= .ok false w) (hc:w.cell? ⟨b,off,none⟩=some v):(results fn tmps).run Tryz.prog w= .ok v w:=by
 have hp':tmps[p]?.getD undef= .pointer (some ⟨b,off,none⟩):=by simpa using hp
 have hl:(Sem.load Mode.plain (⟨b,off,none⟩:Addr) Sem.pure).run Tryz.prog w= .ok v w:=by
  unfold Sem.run;rw[hc];rfl
 simp[results,h,hp',asAddr,loadVar,hag,hl,Result.andThen,load]
theorem Jj {ev:Operand->Value} {o:Oper} {w:World} (a b:Int) (r:Bool) (x y:Operand) (ho:o.op= .binOp .eql 3 x y 3) (hx:ev x= .int .i64 a) (hy:ev y= .int .i64 b) (hr:(a==b)=r):(execOp ev o).run Tryz.prog w= .ok (.value (.bool r)) w:=by
 refine rH x y 3 3 ho ?_ ?_
 ·rw[hx,hy];kernel_rfl
 ·rw[hx,hy,<-hr];kernel_rfl
structure jD (W:World) (B G v:Nat) (r:Bool):Prop where
 b0:af W B #[.pointer (some ⟨G,0,none⟩)] 165
 b1:af W (B+1) #[.bool r] 4
 b2:af W (B+2) #[.int .i64 (v:Int)] 3
theorem jD.fr {S:Nat->Prop} {W W':World} {B G v:Nat} {r:Bool} (h:jD W B G v r) (f:Fr S W W') (hn:∀k,S k->k<B\/B+2<k):jD W' B G v r:=
 ⟨h.b0.fr f (fun h=>by have:=hn _ h;omega),h.b1.fr f (fun h=>by have:=hn _ h;omega),h.b2.fr f (fun h=>by have:=hn _ h;omega)⟩
def XB (G X:Nat) (zs:List Int) (s:WS) (L N0:Nat) (all:List (List Nat)) (J Jx:List (List Nat)->(Nat->Prop)->World->Prop) (dZ:List Value) (m:Nat):Prop:=
 ∀(l:List Nat) (lv:Value) (done:List (List Nat)) (C:Nat->Prop) (W:World),l.length+m=zs.length->J done C W->iM W X zs s->uj W G X s.ts dZ lv (.func (.yield L) #[] #[]) l->xx G X s L N0 dZ lv C ->
  (done++je s.d s.bs m l) <+: all->(∀q,q<l.length->(s.d.getD q 0).testBit (l.getD q 0)=true) ->
  Calls Tryz.prog 91 #[.pointer (some ⟨G,0,none⟩)] W (aau J Jx G X s L N0 dZ (.func (.yield L) #[] #[]) done (je s.d s.bs m l) l C lv W)
set_option maxRecDepth 1000000 in
theorem Qq (G X:Nat) (zs:List Int) (s:WS) (L N0:Nat) (all:List (List Nat)) (J Jx:List (List Nat)->(Nat->Prop)->World->Prop) (hS:Qp X zs s L N0 all J Jx) (dZ:List Value):XB G X zs s L N0 all J Jx dZ 0:=by
 intro l lv done C W hlm hJ hA hG hP hall hin;obtain⟨lo,lc,hlf,_⟩:=hG.list.form;rw[show (ints l).length=l.length from by simp[ints]] at hlf
 subst hlf;have hz:=aF hA.mem.lJ;have c9:W.cell? ⟨G,9,none⟩=some (.slice lo l.length lc):=(hG.blk.cell 9).trans (jL _ _ _ _ hG.len)
 have V9:=hG.blk.lt;have hl8:(l.length:Int)<=8:=by omega
 have HJ:=hd hJ;have HA:=hd hA;have HG:=hd hG;have HP:=hd hP;clear hJ hA hG hP;refine(callsIn_wide (n:=9)).1 ?_
 refine callsIn_of_wp_marks Tryz.func91 rfl trivial ?_ rfl
 simp only[Tryz.ntmps91,List.size_toArray,List.length_cons,List.length_nil,Nat.reduceAdd,Nat.reduceSub,Array.replicate_succ,Array.replicate_zero,List.push_toArray,List.append_toArray,List.nil_append,List.cons_append];gi_wp2_with fail
 obtain⟨W1,hW1⟩:∃W1,W1=((W.alloc (.cells #[.pointer (some ⟨G,0,none⟩)] 165)).alloc (.cells #[.bool false] 4)).alloc (.cells #[.int .i64 (l.length:Int)] 3):=⟨_,rfl⟩;have hf1:Nw W W1:=by rw[hW1];exact(((Fr.refl _ W).alloc _).alloc _).alloc _
 have hs1:W1.heap.size=W.heap.size+3:=by rw[hW1];simp
 have hbx:jD W1 W.heap.size G l.length false:=by
  rw[hW1];refine⟨((af.new _ _ _).alloc _).alloc _,?_,?_⟩
  ·have:=(af.new (W.alloc (.cells #[.pointer (some ⟨G,0,none⟩)] 165)) #[.bool false] 4).alloc (.cells #[.int .i64 (l.length:Int)] 3)
   simpa using this
  ·have:=af.new ((W.alloc (.cells #[.pointer (some ⟨G,0,none⟩)] 165)).alloc (.cells #[.bool false] 4)) #[.int .i64 (l.length:Int)] 3
   simpa using this
 rw[<-hW1];have HW1:=hd hW1;clear hW1;obtain⟨so',sc,mQ,_⟩:=HA.out.mem.sz.form;rw[List.length_map] at mQ;have hK0:jD W1.drew W.heap.size G l.length false/\af W1.drew G (dD X dZ (.slice lo l.length lc) (.func (.yield L) #[] #[])) 158/\af W1.drew X (ah s.az s.d (.slice s.so s.ts.length s.aI) s.l) 66:=
  ⟨hbx.fr ((Fr.refl (fun _=>False) W1).drew) (fun k h=>h.elim),(HG.out.blk.nw hf1).drew,(HA.out.mem.blk.nw hf1).drew⟩
 refine xw U1 10 (fun w''=>jD w'' W.heap.size G l.length false/\af w'' G (dD X dZ (.slice lo l.length lc) (.func (.yield L) #[] #[])) 158/\af w'' X (ah s.az s.d (.slice s.so s.ts.length s.aI) s.l) 66) (by kernel_rfl) (by kernel_rfl) (by kernel_rfl) ?_
 refine aW (i:=0) (d:=some 10) (v:=.int .i64 (l.length:Int)) (by kernel_rfl) (by kernel_rfl) (fun _ _ _ h=>h) (fun w'' hS=>aj 3 (.tmp 3) (by kernel_rfl) (by kernel_rfl) (by kernel_rfl) (hS.1.b2.cell 0)) hK0 ?_
 refine aW (i:=1) (d:=some 11) (v:=.pointer (some ⟨G,0,none⟩)) (by kernel_rfl) (by kernel_rfl) (fun _ _ _ h=>h) (fun w'' hS=>aj 165 (.tmp 1) (by kernel_rfl) (by kernel_rfl) (by kernel_rfl) (hS.1.b0.cell 0)) hK0 ?_
 refine aW (i:=2) (d:=some 12) (v:=.pointer (some ⟨G,0,none⟩)) (by kernel_rfl) (by kernel_rfl) (fun _ _ _ h=>h) (fun w'' hS=>by kernel_rfl) hK0 ?_
 refine aW (i:=3) (d:=some 13) (v:=.pointer (some ⟨G,0,none⟩)) (by kernel_rfl) (by kernel_rfl) (fun _ _ _ h=>h) (fun w'' hS=>by kernel_rfl) hK0 ?_
 refine aW (i:=4) (d:=some 14) (v:=.pointer (some ⟨X,0,none⟩)) (by kernel_rfl) (by kernel_rfl) (fun _ _ _ h=>h) (fun w'' hS=>aj 35 (.tmp 13) (by kernel_rfl) (by kernel_rfl) (by kernel_rfl) (hS.2.1.cell 0)) hK0 ?_
 refine aW (i:=5) (d:=some 15) (v:=.pointer (some ⟨X,0,none⟩)) (by kernel_rfl) (by kernel_rfl) (fun _ _ _ h=>h) (fun w'' hS=>by kernel_rfl) hK0 ?_
 refine aW (i:=6) (d:=some 16) (v:=.pointer (some ⟨X,0,none⟩)) (by kernel_rfl) (by kernel_rfl) (fun _ _ _ h=>h) (fun w'' hS=>by kernel_rfl) hK0 ?_
 refine aW (i:=7) (d:=some 17) (v:=.slice so' zs.length sc) (by kernel_rfl) (by kernel_rfl) (fun _ _ _ h=>h) (fun w'' hS=>aj 22 (.tmp 16) (by kernel_rfl) (by kernel_rfl) (by kernel_rfl) ((hS.2.2.cell 0).trans ((iC ..).trans (by rw[mQ])))) hK0 ?_
 refine aW (i:=8) (d:=some 18) (v:=.int .i64 (zs.length:Int)) (by kernel_rfl) (by kernel_rfl) (fun _ _ _ h=>h) (fun w'' hS=>by kernel_rfl) hK0 ?_
 refine aW (i:=9) (d:=some 19) (v:=.bool true) (by kernel_rfl) (by kernel_rfl) (fun _ _ _ h=>h) (fun w'' hS=>Jj (l.length:Int) (zs.length:Int) true (.tmp 10) (.tmp 18) (by kernel_rfl) (by kernel_rfl) (by kernel_rfl) (by simp;omega)) hK0 ?_
 refine Oj (by kernel_rfl) (NoPanic.normal ?_) _
 simp only[Act.put,bQ,bW,bU];clear hK0;gi_wp2_with fail
 have hK0:af W1.drew.drew W.heap.size #[.pointer (some ⟨G,0,none⟩)] 165/\af W1.drew.drew G (dD X dZ (.slice lo l.length lc) (.func (.yield L) #[] #[])) 158:=⟨hbx.b0.drew.drew,(HG.out.blk.nw hf1).drew.drew⟩;obtain⟨lb,rfl⟩:∃lb,lo=some ⟨lb,0,none⟩:=by
  obtain⟨g,cap,he,hgo,_⟩:=HG.out.list.cell 0 (by simp[ints];omega)
  injection he with e1 e2 e3
  exact⟨g,e1⟩
 refine xw aav 11 (fun w''=>af w'' W.heap.size #[.pointer (some ⟨G,0,none⟩)] 165/\af w'' G (dD X dZ (.slice (some ⟨lb,0,none⟩) l.length lc) (.func (.yield L) #[] #[])) 158) (by kernel_rfl) (by kernel_rfl) (by kernel_rfl) ?_
 refine aW (i:=0) (d:=some 20) (v:=.pointer (some ⟨G,0,none⟩)) (by kernel_rfl) (by kernel_rfl) (fun _ _ _ h=>h) (fun w'' hS=>aj 165 (.tmp 1) (by kernel_rfl) (by kernel_rfl) (by kernel_rfl) (hS.1.cell 0)) hK0 ?_
 refine aW (i:=1) (d:=some 21) (v:=.pointer (some ⟨G,0,none⟩)) (by kernel_rfl) (by kernel_rfl) (fun _ _ _ h=>h) (fun w'' hS=>by kernel_rfl) hK0 ?_
 refine aW (i:=2) (d:=some 22) (v:=.pointer (some ⟨G,10,none⟩)) (by kernel_rfl) (by kernel_rfl) (fun _ _ _ h=>h) (fun w'' hS=>by kernel_rfl) hK0 ?_
 refine aW (i:=3) (d:=some 23) (v:=.func (.yield L) #[] #[]) (by kernel_rfl) (by kernel_rfl) (fun _ _ _ h=>h) (fun w'' hS=>aj 31 (.tmp 22) (by kernel_rfl) (by kernel_rfl) (by kernel_rfl) ((hS.2.cell 10).trans (Du _ _ _ _ HG.out.len))) hK0 ?_
 refine aW (i:=4) (d:=some 24) (v:=.pointer (some ⟨G,0,none⟩)) (by kernel_rfl) (by kernel_rfl) (fun _ _ _ h=>h) (fun w'' hS=>aj 165 (.tmp 1) (by kernel_rfl) (by kernel_rfl) (by kernel_rfl) (hS.1.cell 0)) hK0 ?_
 refine aW (i:=5) (d:=some 25) (v:=.pointer (some ⟨G,0,none⟩)) (by kernel_rfl) (by kernel_rfl) (fun _ _ _ h=>h) (fun w'' hS=>by kernel_rfl) hK0 ?_
 refine aW (i:=6) (d:=some 26) (v:=.pointer (some ⟨G,9,none⟩)) (by kernel_rfl) (by kernel_rfl) (fun _ _ _ h=>h) (fun w'' hS=>by kernel_rfl) hK0 ?_
 refine aW (i:=7) (d:=some 27) (v:=.slice (some ⟨lb,0,none⟩) l.length lc) (by kernel_rfl) (by kernel_rfl) (fun _ _ _ h=>h) (fun w'' hS=>aj 22 (.tmp 26) (by kernel_rfl) (by kernel_rfl) (by kernel_rfl) ((hS.2.cell 9).trans (jL _ _ _ _ HG.out.len))) hK0 ?_
 refine Qn (i:=8) (d:=some 28) (f:=21) (args:=#[.slice (some ⟨lb,0,none⟩) l.length lc]) (w':=W1.drew.drew) (by kernel_rfl) (by kernel_rfl) (by kernel_rfl) ?_
 have hcl:=clone_any lb 0 lc (l.map (fun (x:Nat)=>(x:Int))) W1.drew.drew (by simp;omega) (by simp;omega) (by
  have h9:=HG.out.list.nw hf1;rw[xq,<-List.length_map (f:=fun (x:Nat)=>(x:Int))] at h9
  exact h9.oC)
 rw[List.length_map,<-xq] at hcl;refine hcl.mono ?_
 rintro e W2 ⟨g,cap',rfl,hf2,hr2,hg2⟩
 have Qr:Nw W W2:=(hf1.drew.drew).trans hf2 (fun i h=>h.elim)
 have hg3:W.heap.size+3<=g:=by rw[<-hs1];exact hg2
 have hbx2:jD W2 W.heap.size G l.length false:=hbx.fr (((Fr.refl (fun _=>False) W1).drew.drew).trans hf2 (fun i h=>h.elim)) (fun k h=>h.elim)
 have hJ2:J done C W2:=hS.st _ _ _ _ _ HJ.out Qr (fun k h=>h.elim)
 have hA2:=HA.out.nw Qr;have Aa:∀k,C k->k<W.heap.size:=fun k hk=>by
  obtain⟨cur,e,hb,_⟩:=hS.cells _ _ _ _ HJ.out hk;exact hb.lt
 have hGN:=HP.out.gN;have hLN:=HP.out.LN;have hgC:¬C g:=fun h=>by have:=Aa g h;omega
 have hK2:af W2 W.heap.size #[.pointer (some ⟨G,0,none⟩)] 165/\af W2 G (dD X dZ (.slice (some ⟨lb,0,none⟩) l.length lc) (.func (.yield L) #[] #[])) 158:=⟨hbx2.b0,HG.out.blk.nw Qr⟩;refine⟨_,rfl,hK2,?_⟩
 obtain⟨fn,tmps,assign,body,hy,hR⟩:=hS.yield done C l g cap' (9-1) W2 hJ2 hA2 hall (by omega) hgC hr2
 refine Qo (i:=9) (d:=some 29) (l:=L) (f:=fn) (tmps:=tmps) (assign:=assign) (body:=body) (w':=W2) (by kernel_rfl) (by kernel_rfl) (MI (.tmp 23) (.tmp 28) #[22] (by kernel_rfl) (by kernel_rfl) (by kernel_rfl) hy) ?_
 refine hR.mono ?_
 rintro e W3 ⟨C',hC',hF3,hcase⟩
 obtain⟨b,rfl,hb⟩:∃b,e= .returned (.bool b)/\((b=true/\J (done++[l]) C' W3)\/(b=false/\Jx (done++[l]) C' W3)):=by
  rcases hcase with ⟨h1,h2⟩ | ⟨h1,h2⟩
  ·exact⟨true,h1,.inl ⟨rfl,h2⟩⟩
  ·exact⟨false,h1,.inr ⟨rfl,h2⟩⟩
 have hnB:∀k,W.heap.size<=k->k<W.heap.size+3->¬(C k\/k=g\/k=L):=fun k h1 h2 h=>by
  rcases h with h | h | h
  ·have:=Aa k h;omega
  ·omega
  ·omega
 have nV:jD W3 W.heap.size G l.length false:=⟨hbx2.b0.fr hF3 (hnB _ (by omega) (by omega)),hbx2.b1.fr hF3 (hnB _ (by omega) (by omega)),hbx2.b2.fr hF3 (hnB _ (by omega) (by omega))⟩
 have We:∀k,N0<=k->k<W.heap.size->¬C k->¬(C k\/k=g\/k=L):=fun k h1 h2 h3 h=>by
  rcases h with h | h | h
  ·exact h3 h
  ·omega
  ·omega
 have hG3:uj W3 G X s.ts dZ (.slice (some ⟨lb,0,none⟩) l.length lc) (.func (.yield L) #[] #[]) l:=(HG.out.fr Qr (fun h=>h) (fun _ _ h=>h) (fun _ _ _ _ h=>h)).fr hF3 (We _ HP.out.gN V9 HP.out.gC) (fun k hk=>We _ (HP.out.lN k hk).1 (HG.out.list.lt hk) (HP.out.lN k hk).2) (fun i k hi hk=>We _ (HP.out.rN i k hi hk).1 ((HG.out.dZ i hi).lt hk) (HP.out.rN i k hi hk).2)
 refine⟨_,rfl,⟨nV.b0,hG3.blk⟩,?_⟩
 have hF4:Fr (fun k=>k=W.heap.size+1) W3 (W3.setCell ⟨W.heap.size+1,0,none⟩ (.bool b)):=(Fr.refl _ W3).setCell _ _ (.inl rfl)
 refine U0 (i:=10) (d:=none) (w':=W3.setCell ⟨W.heap.size+1,0,none⟩ (.bool b)) (by kernel_rfl) (by kernel_rfl) (jC (old:=.bool false) 4 (.tmp 2) (.tmp 29) (by kernel_rfl) (by kernel_rfl) (by kernel_rfl) rfl (by kernel_rfl) (nV.b1.cell 0) (nV.b1.free 0)) ⟨nV.b0.fr hF4 (by omega),hG3.blk.fr hF4 (by omega)⟩ ?_
 refine Oj (by kernel_rfl) (NoPanic.normal ?_) _
 simp only[Act.put,bQ,bW,bU];gi_wp2_with fail
 obtain⟨W4,hW4⟩:∃W4,W3.setCell ⟨W.heap.size+1,0,none⟩ (.bool b)=W4:=⟨_,rfl⟩;have hb4:af W4 (W.heap.size+1) #[.bool b] 4:=by rw[<-hW4];exact nV.b1.set 0 _
 rw[hW4] at hF4 ⊢;refine⟨_,oW (v:=.bool b) rfl rfl (by kernel_rfl) (hb4.cell 0),?_⟩
 have YS:∀k,C' k->C k\/W.heap.size<=k:=fun k hk=>by
  rcases hC' k hk with h | h | h
  ·exact .inl h
  ·exact .inr (by omega)
  ·exact .inr (Nat.le_trans Qr.size h)
 have hn1:¬C' (W.heap.size+1):=fun h=>by
  have h2:=hf2.size;rcases hC' _ h with h | h | h
  ·have:=Aa _ h;omega
  ·omega
  ·have:W1.drew.drew.heap.size=W.heap.size+3:=hs1
   omega
 refine⟨C',_,l,YS,List.prefix_refl l,hG3.fr hF4 (by omega) (fun k hk e=>by have:=HG.out.list.lt hk;omega) (fun i k hi hk e=>by have:=(HG.out.dZ i hi).lt hk;omega),HP.out.grow HG.out YS,fun k hk=>.inl hk,?_,?_⟩
 ·refine(((Qr.mono (S':=fun k=>C k\/k=L\/k=G\/(Value.slice (some ⟨lb,0,none⟩) l.length lc).ownBlock=some k) (fun i h=>h.elim)).trans hF3 ?_).trans hF4 (fun i h=>.inr (by omega)))
  rintro i (h | h | h)
  ·exact .inl (.inl h)
  ·exact .inr (by omega)
  ·exact .inl (.inr (.inl h))
 ·rcases hb with ⟨rfl,hb⟩ | ⟨rfl,hb⟩
  ·exact .inl ⟨rfl,hS.st _ _ _ _ _ hb hF4 (fun k hk=>by subst hk;exact⟨by omega,hn1,fun cur hb=>absurd (hb.inj nV.b1).2 (by decide)⟩)⟩
  ·exact .inr ⟨rfl,[],l,List.prefix_refl _,by simpa using hS.stx _ _ _ _ _ hb hF4 (fun k hk=>by subst hk;exact⟨by omega,hn1,fun cur hb=>absurd (hb.inj nV.b1).2 (by decide)⟩)⟩
end Go.Proofs.YtkjfpdfkcfgfkaaGreat
namespace Go.Proofs.YtkjfpdfkcfgfkaaGreat
open Go.RowKit Go.Shelf
attribute [local go_sem] Oper.semAt_some
def kQ (d:List Nat) (bs:List Tb) (m:Nat) (l:List Nat) (pre:List Nat):List (List Nat):=pre.flatMap (fun v=>if l7 bs (l++[v]) then je d bs m (l++[v]) else [])
theorem qI (d:List Nat) (bs:List Tb) (m:Nat) (l pre:List Nat) (v:Nat):kQ d bs m l (pre++[v])=kQ d bs m l pre++if l7 bs (l++[v]) then je d bs m (l++[v]) else []:=by
 simp[kQ,List.flatMap_append]
theorem BZ (d:List Nat) (bs:List Tb) (m:Nat) (l:List Nat) {p q:List Nat} (h:p <+: q):kQ d bs m l p <+: kQ d bs m l q:=by
 obtain⟨r,rfl⟩:=h;exact⟨kQ d bs m l r,by simp[kQ,List.flatMap_append]⟩
theorem Bk.fr {lo:Nat} {A B:World} (h:Bk lo A B):∃S:Nat->Prop,Fr S A B/\∀k,S k->lo<=k/\∀cur e,¬af A k cur e:=by
 obtain⟨row,hg,hr⟩:=h;refine⟨fun k=>row=some k,(Fr.refl (fun k=>row=some k) A).grown hg (fun k hk=>.inl hk),fun k hk=>?_⟩
 obtain⟨h1,o,ho,hc⟩:=hr k hk;refine⟨h1,fun cur e hb=>?_⟩
 have hb':A.heap[k]? = some (.cells cur e (0,0)):=hb
 rw[hb'] at ho;cases ho;cases hc
theorem uj.bk {lo:Nat} {A B:World} {G X:Nat} {ts:List Tab} {dZ:List Value} {lv yv:Value} {l:List Nat} (h:uj A G X ts dZ lv yv l) (hb:Bk lo A B):uj B G X ts dZ lv yv l:=
 ⟨h.blk.bk hb,h.len,fun i hi=>(h.dZ i hi).bk hb,h.list.bk hb⟩
theorem jD.bk {lo:Nat} {A B:World} {b G v:Nat} {r:Bool} (h:jD A b G v r) (hb:Bk lo A B):jD B b G v r:=⟨h.b0.bk hb,h.b1.bk hb,h.b2.bk hb⟩
structure Wx (G X:Nat) (s:WS) (L N0:Nat) (dZ:List Value) (l:List Nat) (C:Nat->Prop) (lv:Value) (W Wr:World) (C':Nat->Prop) (vP:Value) (l':List Nat):Prop where
 grow:∀k,C' k->C k\/W.heap.size+3<=k
 pre:l <+: l'
 at_:uj Wr G X s.ts dZ vP (.func (.yield L) #[] #[]) l'
 ok:xx G X s L N0 dZ vP C'
 uG:∀k,vP.ownBlock=some k->lv.ownBlock=some k\/W.heap.size+3<=k
 fr:Fr (fun k=>C k\/k=L\/k=G\/lv.ownBlock=some k) W Wr
 box:jD Wr W.heap.size G l.length false
theorem Wx.bk {lo G X L N0:Nat} {s:WS} {dZ:List Value} {l l':List Nat} {C C':Nat->Prop} {lv vP:Value} {W A B:World} (h:Wx G X s L N0 dZ l C lv W A C' vP l') (hb:Bk lo A B) (hl:W.heap.size<=lo):Wx G X s L N0 dZ l C lv W B C' vP l':=
 ⟨h.grow,h.pre,h.at_.bk hb,h.ok,h.uG,h.fr.bk hb hl,h.box.bk hb⟩
theorem lQ.trans {lo:Nat} {A B C:World} (h:lQ lo A B) (k:lQ lo B C):lQ lo A C:=⟨Nat.le_trans h.size k.size,fun i o hi ho hl=>k.same i o hi (h.same i o hi ho hl) hl⟩
theorem U3 {G X L N0:Nat} {zs:List Int} {s:WS} {all:List (List Nat)} {J Jx:List (List Nat)->(Nat->Prop)->World->Prop} {dZ:List Value} {lv yv:Value} {l:List Nat} {done:List (List Nat)} {C:Nat->Prop} {W W':World} (hS:Qp X zs s L N0 all J Jx) (hJ:J done C W) (hA:iM W X zs s) (hG:uj W G X s.ts dZ lv yv l) (hP:xx G X s L N0 dZ lv C)
  (f:Fr (fun k=>C k\/k=L\/k=G\/lv.ownBlock=some k) W W'):iM W' X zs s:=by
 refine hA.Ro f (fun k hk=>?_) (fun k cur hk hb=>?_)
 ·obtain⟨h1,h2,h3⟩:=hP.own k hk;have:=hP.gN
  rintro(h | h | h | h)
  ·exact h3 h
  ·exact h2 h
  ·omega
  ·have:=(hP.lN k h).1;omega
 ·have hb':W.heap[k]? = some (.cells cur 151 (0,0)):=hb
  rcases hk with h | h | h | h
  ·obtain⟨cur',e,hbe,he⟩:=hS.cells _ _ _ _ hJ h;have h2:W.heap[k]? = some (.cells cur' e (0,0)):=hbe
   rw[h2] at hb';cases hb';exact he rfl
  ·subst h;obtain⟨r,hr⟩:=hS.ac4 _ _ _ hJ;rw[hr] at hb';cases hb'
  ·subst h;have h2:W.heap[k]? = some (.cells _ 158 (0,0)):=hG.blk
   rw[h2] at hb';cases hb'
  ·exact hG.list.ne hb (by decide) h
theorem Wx.step {G X L N0:Nat} {s:WS} {dZ:List Value} {l l':List Nat} {C C' S:Nat->Prop} {lv vP:Value} {W A B:World} (h:Wx G X s L N0 dZ l C lv W A C' vP l') (hN:N0<=W.heap.size) (hG:G<W.heap.size) (hlv:∀k,lv.ownBlock=some k->k<W.heap.size) (hC:∀k,C k->k<W.heap.size) (hCb:∀k,C' k->∃cur e,af A k cur e/\e≠151)
  (f:Fr S A B) (hs:∀k,S k->k=W.heap.size+1\/(W.heap.size+3<=k/\∀cur e,¬af A k cur e)):
  uj B G X s.ts dZ vP (.func (.yield L) #[] #[]) l'/\Fr (fun k=>C k\/k=L\/k=G\/lv.ownBlock=some k) W B/\∀k,S k->N0<=k/\¬C' k/\∀cur,¬af A k cur 151:=by
 refine⟨h.at_.fr f (fun hk=>?_) (fun k hk hk'=>?_) (fun i k hi hk hk'=>?_),h.fr.trans f (fun k hk=>?_),fun k hk=>?_⟩
 ·rcases hs _ hk with h1 | ⟨h1,_⟩ <;> omega
 ·rcases hs k hk' with h1 | ⟨_,h2⟩
  ·rcases h.uG k hk with h3 | h3
   ·have:=hlv k h3;omega
   ·omega
  ·obtain⟨cur,hb,_⟩:=h.at_.list.blk hk;exact h2 _ _ hb
 ·rcases hs k hk' with h1 | ⟨_,h2⟩
  ·subst h1;exact(h.at_.dZ i hi).ne h.box.b1 (by decide) hk
  ·obtain⟨cur,hb,_⟩:=(h.at_.dZ i hi).blk hk;exact h2 _ _ hb
 ·rcases hs k hk with h1 | ⟨h1,_⟩ <;> exact .inr (by omega)
 ·rcases hs k hk with h1 | ⟨h1,h2⟩
  ·refine⟨by omega,fun hc=>?_,fun cur hb=>?_⟩
   ·rcases h.grow k hc with h3 | h3
    ·have:=hC k h3;omega
    ·omega
   ·subst h1;exact absurd (hb.inj h.box.b1).2 (by decide)
  ·refine⟨by omega,fun hc=>?_,fun cur hb=>h2 _ _ hb⟩
   obtain⟨cur,e,hb,_⟩:=hCb k hc;exact h2 _ _ hb
def MJ (Q:Exit->Act->World->Prop):Exit->Act->World->Prop
 | .panic _,_,_=>False
 | .outgrown,_,_=>False
 | e,a,w=>Q e a w
theorem MJ.imp {Q:Exit->Act->World->Prop}:∀(e:Exit) (a:Act) (w:World),MJ Q e a w->Q e a w:=fun e a w h=>by
 cases e <;> first | exact h | exact(h:False).elim
theorem MJ.normal {Q:Exit->Act->World->Prop} {a:Act} {w:World} (h:Q .normal a w):MJ Q .normal a w:=h
theorem MK {Q:Exit->Act->World->Prop} {ops':Array Oper} {id lp k:Nat} {a:Act} {w:World} (ops:Array Oper) (n:Nat) (S:World->Prop) (z:Nat) (ho:ops'=ops) (hn:ops.size=n) (hnd:sO ops.toList=true)
  (h:gK Tryz.prog .any ops (MJ Q) S z n (Array.replicate n false) a w.drew):(Code.region id ops' true).wpIn (Fence.wide.inRound lp) k Tryz.prog Q a w:=
 wpIn_mono (MF ops n S z ho hn hnd (fun _ _ h=>h) h) MJ.imp
theorem ac5 {P:Program} {ops:Array Oper} {md:Region.Mode} {Q:Exit->Act->World->Prop} {S:World->Prop} {z:Nat} {listed:Array Bool} {a:Act} {w:World} (hr:Region.ready md ops listed=[]) (h:Q .normal a w):∀fuel,gK P md ops Q S z fuel listed a w
 | 0=>⟨hr,h⟩
 | _+1=>⟨fun _=>h,by rw[hr];simp⟩
def aft (x y:Value):Operand->Value
 | .tmp 47=>x
 | .tmp _=>y
 | _=>undef
theorem Qs {ev:Operand->Value} {o:Oper} {w:World} {X i:Nat} (x y:Operand) (ho:o.op= .indexAddr 60 x y) (hx:ev x= .pointer (some ⟨X,1,none⟩)) (hy:ev y= .int .i64 (i:Int)) (hi:i<8):(execOp ev o).run Tryz.prog w= .ok (.value (.pointer (some ⟨X,1+i,none⟩))) w:=by
 unfold execOp;simp only[ho,hx,hy];have hc:i=0\/i=1\/i=2\/i=3\/i=4\/i=5\/i=6\/i=7:=by omega
 rcases hc with rfl | rfl | rfl | rfl | rfl | rfl | rfl | rfl <;> (show Sem.run _ _ _=_;kernel_rfl)
theorem Qu {ev:Operand->Value} {o:Oper} {w:World} {ao:Option Addr} {m cap n:Nat} {xs:List Value} (x y:Operand) (ho:o.op= .slice 22 x none (some y) none) (hx:ev x= .slice ao m cap) (hy:ev y= .int .i64 (n:Int)) (hn:n<=cap) (hr:∃w',Row w' (.slice ao m cap) 3 xs):(execOp ev o).run Tryz.prog w= .ok (.value (.slice ao n cap)) w:=by
 obtain⟨w',hr⟩:=hr;have h1:=(rX ao m cap n hn w).trans (by rw[hr.FI n])
 unfold execOp;simp[ho,hx,hy,h1,Result.andThen]
set_option maxRecDepth 1000000 in
theorem Qv (G X:Nat) (zs:List Int) (s:WS) (L N0:Nat) (all:List (List Nat)) (J Jx:List (List Nat)->(Nat->Prop)->World->Prop) (hS:Qp X zs s L N0 all J Jx) (dZ:List Value) (m:Nat) (ih:XB G X zs s L N0 all J Jx dZ m):XB G X zs s L N0 all J Jx dZ (m+1):=by
 intro l lv done C W hlm hJ hA hG hP hall hin;obtain⟨lo,lc,hlf,_⟩:=hG.list.form;rw[show (ints l).length=l.length from by simp[ints]] at hlf
 subst hlf;have hz:=aF hA.mem.lJ;have c9:W.cell? ⟨G,9,none⟩=some (.slice lo l.length lc):=(hG.blk.cell 9).trans (jL _ _ _ _ hG.len)
 have V9:=hG.blk.lt;have hl8:(l.length:Int)<=8:=by omega
 have HJ:=hd hJ;have HA:=hd hA;have HG:=hd hG;have HP:=hd hP;clear hJ hA hG hP;refine(callsIn_wide (n:=9)).1 ?_
 refine callsIn_of_wp_marks Tryz.func91 rfl trivial ?_ rfl
 simp only[Tryz.ntmps91,List.size_toArray,List.length_cons,List.length_nil,Nat.reduceAdd,Nat.reduceSub,Array.replicate_succ,Array.replicate_zero,List.push_toArray,List.append_toArray,List.nil_append,List.cons_append];gi_wp2_with fail
 obtain⟨W1,hW1⟩:∃W1,W1=((W.alloc (.cells #[.pointer (some ⟨G,0,none⟩)] 165)).alloc (.cells #[.bool false] 4)).alloc (.cells #[.int .i64 (l.length:Int)] 3):=⟨_,rfl⟩;have hf1:Nw W W1:=by rw[hW1];exact(((Fr.refl _ W).alloc _).alloc _).alloc _
 have hs1:W1.heap.size=W.heap.size+3:=by rw[hW1];simp
 have hbx:jD W1 W.heap.size G l.length false:=by
  rw[hW1];refine⟨((af.new _ _ _).alloc _).alloc _,?_,?_⟩
  ·have:=(af.new (W.alloc (.cells #[.pointer (some ⟨G,0,none⟩)] 165)) #[.bool false] 4).alloc (.cells #[.int .i64 (l.length:Int)] 3)
   simpa using this
  ·have:=af.new ((W.alloc (.cells #[.pointer (some ⟨G,0,none⟩)] 165)).alloc (.cells #[.bool false] 4)) #[.int .i64 (l.length:Int)] 3
   simpa using this
 rw[<-hW1];have HW1:=hd hW1;clear hW1;obtain⟨so',sc,mQ,_⟩:=HA.out.mem.sz.form;rw[List.length_map] at mQ;have hK0:jD W1.drew W.heap.size G l.length false/\af W1.drew G (dD X dZ (.slice lo l.length lc) (.func (.yield L) #[] #[])) 158/\af W1.drew X (ah s.az s.d (.slice s.so s.ts.length s.aI) s.l) 66:=
  ⟨hbx.fr ((Fr.refl (fun _=>False) W1).drew) (fun k h=>h.elim),(HG.out.blk.nw hf1).drew,(HA.out.mem.blk.nw hf1).drew⟩
 refine xw U1 10 (fun w''=>jD w'' W.heap.size G l.length false/\af w'' G (dD X dZ (.slice lo l.length lc) (.func (.yield L) #[] #[])) 158/\af w'' X (ah s.az s.d (.slice s.so s.ts.length s.aI) s.l) 66) (by kernel_rfl) (by kernel_rfl) (by kernel_rfl) ?_
 refine aW (i:=0) (d:=some 10) (v:=.int .i64 (l.length:Int)) (by kernel_rfl) (by kernel_rfl) (fun _ _ _ h=>h) (fun w'' hS=>aj 3 (.tmp 3) (by kernel_rfl) (by kernel_rfl) (by kernel_rfl) (hS.1.b2.cell 0)) hK0 ?_
 refine aW (i:=1) (d:=some 11) (v:=.pointer (some ⟨G,0,none⟩)) (by kernel_rfl) (by kernel_rfl) (fun _ _ _ h=>h) (fun w'' hS=>aj 165 (.tmp 1) (by kernel_rfl) (by kernel_rfl) (by kernel_rfl) (hS.1.b0.cell 0)) hK0 ?_
 refine aW (i:=2) (d:=some 12) (v:=.pointer (some ⟨G,0,none⟩)) (by kernel_rfl) (by kernel_rfl) (fun _ _ _ h=>h) (fun w'' hS=>by kernel_rfl) hK0 ?_
 refine aW (i:=3) (d:=some 13) (v:=.pointer (some ⟨G,0,none⟩)) (by kernel_rfl) (by kernel_rfl) (fun _ _ _ h=>h) (fun w'' hS=>by kernel_rfl) hK0 ?_
 refine aW (i:=4) (d:=some 14) (v:=.pointer (some ⟨X,0,none⟩)) (by kernel_rfl) (by kernel_rfl) (fun _ _ _ h=>h) (fun w'' hS=>aj 35 (.tmp 13) (by kernel_rfl) (by kernel_rfl) (by kernel_rfl) (hS.2.1.cell 0)) hK0 ?_
 refine aW (i:=5) (d:=some 15) (v:=.pointer (some ⟨X,0,none⟩)) (by kernel_rfl) (by kernel_rfl) (fun _ _ _ h=>h) (fun w'' hS=>by kernel_rfl) hK0 ?_
 refine aW (i:=6) (d:=some 16) (v:=.pointer (some ⟨X,0,none⟩)) (by kernel_rfl) (by kernel_rfl) (fun _ _ _ h=>h) (fun w'' hS=>by kernel_rfl) hK0 ?_
 refine aW (i:=7) (d:=some 17) (v:=.slice so' zs.length sc) (by kernel_rfl) (by kernel_rfl) (fun _ _ _ h=>h) (fun w'' hS=>aj 22 (.tmp 16) (by kernel_rfl) (by kernel_rfl) (by kernel_rfl) ((hS.2.2.cell 0).trans ((iC ..).trans (by rw[mQ])))) hK0 ?_
 refine aW (i:=8) (d:=some 18) (v:=.int .i64 (zs.length:Int)) (by kernel_rfl) (by kernel_rfl) (fun _ _ _ h=>h) (fun w'' hS=>by kernel_rfl) hK0 ?_
 refine aW (i:=9) (d:=some 19) (v:=.bool false) (by kernel_rfl) (by kernel_rfl) (fun _ _ _ h=>h) (fun w'' hS=>Jj (l.length:Int) (zs.length:Int) false (.tmp 10) (.tmp 18) (by kernel_rfl) (by kernel_rfl) (by kernel_rfl) (by rw[beq_eq_false_iff_ne];omega)) hK0 ?_
 refine Oj (by kernel_rfl) (NoPanic.normal ?_) _
 simp only[Act.put,bQ,bW,bU];clear hK0;gi_wp2_with fail
 have hK0:jD W1.drew.drew W.heap.size G l.length false/\af W1.drew.drew G (dD X dZ (.slice lo l.length lc) (.func (.yield L) #[] #[])) 158/\af W1.drew.drew X (ah s.az s.d (.slice s.so s.ts.length s.aI) s.l) 66:=
  ⟨hbx.fr ((Fr.refl (fun _=>False) W1).drew.drew) (fun k h=>h.elim),(HG.out.blk.nw hf1).drew.drew,(HA.out.mem.blk.nw hf1).drew.drew⟩
 have hd8:s.d.length=8:=HA.out.good.dm.len;refine xw aaw 10 (fun w''=>jD w'' W.heap.size G l.length false/\af w'' G (dD X dZ (.slice lo l.length lc) (.func (.yield L) #[] #[])) 158/\af w'' X (ah s.az s.d (.slice s.so s.ts.length s.aI) s.l) 66) (by kernel_rfl) (by kernel_rfl) (by kernel_rfl) ?_
 refine aW (i:=0) (d:=some 30) (v:=.pointer (some ⟨G,0,none⟩)) (by kernel_rfl) (by kernel_rfl) (fun _ _ _ h=>h) (fun w'' hS=>aj 165 (.tmp 1) (by kernel_rfl) (by kernel_rfl) (by kernel_rfl) (hS.1.b0.cell 0)) hK0 ?_
 refine aW (i:=1) (d:=some 31) (v:=.pointer (some ⟨G,0,none⟩)) (by kernel_rfl) (by kernel_rfl) (fun _ _ _ h=>h) (fun w'' hS=>by kernel_rfl) hK0 ?_
 refine aW (i:=2) (d:=some 32) (v:=.pointer (some ⟨G,0,none⟩)) (by kernel_rfl) (by kernel_rfl) (fun _ _ _ h=>h) (fun w'' hS=>by kernel_rfl) hK0 ?_
 refine aW (i:=3) (d:=some 33) (v:=.pointer (some ⟨X,0,none⟩)) (by kernel_rfl) (by kernel_rfl) (fun _ _ _ h=>h) (fun w'' hS=>aj 35 (.tmp 32) (by kernel_rfl) (by kernel_rfl) (by kernel_rfl) (hS.2.1.cell 0)) hK0 ?_
 refine aW (i:=4) (d:=some 34) (v:=.int .i64 (l.length:Int)) (by kernel_rfl) (by kernel_rfl) (fun _ _ _ h=>h) (fun w'' hS=>aj 3 (.tmp 3) (by kernel_rfl) (by kernel_rfl) (by kernel_rfl) (hS.1.b2.cell 0)) hK0 ?_
 refine aW (i:=5) (d:=some 35) (v:=.pointer (some ⟨X,0,none⟩)) (by kernel_rfl) (by kernel_rfl) (fun _ _ _ h=>h) (fun w'' hS=>by kernel_rfl) hK0 ?_
 refine aW (i:=6) (d:=some 36) (v:=.pointer (some ⟨X,1,none⟩)) (by kernel_rfl) (by kernel_rfl) (fun _ _ _ h=>h) (fun w'' hS=>by kernel_rfl) hK0 ?_
 refine aW (i:=7) (d:=some 37) (v:=.pointer (some ⟨X,1+l.length,none⟩)) (by kernel_rfl) (by kernel_rfl) (fun _ _ _ h=>h) (fun w'' hS=>Qs (.tmp 36) (.tmp 34) (by kernel_rfl) (by kernel_rfl) (by kernel_rfl) (by omega)) hK0 ?_
 refine aW (i:=8) (d:=some 38) (v:=.int .u8 ((s.d.getD l.length 0:Nat):Int)) (by kernel_rfl) (by kernel_rfl) (fun _ _ _ h=>h) (fun w'' hS=>aj 58 (.tmp 37) (by kernel_rfl) (by kernel_rfl) (by kernel_rfl) ((hS.2.2.cell (1+l.length)).trans (jg _ _ _ _ _ (by omega)))) hK0 ?_
 refine aW (i:=9) (d:=some 39) (v:=.func (.func 49) #[.int .u8 ((s.d.getD l.length 0:Nat):Int)] #[]) (by kernel_rfl) (by kernel_rfl) (fun _ _ _ h=>h) (fun w'' hS=>by kernel_rfl) hK0 ?_
 refine Oj (by kernel_rfl) (NoPanic.normal ?_) _
 simp only[Act.put,bQ,bW,bU];clear hK0;gi_wp2_with fail
 have hs2:W1.drew.drew.heap.size=W.heap.size+3:=hs1;have hf2:Nw W W1.drew.drew:=hf1.drew.drew;have hGN:=HP.out.gN;have hLN:=HP.out.LN;have Aa:∀k,C k->k<W.heap.size:=fun k hk=>by
  obtain⟨cur,e,hb,_⟩:=hS.cells _ _ _ _ HJ.out hk;exact hb.lt
 have aX:s.d.getD l.length 0<64:=HA.out.good.dm.lt _;have aax:∀(JJ:List (List Nat)->(Nat->Prop)->World->Prop) dn C' A B,(∀done C S A B,JJ done C A->Fr S A B->(∀k,S k->N0<=k/\¬C k/\∀cur,¬af A k cur 151)->JJ done C B)->(∀done C A k,JJ done C A->C k->∃cur e,af A k cur e/\e≠151)->JJ dn C' A->Bk W1.drew.drew.heap.size A B->JJ dn C' B:=fun JJ dn C' A B h1 h2 h3 hb=>by
  obtain⟨S,hf,hk⟩:=hb.fr;refine h1 _ _ _ _ _ h3 hf (fun k hk'=>⟨?_,fun hc=>?_,fun cur hb'=>(hk k hk').2 _ _ hb'⟩)
  ·have:=(hk k hk').1
   omega
  ·obtain⟨cur,e,hb',_⟩:=h2 _ _ _ _ h3 hc;exact(hk k hk').2 cur e hb'
 have hG1:=HG.out.fr hf2 (fun h=>h) (fun _ _ h=>h) (fun _ _ _ _ h=>h)
 have HG1:=hd hG1;clear hG1;obtain⟨W2,hW2⟩:∃W2,W1.drew.drew=W2:=⟨_,rfl⟩;have hbx2:jD W2 W.heap.size G l.length false:=by rw[<-hW2];exact hbx.fr ((Fr.refl (fun _=>False) W1).drew.drew) (fun k h=>h.elim)
 rw[hW2] at hs2 hf2 aax HG1 ⊢;have hI0:Wx G X s L N0 dZ l C (.slice lo l.length lc) W W2 C (.slice lo l.length lc) l:=⟨fun k h=>.inl h,List.prefix_refl _,HG1.out,HP.out,fun k h=>.inl h,hf2.mono (fun i h=>h.elim),hbx2⟩
 have HI0:=hd hI0;clear hI0 hbx hf1 hbx2;refine UX (s:=s.d.getD l.length 0) (by omega) rfl (by simp) (fun pre A=>∃C' vP l',Wx G X s L N0 dZ l C (.slice lo l.length lc) W A C' vP l'/\J (done++kQ s.d s.bs m l pre) C' A)
  (fun pre A=>∃C' vP l',Wx G X s L N0 dZ l C (.slice lo l.length lc) W A C' vP l'/\∃p x,(p++[x]) <+: je s.d s.bs (m+1) l/\Jx (done++p++[x]) C' A)
  (fun pre A B h hb=>?bk) (fun pre A B h hb=>?bkx) ⟨C,_,l,HI0.out,?j0⟩ ?round ?done ?stop
 case bk=>
  obtain⟨C',vP,l',h1,h2⟩:=h;exact⟨C',vP,l',h1.bk hb (by omega),aax J _ _ _ _ hS.st hS.cells h2 hb⟩
 case bkx=>
  obtain⟨C',vP,l',h1,p,x,h2,h3⟩:=h;exact⟨C',vP,l',h1.bk hb (by omega),p,x,h2,aax Jx _ _ _ _ hS.stx hS.MH h3 hb⟩
 case j0=>simpa[kQ] using hS.st _ _ _ _ _ HJ.out hf2 (fun k h=>h.elim)
 case round=>
  rintro lp pre v Wr hpre ⟨C',vP,l',hI,hJr⟩
  obtain⟨lo',Jk,ac6,_⟩:=hI.at_.list.form;rw[show (ints l').length=l'.length from by simp[ints]] at ac6
  subst ac6;have hll:=hI.pre.length_le;have hcap:l'.length<=Jk:=by
   have:=hI.at_.list.ZZ
   simpa[ints] using this
  have HI:=hd hI;have HJr:=hd hJr;clear hI hJr;simp only[bQ,bW,bU];gi_wp2_with fail
  have hK0:jD Wr.drew W.heap.size G l.length false/\af Wr.drew G (dD X dZ (.slice lo' l'.length Jk) (.func (.yield L) #[] #[])) 158:=⟨HI.out.box.fr ((Fr.refl (fun _=>False) Wr).drew) (fun k h=>h.elim),HI.out.at_.blk.drew⟩
  refine MK U2 13 (fun w''=>jD w'' W.heap.size G l.length false/\af w'' G (dD X dZ (.slice lo' l'.length Jk) (.func (.yield L) #[] #[])) 158) 12 (by kernel_rfl) (by kernel_rfl) (by kernel_rfl) ?_
  refine bJ (i:=0) (d:=some 41) (v:=.pointer (some ⟨G,0,none⟩)) (by kernel_rfl) (by kernel_rfl) (fun _ _ _ h=>h) (fun w'' hS=>aj 165 (.tmp 1) (by kernel_rfl) (by kernel_rfl) (by kernel_rfl) (hS.1.b0.cell 0)) hK0 ?_
  refine bJ (i:=1) (d:=some 42) (v:=.pointer (some ⟨G,0,none⟩)) (by kernel_rfl) (by kernel_rfl) (fun _ _ _ h=>h) (fun w'' hS=>aj 165 (.tmp 1) (by kernel_rfl) (by kernel_rfl) (by kernel_rfl) (hS.1.b0.cell 0)) hK0 ?_
  refine bJ (i:=2) (d:=some 43) (v:=.pointer (some ⟨G,0,none⟩)) (by kernel_rfl) (by kernel_rfl) (fun _ _ _ h=>h) (fun w'' hS=>by kernel_rfl) hK0 ?_
  refine bJ (i:=3) (d:=some 44) (v:=.pointer (some ⟨G,9,none⟩)) (by kernel_rfl) (by kernel_rfl) (fun _ _ _ h=>h) (fun w'' hS=>by kernel_rfl) hK0 ?_
  refine bJ (i:=4) (d:=some 45) (v:=.slice lo' l'.length Jk) (by kernel_rfl) (by kernel_rfl) (fun _ _ _ h=>h) (fun w'' hS=>aj 22 (.tmp 44) (by kernel_rfl) (by kernel_rfl) (by kernel_rfl) ((hS.2.cell 9).trans (jL _ _ _ _ HI.out.at_.len))) hK0 ?_
  refine bJ (i:=5) (d:=some 46) (v:=.int .i64 (l.length:Int)) (by kernel_rfl) (by kernel_rfl) (fun _ _ _ h=>h) (fun w'' hS=>aj 3 (.tmp 3) (by kernel_rfl) (by kernel_rfl) (by kernel_rfl) (hS.1.b2.cell 0)) hK0 ?_
  refine bJ (i:=6) (d:=some 47) (v:=.slice lo' l.length Jk) (by kernel_rfl) (by kernel_rfl) (fun _ _ _ h=>h) (fun w'' hS=>Qu (.tmp 45) (.tmp 46) (by kernel_rfl) (by kernel_rfl) (by kernel_rfl) (by omega) ⟨Wr,HI.out.at_.list⟩) hK0 ?_
  refine bJ (i:=7) (d:=some 48) (v:=.int .i64 (v:Int)) (by kernel_rfl) (by kernel_rfl) (fun _ _ _ h=>h) (fun w'' hS=>by kernel_rfl) hK0 ?_
  have hfa:Nw Wr (Wr.drew.alloc (.cells #[.int .i64 (v:Int)] 3)):=((Fr.refl _ Wr).drew).alloc _;obtain⟨Wa,hWa⟩:∃Wa,Wr.drew.alloc (.cells #[.int .i64 (v:Int)] 3)=Wa:=⟨_,rfl⟩;have hba:af Wa Wr.heap.size #[.int .i64 (v:Int)] 3:=by rw[<-hWa];exact af.new _ _ _
  rw[hWa] at hfa;have hKa:jD Wa W.heap.size G l.length false/\af Wa G (dD X dZ (.slice lo' l'.length Jk) (.func (.yield L) #[] #[])) 158:=⟨HI.out.box.fr hfa (fun k h=>h.elim),HI.out.at_.blk.nw hfa⟩
  refine gI (i:=8) (d:=some 49) (v:=.slice (some ⟨Wr.heap.size,0,none⟩) 1 1) (w':=Wa) (by kernel_rfl) (by kernel_rfl) (by rw[<-hWa];kernel_rfl) (fun _=>hKa) ?_
  obtain⟨i0,hi0,hz0,hz1,hz2⟩:=info_parts Tryz.jU;have hrow:Row Wa (.slice lo' l.length Jk) 3 (ints l):=by
   have h1:=(HI.out.at_.list.nw hfa).take l.length (by simpa[ints] using hll)
   have h2:(ints l').take l.length=ints l:=by
    obtain⟨r,rfl⟩:=HI.out.pre;simp[ints]
   rw[h2] at h1;exact h1
  obtain⟨v',Wb,hrun,hA1,hA2,hA3⟩:=Fg (c:=1) (ev:=aft (.slice lo' l.length Jk) (.slice (some ⟨Wr.heap.size,0,none⟩) 1 1)) (o:=opAt U2 9) (w:=Wa) 8 (.tmp 47) (.tmp 49) 22 (by kernel_rfl) (by kernel_rfl) (by kernel_rfl) Tryz.underlying22 hi0 hz0 hz1 hz2 rfl hrow (hba.cell 0) rfl (by simp[ints];unfold maxLen;omega) (by simp[ints];omega)
  obtain⟨g',cap',rfl,hrb,hfb,hab,XC⟩:=app1' hA1 hA2 hA3;rw[show (ints l).length=l.length from by simp[ints]] at hrb hrun
  have JZ:=HI.out.uG;have hsame:(Value.slice lo' l.length Jk).ownBlock=(Value.slice lo' l'.length Jk).ownBlock:=by cases lo' <;> rfl
  rw[hsame] at hfb hab;have hCr:∀k,C' k->k<Wr.heap.size/\∃cur e,af Wr k cur e/\e≠151:=fun k hk=>by
   obtain⟨cur,e,hb,he⟩:=hS.cells _ _ _ _ HJr.out hk;exact⟨hb.lt,cur,e,hb,he⟩
  have hsr:W.heap.size+3<=Wr.heap.size:=by have:=HI.out.box.b2.lt;omega
  have aay:∀k,(Value.slice lo' l'.length Jk).ownBlock=some k->k<W.heap.size\/W.heap.size+2<k:=fun k hk=>by
   rcases JZ k hk with h | h
   ·have:=HG.out.list.lt h;omega
   ·omega
  have aaz:(Value.slice lo' l'.length Jk).ownBlock≠some G:=HI.out.at_.list.ne HI.out.at_.blk (by decide)
  have hKb:jD Wb W.heap.size G l.length false/\af Wb G (dD X dZ (.slice lo' l'.length Jk) (.func (.yield L) #[] #[])) 158:=⟨hKa.1.fr hfb (fun k h=>aay k h),hKa.2.fr hfb aaz⟩
  refine gI (i:=9) (d:=some 50) (v:=.slice (some ⟨g',0,none⟩) (l.length+1) cap') (w':=Wb) (by kernel_rfl) (by kernel_rfl) (Eq.trans (yD (s:=.tmp 47) (y:=.tmp 49) (t:=22) (by kernel_rfl) (by kernel_rfl)) hrun) (fun _=>hKb) ?_
  refine gI (i:=10) (d:=some 51) (v:=.pointer (some ⟨G,0,none⟩)) (w':=Wb) (by kernel_rfl) (by kernel_rfl) (by kernel_rfl) (fun _=>hKb) ?_
  refine gI (i:=11) (d:=some 52) (v:=.pointer (some ⟨G,9,none⟩)) (w':=Wb) (by kernel_rfl) (by kernel_rfl) (by kernel_rfl) (fun _=>hKb) ?_
  refine BV (i:=12) (d:=none) (w':=Wb.setCell ⟨G,9,none⟩ (.slice (some ⟨g',0,none⟩) (l.length+1) cap')) (by kernel_rfl) (by kernel_rfl) (jC (old:=.slice lo' l'.length Jk) 22 (.tmp 52) (.tmp 50) (by kernel_rfl) (by kernel_rfl) (by kernel_rfl) rfl (by kernel_rfl) ((hKb.2.cell 9).trans (jL _ _ _ _ HI.out.at_.len)) (hKb.2.free 9)) (fun h=>absurd rfl h) ?_
  refine ac5 (by kernel_rfl) (show _ from ?_) _
  simp only[Act.put,bQ,bW,bU];have hf5:Fr (fun k=>k=G\/(Value.slice lo' l'.length Jk).ownBlock=some k) Wr (Wb.setCell ⟨G,9,none⟩ (.slice (some ⟨g',0,none⟩) (l.length+1) cap')):=((hfa.mono (fun i h=>h.elim)).trans hfb (fun i h=>.inl (.inr h))).setCell _ _ (.inl (.inl rfl))
  obtain⟨W5,hW5⟩:∃W5,Wb.setCell ⟨G,9,none⟩ (.slice (some ⟨g',0,none⟩) (l.length+1) cap')=W5:=⟨_,rfl⟩;have Gu:af W5 G (dD X dZ (.slice (some ⟨g',0,none⟩) (l.length+1) cap') (.func (.yield L) #[] #[])) 158:=by
   rw[<-hW5,<-zS X dZ (.slice lo' l'.length Jk) (.func (.yield L) #[] #[]) _ HI.out.at_.len];exact hKb.2.set 9 _
  have Nv:g'≠G:=fun e=>by
   subst e;rcases hab with h | h
   ·exact aaz h
   ·have:=hKa.2.lt;omega
  have Eo:Row W5 (.slice (some ⟨g',0,none⟩) (l.length+1) cap') 3 (ints (l++[v])):=by
   have h1:ints (l++[v])=ints l++[.int .i64 (v:Int)]:=by simp[ints]
   rw[h1,<-hW5];exact hrb.fr ((Fr.refl (fun k=>k=G) Wb).setCell ⟨G,9,none⟩ _ (.inl rfl)) (fun k hk e=>by cases hk;exact Nv e)
  rw[hW5] at hf5 ⊢;have YT:∀i k,i<8->(dZ.getD i undef).ownBlock=some k->¬(k=G\/(Value.slice lo' l'.length Jk).ownBlock=some k):=fun i k hi hk h=>by
   rcases h with h | h
   ·subst h;exact(HI.out.at_.dZ i hi).ne HI.out.at_.blk (by decide) hk
   ·exact HI.out.at_.list.TJ (HI.out.at_.dZ i hi) (by decide) h hk
  have hG5:uj W5 G X s.ts dZ (.slice (some ⟨g',0,none⟩) (l.length+1) cap') (.func (.yield L) #[] #[]) (l++[v]):=⟨Gu,HI.out.at_.len,fun i hi=>(HI.out.at_.dZ i hi).fr hf5 (fun k hk=>YT i k hi hk),Eo⟩
  have aaA:∀k,(Value.slice (some ⟨g',0,none⟩) (l.length+1) cap').ownBlock=some k->k=g':=fun k hk=>by cases hk;rfl
  have hsa:=hfa.size;have hP5:xx G X s L N0 dZ (.slice (some ⟨g',0,none⟩) (l.length+1) cap') C':=by
   refine⟨HI.out.ok.gN,HI.out.ok.gC,fun k hk=>?_,HI.out.ok.rN,HI.out.ok.LN,HI.out.ok.own⟩
   obtain rfl:=aaA k hk
   rcases hab with h | h
   ·exact HI.out.ok.lN _ h
   ·exact⟨by omega,fun hc=>by have:=(hCr _ hc).1;omega⟩
  have aaB:jD W5 W.heap.size G l.length false:=HI.out.box.fr hf5 (fun k h=>by
   rcases h with h | h
   ·subst h;have:=HG.out.blk.lt;omega
   ·exact aay k h)
  have hJ5:J (done++kQ s.d s.bs m l pre) C' W5:=hS.st _ _ _ _ _ HJr.out hf5 (fun k h=>by
   rcases h with h | h
   ·subst h;exact⟨HI.out.ok.gN,HI.out.ok.gC,fun cur hb=>absurd (hb.inj HI.out.at_.blk).2 (by decide)⟩
   ·exact⟨(HI.out.ok.lN k h).1,(HI.out.ok.lN k h).2,fun cur hb=>HI.out.at_.list.ne hb (by decide) h⟩)
  have aaC:Fr (fun k=>C k\/k=L\/k=G\/(Value.slice lo l.length lc).ownBlock=some k) W W5:=HI.out.fr.trans hf5 (fun i h=>by
   rcases h with h | h
   ·exact .inl (.inr (.inr (.inl h)))
   ·rcases JZ i h with h | h
    ·exact .inl (.inr (.inr (.inr h)))
    ·exact .inr (by omega))
  have WQ:iM W5 X zs s:=U3 hS HJ.out HA.out HG.out HP.out aaC;have hI5:Wx G X s L N0 dZ l C (.slice lo l.length lc) W W5 C' (.slice (some ⟨g',0,none⟩) (l.length+1) cap') (l++[v]):=by
   refine⟨HI.out.grow,List.prefix_append _ _,hG5,hP5,fun k hk=>?_,aaC,aaB⟩
   obtain rfl:=aaA k hk
   rcases hab with h | h
   ·exact JZ _ h
   ·exact .inr (by omega)
  have hvm:v∈vals (s.d.getD l.length 0):=hpre.subset (by simp)
  have aaD:∀q,q<(l++[v]).length->(s.d.getD q 0).testBit ((l++[v]).getD q 0)=true:=fun q hq=>by
   rw[List.length_append,List.length_singleton] at hq;by_cases h:q<l.length
   ·have:(l++[v]).getD q 0=l.getD q 0:=by simp[List.getD,List.getElem?_append_left h]
    rw[this];exact hin q h
   ·obtain rfl:q=l.length:=by omega
    have:(l++[v]).getD l.length 0=v:=by simp[List.getD]
    rw[this];exact(gm aX).1 hvm
  have hk5:lQ W2.heap.size Wr W5:=hf5.Ad (fun k h=>by
   rcases h with h | h
   ·subst h;exact .inr ⟨_,_,HI.out.at_.blk⟩
   ·obtain⟨cur,hb,_⟩:=HI.out.at_.list.blk h;exact .inr ⟨_,_,hb⟩)
  have hfits:=fits_any G X zs s dZ _ _ (l++[v]) W5 WQ hG5 (by simp) (by simp;omega) aaD
  have hc0:W5.cell? ⟨W.heap.size,0,none⟩=some (.pointer (some ⟨G,0,none⟩)):=aaB.b0.cell 0
  have zA:=hd hfits;have Ez:=hd hI5;have HJ5:=hd hJ5;have HA5:=hd WQ;have afu:=hd aaD;have Hk5:=hd hk5;have HCr:=hd hCr;have Wj:=hd hf5;have HKb:=hd hKb;have HKa:=hd hKa;clear hfits hI5 hJ5 WQ aaD hk5 hG5 hP5 aaB aaC hf5 Eo Gu hKb hKa hK0 hCr hA1 hA2 hA3 hrun hrow hba hrb hfb hab aaA YT aay aaz JZ hfa hWa hW5 hvm hsame;refine MJ.normal ?_
  gi_wp2_with fail
  refine⟨trivial,?_⟩
  refine(CallsIn.inRound lp (callsIn_wide.2 zA.out)).mono ?_
  clear zA;rintro e w' ⟨rfl,n5,rfl⟩
  have hc1:(W5.drewN n5).cell? ⟨W.heap.size,0,none⟩=some (.pointer (some ⟨G,0,none⟩)):=hc0
  have hfd:Fr (fun _=>False) W5 (W5.drewN n5):=(Fr.refl _ W5).drewN n5
  obtain⟨fb,hfb⟩:∃fb,l7 s.bs (l++[v])=fb:=⟨_,rfl⟩;rw[hfb];have Xr:=hd hfb;clear hfb;cases fb with
  | false=>
   gi_wp2_with fail
   refine⟨trivial,?_⟩
   gi_wp2_with fail
   refine⟨⟨Hk5.out.size,Hk5.out.same⟩,C',.slice (some ⟨g',0,none⟩) (l.length+1) cap',l++[v],?_,?_⟩
   ·exact⟨Ez.out.grow,Ez.out.pre,Ez.out.at_.fr hfd (fun h=>h) (fun _ _ h=>h) (fun _ _ _ _ h=>h),Ez.out.ok,Ez.out.uG,Ez.out.fr.drewN n5,Ez.out.box.fr hfd (fun k h=>h.elim)⟩
   ·rw[qI,Xr.out];simpa using hS.st _ _ _ _ _ HJ5.out hfd (fun k h=>h.elim)
  | true=>
   gi_wp2_with fail
   refine⟨trivial,?_⟩
   have hpa:done++kQ s.d s.bs m l pre++je s.d s.bs m (l++[v]) <+: all:=by
    have h1:=BZ s.d s.bs m l hpre;rw[qI,Xr.out,if_pos rfl] at h1;have h2:kQ s.d s.bs m l (vals (s.d.getD l.length 0))=je s.d s.bs (m+1) l:=rfl;rw[h2] at h1;obtain⟨r,hr⟩:=h1;refine List.IsPrefix.trans ⟨r,?_⟩ hall
    rw[List.append_assoc,List.append_assoc,<-hr];simp
   have hcall:=ih (l++[v]) _ (done++kQ s.d s.bs m l pre) C' (W5.drewN n5) (by simp;omega) (hS.st _ _ _ _ _ HJ5.out hfd (fun k h=>h.elim)) (HA5.out.nw hfd) (Ez.out.at_.fr hfd (fun h=>h) (fun _ _ h=>h) (fun _ _ _ _ h=>h)) Ez.out.ok hpa afu.out
   refine(CallsIn.inRound lp (callsIn_wide.2 hcall)).mono ?_
   clear hcall;rintro e W6 ⟨C6,lv6,l6,YU,hp6,hG6,U4,hl6,nI,hcase⟩
   have JU:=HG.out.blk.lt;have hs5:W.heap.size+3<=W5.heap.size:=by have:=Ez.out.box.b2.lt;omega
   have hI6:Wx G X s L N0 dZ l C (.slice lo l.length lc) W W6 C6 lv6 l6:=by
    refine⟨fun k hk=>?_,(List.prefix_append _ _).trans hp6,hG6,U4,fun k hk=>?_,(Ez.out.fr.drewN n5).trans nI ?_,(Ez.out.box.fr hfd (fun k h=>h.elim)).fr nI ?_⟩
    ·rcases YU k hk with h | h
     ·exact Ez.out.grow k h
     ·exact .inr (Nat.le_trans hs5 h)
    ·rcases hl6 k hk with h | h
     ·exact Ez.out.uG k h
     ·exact .inr (Nat.le_trans hs5 h)
    ·rintro k (h | h | h | h)
     ·rcases Ez.out.grow k h with h | h
      ·exact .inl (.inl h)
      ·exact .inr (by omega)
     ·exact .inl (.inr (.inl h))
     ·exact .inl (.inr (.inr (.inl h)))
     ·rcases Ez.out.uG k h with h | h
      ·exact .inl (.inr (.inr (.inr h)))
      ·exact .inr (by omega)
    ·rintro k (h | h | h | h)
     ·rcases Ez.out.grow k h with h | h
      ·have:=Aa k h;omega
      ·omega
     ·omega
     ·omega
     ·rcases Ez.out.uG k h with h | h
      ·have:=HG.out.list.lt h;omega
      ·omega
   have hk6:lQ W2.heap.size Wr W6:=Hk5.out.trans (lQ.trans (hfd.Ad (fun k h=>h.elim)) (nI.Ad (fun k h=>by
    rcases h with h | h | h | h
    ·obtain⟨cur,e,hb,_⟩:=hS.cells _ _ _ _ HJ5.out h;exact .inr ⟨cur,e,hb⟩
    ·exact .inl (by omega)
    ·subst h;exact .inr ⟨_,_,Ez.out.at_.blk⟩
    ·obtain⟨cur,hb,_⟩:=Ez.out.at_.list.blk h;exact .inr ⟨_,_,hb⟩)))
   have Rq:=hd hI6;have Hk6:=hd hk6;clear hI6 hk6 YU hl6 nI hG6 U4 hp6;have hb1:W6.cell? ⟨W.heap.size+1,0,none⟩=some (.bool false):=Rq.out.box.b1.cell 0
   have afv:=Rq.out.box.b1.free 0;rcases hcase with ⟨rfl,hJ6⟩ | ⟨rfl,p,x,hpx,hJ6⟩
   ·have HJ6:=hd hJ6;clear hJ6;gi_wp2_with fail
    refine⟨Hk6.out,C6,lv6,l6,Rq.out,?_⟩
    rw[qI,Xr.out,if_pos rfl,<-List.append_assoc];exact HJ6.out
   ·have HJ6:=hd hJ6;clear hJ6;gi_wp2_with fail
    have J4:Fr (fun k=>k=W.heap.size+1) W6 (W6.setCell ⟨W.heap.size+1,0,none⟩ (.bool false)):=(Fr.refl _ W6).setCell _ _ (.inl rfl)
    obtain⟨h71,h72,h73⟩:=Rq.out.step (by omega) JU (fun k hk=>HG.out.list.lt hk) Aa (fun k hk=>hS.MH _ _ _ _ HJ6.out hk) J4 (fun k h=>.inl h)
    refine⟨Hk6.out.trans (J4.Ad (fun k h=>by subst h;exact .inr ⟨_,_,Rq.out.box.b1⟩)),C6,lv6,l6,⟨Rq.out.grow,Rq.out.pre,h71,Rq.out.ok,Rq.out.uG,h72,?_⟩,kQ s.d s.bs m l pre++p,x,?_,?_⟩
    ·exact⟨Rq.out.box.b0.fr J4 (by omega),Rq.out.box.b1.set 0 _,Rq.out.box.b2.fr J4 (by omega)⟩
    ·have h1:=BZ s.d s.bs m l hpre;rw[qI,Xr.out,if_pos rfl] at h1;refine List.IsPrefix.trans ?_ h1
     rw[List.append_assoc];exact(List.prefix_append_right_inj _).2 hpx
    ·have h1:=hS.stx _ _ _ _ _ HJ6.out J4 h73;simpa[List.append_assoc] using h1
 case done=>
  rintro D Wd hD ⟨C',vP,l',hI,hJd⟩ hK
  have JU:=HG.out.blk.lt;have hb1:Wd.cell? ⟨W.heap.size+1,0,none⟩=some (.bool false):=hI.box.b1.cell 0
  have afv:=hI.box.b1.free 0;have HI:=hd hI;have HJd:=hd hJd;clear hI hJd;gi_wp2_with fail
  have hbd:af (Wd.setCell ⟨W.heap.size+1,0,none⟩ (.bool true)) (W.heap.size+1) #[.bool true] 4:=HI.out.box.b1.set 0 _;have J4:Fr (fun k=>k=W.heap.size+1) Wd (Wd.setCell ⟨W.heap.size+1,0,none⟩ (.bool true)):=(Fr.refl _ Wd).setCell _ _ (.inl rfl)
  have hDl:=lt_of_block hK;have hK7:(Wd.setCell ⟨W.heap.size+1,0,none⟩ (.bool true)).heap[D]? = some (.deferred (some [])):=(J4.block D hDl (by omega)).trans hK
  obtain⟨W7,hW7⟩:∃W7,Wd.setCell ⟨W.heap.size+1,0,none⟩ (.bool true)=W7:=⟨_,rfl⟩;rw[hW7] at hbd J4 hK7 ⊢;have hf8:Fr (fun k=>k=W.heap.size+1\/k=D) Wd (W7.putObj D (.deferred none)):=(J4.mono (fun i h=>.inl (.inl h))).trans (S':=fun k=>k=D) ((Fr.refl (fun k=>k=D) W7).grown (grownBy_putObj' W7 D _) (fun k hk=>by cases hk;exact .inl rfl)) (fun i h=>.inl (.inr h))
  have hb8:af (W7.putObj D (.deferred none)) (W.heap.size+1) #[.bool true] 4:=hbd.bk (Bk.put (lo:=0) (.deferred none) (Nat.zero_le _) hK7 rfl);obtain⟨h71,h72,h73⟩:=HI.out.step (by omega) JU (fun k hk=>HG.out.list.lt hk) Aa (fun k hk=>hS.cells _ _ _ _ HJd.out hk) hf8 (fun k h=>by
   rcases h with h | h
   ·exact .inl h
   ·subst h;refine .inr ⟨by omega,fun cur e hb=>?_⟩
    have hb':Wd.heap[k]? = some (.cells cur e (0,0)):=hb
    rw[hK] at hb';cases hb')
  refine⟨by simp,.inl ⟨_,_,rfl,run_takeDeferred hK7,?_⟩⟩
  refine⟨_,oW (v:=.bool true) rfl rfl (by kernel_rfl) (hb8.cell 0),?_⟩
  exact⟨C',vP,l',fun k hk=>(HI.out.grow k hk).imp id (fun h=>by omega),HI.out.pre,h71,HI.out.ok,fun k hk=>(HI.out.uG k hk).imp id (fun h=>by omega),h72,.inl ⟨rfl,hS.st _ _ _ _ _ HJd.out hf8 h73⟩⟩
 case stop=>
  rintro D pre v Wd hD hpre ⟨C',vP,l',hI,p,x,hpx,hJd⟩ hK
  have JU:=HG.out.blk.lt;have HI:=hd hI;have HJd:=hd hJd;clear hI hJd;gi_wp2_with fail
  have hDl:=lt_of_block hK;have hf8:Fr (fun k=>k=D) Wd (Wd.putObj D (.deferred none)):=(Fr.refl (fun k=>k=D) Wd).grown (grownBy_putObj' Wd D _) (fun k hk=>by cases hk;exact .inl rfl)
  have hb8:af (Wd.putObj D (.deferred none)) (W.heap.size+1) #[.bool false] 4:=HI.out.box.b1.bk (Bk.put (lo:=0) (.deferred none) (Nat.zero_le _) hK rfl);obtain⟨h71,h72,h73⟩:=HI.out.step (by omega) JU (fun k hk=>HG.out.list.lt hk) Aa (fun k hk=>hS.MH _ _ _ _ HJd.out hk) hf8 (fun k h=>by
   subst h;refine .inr ⟨by omega,fun cur e hb=>?_⟩
   have hb':Wd.heap[k]? = some (.cells cur e (0,0)):=hb
   rw[hK] at hb';cases hb')
  refine⟨by simp,.inl ⟨_,_,rfl,run_takeDeferred hK,?_⟩⟩
  refine⟨_,oW (v:=.bool false) rfl rfl (by kernel_rfl) (hb8.cell 0),?_⟩
  exact⟨C',vP,l',fun k hk=>(HI.out.grow k hk).imp id (fun h=>by omega),HI.out.pre,h71,HI.out.ok,fun k hk=>(HI.out.uG k hk).imp id (fun h=>by omega),h72,.inr ⟨rfl,p,x,hpx,hS.stx _ _ _ _ _ HJd.out hf8 h73⟩⟩
theorem Jl (G X:Nat) (zs:List Int) (s:WS) (L N0:Nat) (all:List (List Nat)) (J Jx:List (List Nat)->(Nat->Prop)->World->Prop) (hS:Qp X zs s L N0 all J Jx) (dZ:List Value):∀m,XB G X zs s L N0 all J Jx dZ m
 | 0=>Qq G X zs s L N0 all J Jx hS dZ
 | m+1=>Qv G X zs s L N0 all J Jx hS dZ m (Jl G X zs s L N0 all J Jx hS dZ m)
end Go.Proofs.YtkjfpdfkcfgfkaaGreat
namespace Go.Proofs.YtkjfpdfkcfgfkaaGreat
open Go.RowKit Go.Shelf
def WS.jl (s:WS) (b:Bool):WS:={s with l:=⟨s.l.bC,s.l.starts,b⟩}
theorem xy (az:Value) (d:List Nat) (tv:Value) (l:Rest) (h:d.length=8) (b:Bool):(ah az d tv l).setIfInBounds 12 (.bool b)=ah az d tv ⟨l.bC,l.starts,b⟩:=by
 match d,h with
 | [a0,a1,a2,a3,a4,a5,a6,a7],_=>rfl
theorem iM.busy {W:World} {X:Nat} {zs:List Int} {s:WS} (h:iM W X zs s) (b:Bool):iM (W.setCell ⟨X,12,none⟩ (.bool b)) X zs (s.jl b):=by
 have hf:Fr (fun k=>k=X) W (W.setCell ⟨X,12,none⟩ (.bool b)):=(Fr.refl _ W).setCell _ _ (.inl rfl)
 have o:Only W (fun k=>k=X) [66]:=Only.one h.mem.blk
 refine⟨⟨?_,h.mem.sz.jr hf o (by decide),h.mem.lJ,h.mem.tabs.jr hf o (by decide),h.mem.inj,h.mem.t12,h.mem.fits,h.mem.yI,⟨h.mem.tr.starts.jr hf o (by decide),h.mem.tr.bC.jr hf o (by decide)⟩,fun u hu=>(h.mem.un u hu).jr hf o (by decide) (.inr (by decide)),h.mem.apart⟩,h.good,h.cnt,h.sk,h.uz⟩
 have:=h.mem.blk.set 12 (.bool b)
 rw[xy _ _ _ _ h.good.dm.len] at this;exact this
theorem iM.pos {W:World} {X:Nat} {zs:List Int} {s:WS} (h:iM W X zs s):∀i,i<s.ts.length->1<=(s.ts.getD i aH).vars.length:=fun i hi=>by
 have hb:i<s.bs.length:=by rw[<-h.mem.fits.1];exact hi
 rw[h.mem.fits.2 i hb];exact(h.mem.yI i hb).1.pos
theorem WS.Qw {s:WS} (h:s.l.busy=false):(s.jl true).jl false=s:=by
 unfold WS.jl;rw[<-h]
theorem XD (B X:Nat) (old:Value) (u:FrameMode) (w:World) (h1:w.cell? ⟨B,0,none⟩=some (.pointer (some ⟨X,0,none⟩))) (h2:w.cell? ⟨X,12,none⟩=some old) (h3:w.frozen? ⟨X,12,none⟩=false):
  CallsD Tryz.prog 90 #[.pointer (some ⟨B,0,none⟩)] u w fun e u' w'=>u'=u/\(e= .returned (.tuple #[])/\w'=w.setCell ⟨X,12,none⟩ (.bool false)):=by
 go_enter_d Tryz.func90,Tryz.ntmps90
 go_wp2
 go_end0
 exact⟨rfl,rfl⟩
theorem vF {w:World} {a:Addr} {old:Value} (fn:Fn) (fs cs:Array Value) (hc:w.cell? a=some old) (hf:w.frozen? a=false):(store a (.func fn fs cs)).run Tryz.prog w= .ok () (w.setCell a (.func fn fs cs)):=by
 unfold store;show (Sem.store Mode.plain a (.func fn fs cs) (.pure ())).run Tryz.prog w=_
 unfold Sem.run;simp[hc,hf,Sem.run]
structure ac7 (W:World) (N:Nat) (ts:List Tab) (dZ:List Value):Prop where
 len:dZ.length=8
 row:∀i,i<8->Row W (dZ.getD i undef) 73 ((dY ts i).map Tab.val)
 new:∀i k,i<8->(dZ.getD i undef).ownBlock=some k->N<=k
 inj:∀i j k,i<8->j<8->(dZ.getD i undef).ownBlock=some k->(dZ.getD j undef).ownBlock=some k->i=j
theorem FX (ts:List Tab) (k i:Nat) (hk:k<ts.length):dY (ts.take (k+1)) i=dY (ts.take k) i++if lastOf (ts.getD k aH).vars=(i:Int) then [ts.getD k aH] else []:=by
 have h1:ts.take (k+1)=ts.take k++[ts.getD k aH]:=by
  rw[List.take_add_one,List.getElem?_eq_getElem hk]
  simp[List.getD,hk]
 rw[h1];unfold dY;rw[List.filter_append];congr 1
 obtain⟨x,hx⟩:∃x,ts.getD k aH=x:=⟨_,rfl⟩;rw[hx];by_cases h:lastOf x.vars=(i:Int)
 ·rw[if_pos h,List.filter_cons_of_pos (by simpa using h)]
  rfl
 ·rw[if_neg h,List.filter_cons_of_neg (by simpa using h)]
  rfl
theorem Qx (l:List Value) (j:Nat) (v:Value) (h:j<l.length):(l.set j v).getD j undef=v:=by
 simp[List.getD,h]
theorem Qy (l:List Value) (i j:Nat) (v:Value) (h:j≠i):(l.set j v).getD i undef=l.getD i undef:=by
 simp[List.getD,List.getElem?_set_ne h]
structure afw (W W1 wr:World) (X L:Nat) (ts:List Tab) (k:Nat) (dZ:List Value):Prop where
 fr:Fr (fun j=>j=W.heap.size+1) W1 wr
 gb:af wr (W.heap.size+1) (dD X dZ (.slice none 0 0) (.func (.yield L) #[] #[])) 158
 r:ac7 wr (W.heap.size+2) (ts.take k) dZ
theorem Cb (X:Nat) (dZ:List Value) (lv yv v:Value) (i:Nat) (h:i<dZ.length):(dD X dZ lv yv).setIfInBounds (1+i) v=dD X (dZ.set i v) lv yv:=by
 rw[Nat.add_comm];simp[dD,List.set_append_left,h]
structure Jm (J Jx:List (List Nat)->(Nat->Prop)->World->Prop) (X:Nat) (zs:List Int) (s:WS) (L:Nat) (all:List (List Nat)) (C:Nat->Prop) (W:World) (e:Ending) (W':World):Prop where
 ex:(∃v,e= .returned v)/\∃C':Nat->Prop,(∀k,C' k->C k\/W.heap.size<=k)/\iM W' X zs s/\Fr (fun k=>C k\/k=L\/k=X) W W'/\(J all C' W'\/∃p x,(p++[x]) <+: all/\Jx (p++[x]) C' W')
set_option maxRecDepth 1000000 in
theorem Dx (X:Nat) (zs:List Int) (s:WS) (L:Nat) (J Jx:List (List Nat)->(Nat->Prop)->World->Prop) (C:Nat->Prop) (W:World) (hA:iM W X zs s) (hbz:s.l.busy=false) (hS:Qp X zs (s.jl true) L W.heap.size (je s.d s.bs zs.length []) J Jx)
  (hX:∀done C A B,J done C A->Fr (fun k=>k=X) A B->(∀cur,¬af A X cur 151)->J done C B) (hXx:∀done C A B,Jx done C A->Fr (fun k=>k=X) A B->(∀cur,¬af A X cur 151)->Jx done C B) (hJ:J [] C W) (hC:∀k,s.own X k->¬C k) (hpos:∀i,i<s.ts.length->1<=(s.ts.getD i aH).vars.length):
  Calls Tryz.prog 77 #[.pointer (some ⟨X,0,none⟩),.func (.yield L) #[] #[]] W (Jm J Jx X zs s L (je s.d s.bs zs.length []) C W):=by
 have hd8:s.d.length=8:=hA.good.dm.len;have hcb:W.cell? ⟨X,12,none⟩=some (.bool false):=(hA.mem.blk.cell 12).trans ((bu _ _ _ _ hd8).trans (by rw[hbz]))
 have hcf:=hA.mem.blk.free 12;have uT:=hA.mem.blk.lt;have hct:W.cell? ⟨X,9,none⟩=some (.slice s.so s.ts.length s.aI):=(hA.mem.blk.cell 9).trans (dV _ _ _ _ hd8)
 have IU:=hA.mem.t12;have hmf:∀(fn:Fn) (first cap:Array Value) (w:World),(Instr.makeFunc fn first cap).run Tryz.prog w= .ok (.func fn first cap) w:=fun _ _ _ _=>rfl
 have hnf:∀w:World,(binOp .eql 31 (.func (.yield L) #[] #[]) .nilFunc).run Tryz.prog w= .ok (.bool false) w:=fun _=>by kernel_rfl
 have hst:=fun (W0:World) (hW0:W0.heap.size=W.heap.size+1)=>vF (w:=W0.alloc (.cells #[.pointer (some ⟨X,0,none⟩),.slice none 0 0,.slice none 0 0,.slice none 0 0,.slice none 0 0,.slice none 0 0,.slice none 0 0,.slice none 0 0,.slice none 0 0,.slice none 0 0,.nilFunc] 158)) (a:=⟨W.heap.size+1,10,none⟩) (old:=.nilFunc) (.yield L) #[] #[] (by rw[<-hW0];exact(af.new W0 _ _).cell 10) (by rw[<-hW0];exact(af.new W0 _ _).free 10)
 have Xm:=hst ((W.setCell ⟨X,12,none⟩ (.bool true)).alloc (.cells #[.pointer (some ⟨X,0,none⟩)] 35)) (by simp[World.setCell])
 clear hst;have HA:=hd hA;have HJ:=hd hJ;have HC:=hd hC;clear hA hJ hC;go_enter_defers Tryz.func77,Tryz.ntmps77
 go_wp2_with fail
 obtain⟨W1,hW1⟩:∃W1,W1=((W.setCell ⟨X,12,none⟩ (.bool true)).alloc (.cells #[.pointer (some ⟨X,0,none⟩)] 35)).alloc (.cells #[.pointer (some ⟨X,0,none⟩),.slice none 0 0,.slice none 0 0,.slice none 0 0,.slice none 0 0,.slice none 0 0,.slice none 0 0,.slice none 0 0,.slice none 0 0,.slice none 0 0,.func (.yield L) #[] #[]] 158):=⟨_,rfl⟩;have hsz0:(W.setCell ⟨X,12,none⟩ (.bool true)).heap.size=W.heap.size:=by simp[World.setCell]
 have hfX:Fr (fun k=>k=X) W W1:=by rw[hW1];exact(((Fr.refl (fun k=>k=X) W).setCell _ _ (.inl rfl)).alloc _).alloc _
 have hs1:W1.heap.size=W.heap.size+2:=by rw[hW1];simp[hsz0]
 have hbB:af W1 W.heap.size #[.pointer (some ⟨X,0,none⟩)] 35:=by
  have h1:=af.new (W.setCell ⟨X,12,none⟩ (.bool true)) #[.pointer (some ⟨X,0,none⟩)] 35;rw[hsz0] at h1;rw[hW1];exact h1.alloc _
 have Gu:af W1 (W.heap.size+1) (dD X (List.replicate 8 (.slice none 0 0)) (.slice none 0 0) (.func (.yield L) #[] #[])) 158:=by
  have h1:=af.new ((W.setCell ⟨X,12,none⟩ (.bool true)).alloc (.cells #[.pointer (some ⟨X,0,none⟩)] 35)) #[.pointer (some ⟨X,0,none⟩),.slice none 0 0,.slice none 0 0,.slice none 0 0,.slice none 0 0,.slice none 0 0,.slice none 0 0,.slice none 0 0,.slice none 0 0,.slice none 0 0,.func (.yield L) #[] #[]] 158;rw[show ((W.setCell ⟨X,12,none⟩ (.bool true)).alloc (.cells #[.pointer (some ⟨X,0,none⟩)] 35)).heap.size=W.heap.size+1 from by simp[hsz0]] at h1
  rw[hW1];exact h1
 have hA1:iM W1 X zs (s.jl true):=by
  rw[hW1];exact(HA.out.busy true).nw (((Fr.refl _ _).alloc _).alloc _)
 rw[<-hW1];have HW1:=hd hW1;have JY:=hd hbB;have HbG:=hd Gu;have HA1:=hd hA1;have HfX:=hd hfX;clear hW1 hbB Gu hA1 hfX Xm hcb hcf hct;have hrep:∀i,i<8->(List.replicate 8 (Value.slice none 0 0)).getD i undef= .slice none 0 0:=fun i hi=>by simp only[List.getD,List.getElem?_replicate,if_pos hi,Option.getD_some]
 obtain⟨i0,hi0,hz0,hz1,hz2⟩:=info_parts Tryz.Ec;go_loopw [6,27] (fun _ i wr=>∃(k:Nat) (dZ:List Value),k<=s.ts.length/\i= .int .i64 (k:Int)/\Hid (afw W W1 wr X L s.ts k dZ)) (fun _ i _=>s.ts.length-(intOf i).toNat)
 case atStart=>
  refine⟨0,List.replicate 8 (.slice none 0 0),by omega,rfl,⟨Fr.refl _ _,HbG.out,rfl,fun i hi=>?_,fun i k hi hk=>?_,fun i j k hi hj hk=>?_⟩⟩
  ·rw[hrep i hi];exact Row.nil _ _
  ·rw[hrep i hi] at hk;cases hk
  ·rw[hrep i hi] at hk;cases hk
 case round=>
  obtain⟨k,dZ,hk,rfl,HT⟩:=hrel;by_cases hlt:k<s.ts.length
  ·have hdk:(k:Int)<(s.ts.length:Int):=by omega
   have hAr:iM wr X zs (s.jl true):=HA1.out.fr HT.out.fr (fun j hj e=>by
    have:=HA.out.mem.lt hj
    omega) (Only.one HbG.out) (by decide)
   obtain⟨tg,agB,hre,UM,hck,_⟩:=hAr.mem.tabs.row.cell k (by rw[List.length_map];exact hlt)
   have hso:s.so=some ⟨tg,0,none⟩:=by
    injection hre
   have hat:=hAr.mem.tabs.at_ k hlt;have h4:=hAr.mem.tabs.four k hlt;have hok:=hAr.mem.tabs.ok k hlt;have hp:=hpos k hlt;have hxk:s.ts[k]'hlt=s.ts.getD k aH:=by simp[List.getD,hlt]
   have aaE:wr.cell? ⟨tg,k,none⟩=some (s.ts.getD k aH).val:=by
    rw[hck,<-hxk];simp only[List.getElem_map];rfl
   obtain⟨x,hx⟩:∃x,s.ts.getD k aH=x:=⟨_,rfl⟩;have hx':(s.jl true).ts.getD k aH=x:=hx;rw[hx'] at hat h4 hok;rw[hx] at hp aaE;obtain⟨j,hj,hj8⟩:∃j:Nat,lastOf x.vars=(j:Int)/\j<8:=by
    obtain⟨i,hi,he⟩:=tH x.vars x.vars.length (by omega)
    have:=hok i hi
    exact⟨(lastOf x.vars).toNat,by unfold lastOf;omega,by unfold lastOf;omega⟩
   have yf:=hat.vars.1;have HvI:=hd hat.vars.2;have hmc:=TS.tJ x.t x.G _ wr yf;have uI:=hat.lt (.inl rfl);have zU:wr.cell? ⟨tg,k,none⟩=some (.iface x.t.ty (.pointer (some ⟨x.G,0,none⟩))):=aaE
   obtain⟨ty,hty⟩:∃ty,x.t.ty=ty:=⟨_,rfl⟩;rw[hty] at zU hmc;have Hx:=hd hx;have ZQ:=hd hty;have Hat:=hd hat;have HAr:=hd hAr;have htl:=hAr.mem.tabs.row.lt UM;rw[hso];clear hx hx' hty hat hAr hck aaE hxk hre UM hok;go_wp2_with fail
   have hl1:=last_any x.g 0 x.cap x.vars wr hp h4 HvI.out;rw[hj] at hl1;refine hl1.mono ?_
   clear hl1 hmc;rintro e w1 ⟨rfl,hf1⟩
   have ac8:w1.cell? ⟨x.G,0,none⟩=some (.slice (some ⟨x.g,0,none⟩) x.vars.length x.cap):=(hf1.cell uI (fun h=>h)).trans yf
   have hmc1:=TS.tJ x.t x.G _ w1 ac8;rw[ZQ.out] at hmc1;go_wp2_with fail
   have hl2:=last_any x.g 0 x.cap x.vars w1 hp h4 (HvI.out.nw hf1);rw[hj] at hl2;refine hl2.mono ?_
   clear hl2 hmc1;rintro e w2 ⟨rfl,hf2⟩
   have su:Nw wr w2:=hf1.trans hf2 (fun i h=>h.elim)
   have hG2:=HT.out.gb.nw su;have hr2:=(HT.out.r.row j hj8).nw su;obtain⟨rv,yT⟩:∃rv,dZ.getD j undef=rv:=⟨_,rfl⟩;rw[yT] at hr2;obtain⟨xs,hxs⟩:∃xs,(dY (s.ts.take k) j).map Tab.val=xs:=⟨_,rfl⟩;rw[hxs] at hr2;obtain⟨ro,rc,hrf,_⟩:=hr2.form;have hln:(dY (s.ts.take k) j).length<=12:=by
    have h1:=List.length_filter_le (fun x=>decide (lastOf x.vars=(j:Int))) (s.ts.take k)
    have h2:(s.ts.take k).length<=k:=by simp;omega
    unfold dY;omega
   have hxl:xs.length<=12:=by rw[<-hxs,List.length_map];exact hln
   have hcr:w2.cell? ⟨W.heap.size+1,1+j,none⟩=some rv:=(hG2.cell _).trans ((rZ _ _ _ _ _ (by rw[HT.out.r.len];exact hj8)).trans (by rw[yT]))
   have We:rv.ownBlock≠some (W.heap.size+1):=hr2.ne hG2 (by decide)
   have aha:(j:Int)<8:=by omega
   subst hrf;have HG2:=hd hG2;have Hr2:=hd hr2;have V5:=hd yT;have Qz:=hd su;have HnG:=hd We;have Hxs:=hd hxs;clear hG2 yT hf1 hf2 su ac8 yf We zU hxs hln;go_wp2_with (at_builtin;refine wpList_append_own_at _ rfl _ _ 61 rfl 0 73 i0 .nilIface 1 16 Tryz.underlying61 hi0 hz0 hz1 hz2 rfl (by decide) _ _ _ rfl (Row.alloc hr2 _) ⟨_,0,none⟩ 1 1 [.iface ty (.pointer (some ⟨x.G,0,none⟩))] rfl rfl (cell_one_new _ _ _) (by simp[Value.oneCell']) (by unfold maxLen;omega) (by omega) (Nat.zero_le _) ?_;intro v' w3 hown' hgrow _ hat;obtain⟨g',cap',rfl,hr3,hf3,AA,hlt3⟩:=app1 hown' hgrow hat;have hG3:=HG2.out.fr hf3 HnG.out;have ahb:=hG3.free (1+j);have hcr3:=(hG3.cell (1+j)).trans (rZ X dZ (.slice none 0 0) (.func (.yield L) #[] #[]) j (by rw[HT.out.r.len];exact hj8));have Zp:=hd hG3;clear hG3 hown' hgrow hat)
   have hown:∀q,(Value.slice ro xs.length rc).ownBlock=some q->W.heap.size+2<=q:=fun q hq=>HT.out.r.new j q hj8 (by rw[V5.out];exact hq)
   have hg':W.heap.size+2<=g':=by
    rcases AA with h | h
    ·exact hown g' h
    ·have:=HT.out.fr.size
     have:=Qz.out.size
     omega
   have hf4:Fr (fun q=>(Value.slice ro xs.length rc).ownBlock=some q\/q=W.heap.size+1) w2 (w3.setCell ⟨W.heap.size+1,1+j,none⟩ (.slice (some ⟨g',0,none⟩) (xs.length+1) cap')):=(hf3.mono (fun i h=>.inl (.inl h))).setCell _ _ (.inl (.inr rfl))
   have hset:∀i,i<8->i≠j->(dZ.set j (.slice (some ⟨g',0,none⟩) (xs.length+1) cap')).getD i undef=dZ.getD i undef:=fun i _ hne=>Qy _ _ _ _ (fun e=>hne e.symm)
   have Ol:(dZ.set j (.slice (some ⟨g',0,none⟩) (xs.length+1) cap')).getD j undef= .slice (some ⟨g',0,none⟩) (xs.length+1) cap':=Qx _ _ _ (by rw[HT.out.r.len];exact hj8)
   have hoth:∀i q,i<8->i≠j->(dZ.getD i undef).ownBlock=some q->(Value.slice ro xs.length rc).ownBlock≠some q/\q≠g':=fun i q hi hne hq=>by
    have h1:(Value.slice ro xs.length rc).ownBlock≠some q:=fun h=>hne (HT.out.r.inj i j q hi hj8 hq (by rw[V5.out];exact h))
    refine⟨h1,fun e=>?_⟩
    subst e;rcases AA with h | h
    ·exact h1 h
    ·have:=((HT.out.r.row i hi).nw Qz.out).lt hq
     omega
   refine⟨⟨k+1,dZ.set j (.slice (some ⟨g',0,none⟩) (xs.length+1) cap'),by omega,by simp,⟨?_,?_,⟨?_,fun i hi=>?_,fun i q hi hq=>?_,fun i i' q hi hi' hq hq'=>?_⟩⟩⟩,by simp[intOf];omega⟩
   ·refine(HT.out.fr.trans Qz.out (fun i h=>h.elim)).trans hf4 (fun i h=>?_)
    rcases h with h | h
    ·have:=hown i h
     exact .inr (by omega)
    ·exact .inl h
   ·rw[<-Cb X dZ _ _ _ j (by rw[HT.out.r.len];exact hj8)]
    exact Zp.out.set (1+j) _
   ·rw[List.length_set];exact HT.out.r.len
   ·rw[FX s.ts k i hlt,Hx.out,hj];by_cases h:i=j
    ·subst h;rw[Ol,if_pos rfl,List.map_append,Hxs.out];have h5:[x].map Tab.val=[.iface ty (.pointer (some ⟨x.G,0,none⟩))]:=by simp[Tab.val,ZQ.out]
     rw[h5];exact hr3.fr ((Fr.refl (fun q=>q=W.heap.size+1) w3).setCell ⟨W.heap.size+1,1+i,none⟩ _ (.inl rfl)) (fun q hq e=>by cases hq;have e':g'=W.heap.size+1:=e;omega)
    ·rw[hset i hi h,if_neg (by omega),List.append_nil]
     exact((HT.out.r.row i hi).nw Qz.out).fr hf4 (fun q hq hh=>by
      rcases hh with hh | hh
      ·exact(hoth i q hi h hq).1 hh
      ·have:=HT.out.r.new i q hi hq;omega)
   ·by_cases h:i=j
    ·subst h;rw[Ol] at hq;cases hq;exact hg'
    ·rw[hset i hi h] at hq;exact HT.out.r.new i q hi hq
   ·by_cases h:i=j
    ·by_cases h':i'=j
     ·rw[h,h']
     ·subst h;rw[Ol] at hq;rw[hset i' hi' h'] at hq';cases hq;exact absurd rfl (hoth i' g' hi' h' hq').2
    ·by_cases h':i'=j
     ·subst h';rw[Ol] at hq';rw[hset i hi h] at hq;cases hq';exact absurd rfl (hoth i g' hi h hq).2
     ·rw[hset i hi h] at hq;rw[hset i' hi' h'] at hq';exact HT.out.r.inj i i' q hi hi' hq hq'
  ·obtain rfl:k=s.ts.length:=by omega
   have hr:=HT.out.r;rw[List.take_length] at hr;have hAr:iM wr X zs (s.jl true):=HA1.out.fr HT.out.fr (fun j hj e=>by
    have:=HA.out.mem.lt hj
    omega) (Only.one HbG.out) (by decide)
   have Aa:∀q,C q->q<W.heap.size:=fun q hq=>by
    obtain⟨cur,e,hb,_⟩:=hS.cells _ _ _ _ HJ.out hq;exact hb.lt
   obtain⟨lr,hlr⟩:=hS.ac4 _ _ _ HJ.out;have hLl:=lt_of_block hlr;have hJr:J [] C wr:=hS.st _ _ _ _ _ (hX _ _ _ _ HJ.out HfX.out (fun cur hb=>absurd (hb.inj HA.out.mem.blk).2 (by decide))) HT.out.fr (fun q hq=>⟨by omega,fun hc=>by have:=Aa q hc;omega,fun cur hb=>by subst hq;exact absurd (hb.inj HbG.out).2 (by decide)⟩)
   have hGo:uj wr (W.heap.size+1) X s.ts dZ (.slice none 0 0) (.func (.yield L) #[] #[]) []:=⟨HT.out.gb,hr.len,hr.row,Row.nil _ _⟩;have ac9:xx (W.heap.size+1) X (s.jl true) L W.heap.size dZ (.slice none 0 0) C:=by
    refine⟨by omega,fun hc=>?_,fun q hq=>(by cases hq),fun i q hi hq=>⟨?_,fun hc=>?_⟩,hLl,fun q hq=>⟨HA.out.mem.lt hq,fun e=>?_,HC.out q hq⟩⟩
    ·have:=Aa _ hc;omega
    ·have:=hr.new i q hi hq;omega
    ·have:=hr.new i q hi hq
     have:=Aa _ hc
     omega
    ·subst e;obtain⟨cur,e,hb,_⟩:=HA.out.mem.ty hq;have hb':W.heap[q]? = some (.cells cur e (0,0)):=hb
     rw[hlr] at hb';cases hb'
   have hcall:=Jl (W.heap.size+1) X zs (s.jl true) L W.heap.size (je s.d s.bs zs.length []) J Jx hS dZ zs.length [] (.slice none 0 0) [] C wr (by simp) hJr hAr hGo ac9 (List.prefix_refl _) (fun q hq=>absurd hq (Nat.not_lt_zero _))
   have aK:=hd hcall;clear hcall;go_wp2_with fail
   refine aK.out.mono ?_
   rintro e W6 ⟨C6,lv6,l6,YU,hp6,hG6,U4,hl6,nI,hcase⟩
   have hA6:iM W6 X zs (s.jl true):=U3 hS hJr hAr hGo ac9 nI;have hsr:W.heap.size+2<=wr.heap.size:=by have:=HT.out.fr.size;omega
   have hb6:af W6 W.heap.size #[.pointer (some ⟨X,0,none⟩)] 35:=(JY.out.fr HT.out.fr (by omega)).fr nI (fun h=>by
    rcases h with h | h | h | h
    ·have:=Aa _ h;omega
    ·omega
    ·omega
    ·cases h)
   obtain⟨b,rfl,hb⟩:∃b,e= .returned (.bool b)/\((b=true/\J (je s.d s.bs zs.length []) C6 W6)\/(b=false/\∃p x,(p++[x]) <+: je s.d s.bs zs.length []/\Jx (p++[x]) C6 W6)):=by
    rcases hcase with ⟨h1,h2⟩ | ⟨h1,p,x,h2,h3⟩
    ·exact⟨true,h1,.inl ⟨rfl,by simpa[WS.jl] using h2⟩⟩
    ·exact⟨false,h1,.inr ⟨rfl,p,x,h2,by simpa using h3⟩⟩
   have HA6:=hd hA6;have V3:=hd hb6;have Pn:=hd nI;have Hb:=hd hb;have Hg6:=hd YU;clear hA6 hb6 nI hb YU hG6 U4 hl6 hp6 hcase aK;go_wp2_with fail
   refine leaves_cons (f:=90) (args:=#[.pointer (some ⟨W.heap.size,0,none⟩)]) (by simp) (by simp[go_sem]) ?_
   refine(XD W.heap.size X (.bool true) .returning _ (V3.out.cell 0) ((HA6.out.mem.blk.cell 12).trans (bu _ _ _ _ hd8)) (HA6.out.mem.blk.free 12)).mono ?_
   rintro e u' w'' ⟨rfl,rfl,rfl⟩
   have hfe:Fr (fun q=>q=X) W6 (W6.setCell ⟨X,12,none⟩ (.bool false)):=(Fr.refl _ W6).setCell _ _ (.inl rfl)
   refine⟨_,results_none rfl _ _ _,⟨⟨_,rfl⟩,C6,fun q hq=>(Hg6.out q hq).imp id (fun h=>by omega),?_,?_,?_⟩⟩
   ·have h1:=HA6.out.busy false;rw[WS.Qw hbz] at h1;exact h1
   ·refine(((HfX.out.mono (S':=fun q=>C q\/q=L\/q=X) (fun i h=>.inl (.inr (.inr h)))).trans HT.out.fr (fun i h=>.inr (by omega))).trans Pn.out (fun i h=>?_)).trans hfe (fun i h=>.inl (.inr (.inr h)))
    rcases h with h | h | h | h
    ·exact .inl (.inl h)
    ·exact .inl (.inr (.inl h))
    ·exact .inr (by omega)
    ·cases h
   ·rcases Hb.out with ⟨_,h⟩ | ⟨_,p,x,h1,h2⟩
    ·exact .inl (hX _ _ _ _ h hfe (fun cur hb=>absurd (hb.inj HA6.out.mem.blk).2 (by decide)))
    ·exact .inr ⟨p,x,h1,hXx _ _ _ _ h2 hfe (fun cur hb=>absurd (hb.inj HA6.out.mem.blk).2 (by decide))⟩
end Go.Proofs.YtkjfpdfkcfgfkaaGreat
namespace Go.Proofs.YtkjfpdfkcfgfkaaGreat
open Go.RowKit Go.Shelf
attribute [local go_sem] Oper.semAt_some
theorem o8 (X:Nat) (w:World):Calls Tryz.prog 50 #[.pointer (some ⟨X,0,none⟩)] w fun e w'=>e= .returned (.func (.func 77) #[.pointer (some ⟨X,0,none⟩)] #[])/\w'=w:=by
 have hmf:∀(fn:Fn) (first cap:Array Value) (w:World),(Instr.makeFunc fn first cap).run Tryz.prog w= .ok (.func fn first cap) w:=fun _ _ _ _=>rfl
 go_enter Tryz.func50,Tryz.ntmps50
 go_wp2
 go_ret
 exact⟨rfl,rfl⟩
def Om (I Ix:(Nat->Prop)->World->Prop) (id:Nat) (C:Nat->Prop) (g:Nat) (W:World):Exit->Act->World->Prop
 | .normal,_,W'=>∃C':Nat->Prop,(∀k,C' k->C k\/k=g\/W.heap.size<=k)/\Fr (fun k=>C k\/k=g) W W'/\I C' W'
 | .exit i,_,W'=>i=id/\∃C':Nat->Prop,(∀k,C' k->C k\/k=g\/W.heap.size<=k)/\Fr (fun k=>C k\/k=g) W W'/\Ix C' W'
 | _,_,_=>False
structure Cc (X N:Nat) (I:List (List Nat)->(Nat->Prop)->World->Prop):Prop where
 st:∀done C S A B,I done C A->Fr S A B->(∀k,S k->((N<=k/\¬C k)\/k=X)/\∀cur,¬af A k cur 151)->I done C B
 cells:∀done C A k,I done C A->C k->∃cur e,af A k cur e/\e≠151
theorem Oo {n X:Nat} {zs:List Int} {s:WS} {g:Operand} {t:Tmp} {id:Nat} {assign body:Code} {Q:Exit->Act->World->Prop} {a:Act} {w:World} (av:Value->Act)
  (hg:a.eval g= .func (.func 77) #[.pointer (some ⟨X,0,none⟩)] #[]) (hA:iM w X zs s) (hbz:s.l.busy=false) (hpos:∀i,i<s.ts.length->1<=(s.ts.getD i aH).vars.length)
  (hassign:∀(l:Nat) (v:Value) (W:World) (K:Act->World->Prop),K (av v) W->assign.wpIn (Fence.wide.inRound l) (n-1-1) Tryz.prog (Exit.then K (fun _ _ _=>False)) {tmps:=a.tmps.setIfInBounds t v,defers:=[]} W)
  (I Ix:List (List Nat)->(Nat->Prop)->World->Prop) (hI:Cc X w.heap.size I) (hIx:Cc X w.heap.size Ix) (C:Nat->Prop) (hC:∀k,s.own X k->¬C k) (h0:I [] C w)
  (pY:∀(l:Nat) (done:List (List Nat)) (C:Nat->Prop) (x:List Nat) (b cap:Nat) (W:World),(done++[x]) <+: je s.d s.bs zs.length []->I done C W->iM W X zs (s.jl true)->w.heap.size<=b->¬C b->Row W (.slice (some ⟨b,0,none⟩) x.length cap) 3 (ints x) ->
   body.wpIn (Fence.wide.inRound l) (n-1-1) Tryz.prog (Om (I (done++[x])) (Ix (done++[x])) id C b W) (av (.slice (some ⟨b,0,none⟩) x.length cap)) W)
  (hdone:∀(D:Nat) (C':Nat->Prop) (W:World),w.heap.size<=D->(∀k,C' k->C k\/w.heap.size<=k)->I (je s.d s.bs zs.length []) C' W->iM W X zs s->Fr (fun k=>C k\/k=X) w W->W.heap[D]? = some (.deferred (some []))->Q .normal {a with defers:=mark D::a.defers} W)
  (hstop:∀(D:Nat) (C':Nat->Prop) (p:List (List Nat)) (x:List Nat) (W:World),w.heap.size<=D->(∀k,C' k->C k\/w.heap.size<=k)->(p++[x]) <+: je s.d s.bs zs.length []->Ix (p++[x]) C' W->iM W X zs s->Fr (fun k=>C k\/k=X) w W->W.heap[D]? = some (.deferred (some []))->(Code.exit id).wpIn Fence.wide n Tryz.prog Q {a with defers:=mark D::a.defers} W):
  (Code.rangeFunc g #[t] assign body).wpIn Fence.wide n Tryz.prog Q a w:=by
 refine wpIn_rangeFunc ?_
 intro fn hfn;obtain⟨rec,hrec⟩:∃rec:LoopState->Option Code->Loop,rec=fun st pe=>{state:=st,pending:=pe,fn,tmps:=a.tmps,params:=#[t],assign,body,defers:=w.heap.size}:=⟨_,rfl⟩
 obtain⟨W1,hW1⟩:∃W1,(w.alloc (.deferred (some []))).alloc (.loop (rec .ready none))=W1:=⟨_,rfl⟩;have hf1:Nw w W1:=by rw[<-hW1];exact((Fr.refl _ w).alloc _).alloc _
 have hs1:W1.heap.size=w.heap.size+2:=by rw[<-hW1];simp
 have hL1:W1.heap[w.heap.size+1]? = some (.loop (rec .ready none)):=by
  rw[<-hW1];have:=heap_alloc_new (w.alloc (.deferred (some []))) (.loop (rec .ready none))
  simpa using this
 have hK1:W1.heap[w.heap.size]? = some (.deferred (some [])):=by
  rw[<-hW1];exact(Below.heap_alloc _ _ _ (by simp)).trans (heap_alloc_new w _)
 have hI1:I [] C W1:=hI.st _ _ _ _ _ h0 hf1 (fun k h=>h.elim)
 have uT:=hA.mem.blk.lt;have hb0:∀(k:Nat) (A:World) (cur:Array Value) (e:TypeId) (o:Obj),A.heap[k]? = some o->kV o=true->¬af A k cur e:=fun k A cur e o ho hl hb=>by
  have hb':A.heap[k]? = some (.cells cur e (0,0)):=hb
  rw[hb'] at ho;cases ho;cases hl
 have ada:Qp X zs (s.jl true) (w.heap.size+1) W1.heap.size (je s.d s.bs zs.length [])
   (fun done C A=>I done C A/\A.heap[w.heap.size+1]? = some (.loop (rec .ready none))/\A.heap[w.heap.size]? = some (.deferred (some [])))
   (fun done C A=>Ix done C A/\A.heap[w.heap.size+1]? = some (.loop (rec .done (some (.exit id))))/\A.heap[w.heap.size]? = some (.deferred (some []))):=by
  refine⟨?_,?_,?_,?_,?_,?_⟩
  ·rintro done C S A B ⟨h1,h2,h3⟩ hf hs
   exact⟨hI.st _ _ _ _ _ h1 hf (fun k hk=>⟨.inl ⟨by have:=(hs k hk).1;omega,(hs k hk).2.1⟩,(hs k hk).2.2⟩),(hf.block _ (lt_of_block h2) (fun hk=>by have:=(hs _ hk).1;omega)).trans h2,(hf.block _ (lt_of_block h3) (fun hk=>by have:=(hs _ hk).1;omega)).trans h3⟩
  ·rintro done C S A B ⟨h1,h2,h3⟩ hf hs
   exact⟨hIx.st _ _ _ _ _ h1 hf (fun k hk=>⟨.inl ⟨by have:=(hs k hk).1;omega,(hs k hk).2.1⟩,(hs k hk).2.2⟩),(hf.block _ (lt_of_block h2) (fun hk=>by have:=(hs _ hk).1;omega)).trans h2,(hf.block _ (lt_of_block h3) (fun hk=>by have:=(hs _ hk).1;omega)).trans h3⟩
  ·exact fun done C A k h hc=>hI.cells _ _ _ _ h.1 hc
  ·exact fun done C A k h hc=>hIx.cells _ _ _ _ h.1 hc
  ·exact fun done C A h=>⟨_,h.2.1⟩
  ·rintro done C x b cap m W ⟨hi,hl,hk⟩ hAW hpre hbN hbC hrow
   refine Ji (m:=n-1-1) ?_
   have hlt:w.heap.size+1<W.heap.size:=lt_of_block hl;obtain⟨v,hv⟩:∃v,Value.slice (some ⟨b,0,none⟩) x.length cap=v:=⟨_,rfl⟩;have hy:=run_yield (P:=Tryz.prog) (args:=#[v]) hl (by rw[hrec];rfl)
   rw[hrec] at hy;dsimp only at hy
   have hfold:((#[t]:Array Tmp).zip #[v]).foldl (fun tmps (x:Tmp×Value)=>match x with | (t,a)=>tmps.setIfInBounds t a) a.tmps=a.tmps.setIfInBounds t v:=by simp
   rw[hfold] at hy;obtain⟨Wy,hWy⟩:∃Wy,W.putObj (w.heap.size+1) (.loop {rec .ready none with state:=.busy})=Wy:=⟨_,rfl⟩
   have WA:Fr (fun k=>k=w.heap.size+1) W Wy:=by rw[<-hWy];exact(Fr.refl (fun k=>k=w.heap.size+1) W).grown (grownBy_putObj' W _ _) (fun k hk=>by cases hk;exact .inl rfl)
   have hl2:Wy.heap[w.heap.size+1]? = some (.loop {rec .ready none with state:=.busy}):=by rw[<-hWy];exact World.putObj_heap_same hlt
   have hk2:Wy.heap[w.heap.size]? = some (.deferred (some [])):=by rw[<-hWy];exact(World.putObj_heap_other (by omega)).trans hk
   have hCW:∀k,C k->∃cur e,af W k cur e/\e≠151:=fun k hk=>hI.cells _ _ _ _ hi hk
   have hLC:¬C (w.heap.size+1):=fun hc=>by
    obtain⟨cur,e,hb,_⟩:=hCW _ hc;exact hb0 _ _ _ _ _ hl rfl hb
   have hDC:¬C w.heap.size:=fun hc=>by
    obtain⟨cur,e,hb,_⟩:=hCW _ hc;exact hb0 _ _ _ _ _ hk rfl hb
   have hiy:I done C Wy:=hI.st _ _ _ _ _ hi WA (fun k hk=>⟨.inl ⟨by omega,by rw[hk];exact hLC⟩,fun cur hb=>by rw[hk] at hb;exact hb0 _ _ _ _ _ hl rfl hb⟩)
   have hAy:iM Wy X zs (s.jl true):=hAW.Ro WA (fun k hk e=>by
    obtain⟨cur,e',hb,_⟩:=hAW.mem.ty hk;rw[e] at hb;exact hb0 _ _ _ _ _ hl rfl hb) (fun k cur hk hb=>by
    rw[hk] at hb;exact hb0 _ _ _ _ _ hl rfl hb)
   have hry:Row Wy (.slice (some ⟨b,0,none⟩) x.length cap) 3 (ints x):=hrow.fr WA (fun k hk e=>by cases hk;have e':b=w.heap.size+1:=e;omega)
   have hbody:=pY (w.heap.size+1) done C x b cap Wy hpre hiy hAy (by omega) hbC hry
   rw[hv] at hbody ⊢;refine⟨fn,_,assign,body,hy,roundIn_of_wpIn hfn ?_⟩
   refine hassign _ v W _ ?_
   refine⟨Wy,?_,?_⟩
   ·rw[<-hWy];exact run_beginRound hl (by rw[hrec])
   refine wpIn_mono hbody ?_
   have hsy:=WA.size;have hnS:∀k,k=w.heap.size+1\/k=w.heap.size->¬(C k\/k=b):=fun k hk h=>by
    rcases hk with rfl | rfl
    ·rcases h with h | h
     ·exact hLC h
     ·omega
    ·rcases h with h | h
     ·exact hDC h
     ·omega
   have hend:∀(C':Nat->Prop) (W3:World) (o:Obj),(∀k,C' k->C k\/k=b\/Wy.heap.size<=k)->Fr (fun k=>C k\/k=b) Wy W3->(∀k,C' k->C k\/k=b\/W.heap.size<=k)/\Fr (fun k=>C k\/k=b\/k=w.heap.size+1) W (W3.putObj (w.heap.size+1) o)/\Fr (fun k=>k=w.heap.size+1) W3 (W3.putObj (w.heap.size+1) o)/\¬C' (w.heap.size+1):=fun C' W3 o h1 h2=>by
    have hp:Fr (fun k=>k=w.heap.size+1) W3 (W3.putObj (w.heap.size+1) o):=(Fr.refl (fun k=>k=w.heap.size+1) W3).grown (grownBy_putObj' W3 _ _) (fun k hk=>by cases hk;exact .inl rfl)
    have h1':∀k,C' k->C k\/k=b\/W.heap.size<=k:=fun k hk=>(h1 k hk).imp (fun h=>h) (fun h=>h.imp (fun h=>h) (fun h=>by omega))
    refine⟨h1',(((WA.mono (S':=fun k=>C k\/k=b\/k=w.heap.size+1) (fun i h=>.inl (.inr (.inr h)))).trans h2 (fun i h=>.inl (h.imp (fun h=>h) .inl))).trans hp (fun i h=>.inl (.inr (.inr h)))),hp,fun hc=>?_⟩
    rcases h1' _ hc with h | h | h
    ·exact hLC h
    ·omega
    ·omega
   rintro e a3 W3 hp
   cases e with
   | normal=>
    obtain⟨C',hg3,hf3,hi3⟩:=hp;have hl3:=(hf3.block _ (lt_of_block hl2) (hnS _ (.inl rfl))).trans hl2;have hk3:=(hf3.block _ (lt_of_block hk2) (hnS _ (.inr rfl))).trans hk2;have he:=run_endRound (P:=Tryz.prog) none hl3;refine⟨_,_,he,?_⟩
    obtain⟨h1,h2,h3,h4⟩:=hend C' W3 _ hg3 hf3;refine⟨C',h1,h2,.inl ⟨rfl,hI.st _ _ _ _ _ hi3 h3 (fun k hk=>⟨.inl ⟨by omega,by rw[hk];exact h4⟩,fun cur hb=>by rw[hk] at hb;exact hb0 _ _ _ _ _ hl3 rfl hb⟩),?_,(World.putObj_heap_other (by omega)).trans hk3⟩⟩
    rw[World.putObj_heap_same (lt_of_block hl3),hrec];rfl
   | exit i=>
    obtain⟨rfl,C',hg3,hf3,hi3⟩:=hp;have hl3:=(hf3.block _ (lt_of_block hl2) (hnS _ (.inl rfl))).trans hl2;have hk3:=(hf3.block _ (lt_of_block hk2) (hnS _ (.inr rfl))).trans hk2;have he:=run_endRound (P:=Tryz.prog) (some (.exit i)) hl3;refine⟨_,_,he,?_⟩
    obtain⟨h1,h2,h3,h4⟩:=hend C' W3 _ hg3 hf3;refine⟨C',h1,h2,.inr ⟨rfl,hIx.st _ _ _ _ _ hi3 h3 (fun k hk=>⟨.inl ⟨by omega,by rw[hk];exact h4⟩,fun cur hb=>by rw[hk] at hb;exact hb0 _ _ _ _ _ hl3 rfl hb⟩),?_,(World.putObj_heap_other (by omega)).trans hk3⟩⟩
    rw[World.putObj_heap_same (lt_of_block hl3),hrec];rfl
   | ret=>exact hp.elim
   | goto t=>exact hp.elim
   | panic ch=>exact hp.elim
   | outgrown=>exact hp.elim
 refine⟨w.heap.size+1,[mark w.heap.size],W1,{target:=.fn (.func 77) #[],args:=#[.pointer (some ⟨X,0,none⟩),.func (.yield (w.heap.size+1)) #[] #[]]},W1,77,
  #[.pointer (some ⟨X,0,none⟩),.func (.yield (w.heap.size+1)) #[] #[]],W1,?_,?_,?_,?_,(fun h=>by cases h),?_⟩
 ·rw[<-hW1,hrec];exact run_enterLoop_outer _ _ _ _ _
 ·simp only[resolve,hg];simp[go_sem]
 ·intro f' _;trivial
 ·simp[invoke,go_sem]
 ·refine(callsIn_wide.2 (Dx X zs s (w.heap.size+1) _ _ C W1 (hA.nw hf1) hbz ada ?_ ?_ ⟨hI1,hL1,hK1⟩ hC hpos)).mono ?_
  ·rintro done C A B ⟨h1,h2,h3⟩ hf hno
   exact⟨hI.st _ _ _ _ _ h1 hf (fun k hk=>⟨.inr hk,fun cur hb=>hno cur (hk▸hb)⟩),(hf.block _ (lt_of_block h2) (by omega)).trans h2,(hf.block _ (lt_of_block h3) (by omega)).trans h3⟩
  ·rintro done C A B ⟨h1,h2,h3⟩ hf hno
   exact⟨hIx.st _ _ _ _ _ h1 hf (fun k hk=>⟨.inr hk,fun cur hb=>hno cur (hk▸hb)⟩),(hf.block _ (lt_of_block h2) (by omega)).trans h2,(hf.block _ (lt_of_block h3) (by omega)).trans h3⟩
  have hfin:∀(C':Nat->Prop) (W2:World) (o:Obj) (r:Loop),(∀k,C' k->C k\/W1.heap.size<=k)->iM W2 X zs s->Fr (fun k=>C k\/k=w.heap.size+1\/k=X) W1 W2->W2.heap[w.heap.size+1]? = some (.loop r)->(∀k,C' k->C k\/w.heap.size<=k)/\iM (W2.putObj (w.heap.size+1) o) X zs s/\Fr (fun k=>C k\/k=X) w (W2.putObj (w.heap.size+1) o)/\Fr (fun k=>k=w.heap.size+1) W2 (W2.putObj (w.heap.size+1) o)/\((∀k,C k->k<w.heap.size)->¬C' (w.heap.size+1)):=fun C' W2 o r h1 h2 h3 h4=>by
   have hp:Fr (fun k=>k=w.heap.size+1) W2 (W2.putObj (w.heap.size+1) o):=(Fr.refl (fun k=>k=w.heap.size+1) W2).grown (grownBy_putObj' W2 _ _) (fun k hk=>by cases hk;exact .inl rfl)
   refine⟨fun k hk=>(h1 k hk).imp (fun h=>h) (fun h=>by omega),?_,?_,hp,fun hlt hc=>?_⟩
   ·refine h2.Ro hp (fun k hk e=>?_) (fun k cur hk hb=>?_)
    ·obtain⟨cur,e',hb,_⟩:=h2.mem.ty hk;rw[e] at hb;exact hb0 _ _ _ _ _ h4 rfl hb
    ·rw[hk] at hb;exact hb0 _ _ _ _ _ h4 rfl hb
   ·refine((hf1.mono (fun i h=>h.elim)).trans h3 (fun i h=>?_)).trans hp (fun i h=>.inr (by omega))
    rcases h with h | h | h
    ·exact .inl (.inl h)
    ·exact .inr (by omega)
    ·exact .inl (.inr h)
   ·rcases h1 _ hc with h | h
    ·have:=hlt _ h;omega
    ·omega
  have Aa:∀k,C k->k<w.heap.size:=fun k hk=>by
   obtain⟨cur,e,hb,_⟩:=hI.cells _ _ _ _ h0 hk;exact hb.lt
  rintro e W2 ⟨⟨v,rfl⟩,C',hgr,hA2,hf2,hcase⟩
  rcases hcase with ⟨hi,hl,hk⟩ | ⟨p,x,hpre,hi,hl,hk⟩
  ·obtain⟨h1,h2,h3,h4,h5⟩:=hfin C' W2 (.loop {rec .ready none with state:=.exhausted}) _ hgr hA2 hf2 hl
   refine⟨none,_,?_,hdone w.heap.size C' _ (Nat.le_refl _) h1 (hI.st _ _ _ _ _ hi h4 (fun k hk=>⟨.inl ⟨by omega,by rw[hk];exact h5 Aa⟩,fun cur hb=>by rw[hk] at hb;exact hb0 _ _ _ _ _ hl rfl hb⟩)) h2 h3 ((World.putObj_heap_other (by omega)).trans hk)⟩
   have:=run_endLoop (P:=Tryz.prog) hl (by rw[hrec];simp)
   rw[hrec] at this ⊢;exact this
  ·obtain⟨h1,h2,h3,h4,h5⟩:=hfin C' W2 (.loop {rec .done (some (.exit id)) with state:=.exhausted}) _ hgr hA2 hf2 hl
   refine⟨some (.exit id),_,?_,hstop w.heap.size C' p x _ (Nat.le_refl _) h1 hpre (hIx.st _ _ _ _ _ hi h4 (fun k hk=>⟨.inl ⟨by omega,by rw[hk];exact h5 Aa⟩,fun cur hb=>by rw[hk] at hb;exact hb0 _ _ _ _ _ hl rfl hb⟩)) h2 h3 ((World.putObj_heap_other (by omega)).trans hk)⟩
   have:=run_endLoop (P:=Tryz.prog) hl (by rw[hrec];simp)
   rw[hrec] at this ⊢;exact this
end Go.Proofs.YtkjfpdfkcfgfkaaGreat
namespace Go.Proofs.YtkjfpdfkcfgfkaaGreat
open Go.RowKit Go.Shelf
attribute [local go_sem] Oper.semAt_some
set_option maxRecDepth 1000000 in
theorem QA (X:Nat) (zs:List Int) (s:WS) (most:Nat) (W:World) (hA:iM W X zs s) (hbz:s.l.busy=false) (hm:(most:Int)<9223372036854775808) (hpos:∀i,i<s.ts.length->1<=(s.ts.getD i aH).vars.length):
  Calls Tryz.prog 55 #[.pointer (some ⟨X,0,none⟩),.int .i64 (most:Int)] W fun e W'=>e= .returned (.tuple #[.int .i64 ((min most (je s.d s.bs zs.length []).length:Nat):Int),.int .i64 0])/\iM W' X zs s/\Fr (s.own X) W W':=by
 have hd8:s.d.length=8:=hA.good.dm.len;have hcb:W.cell? ⟨X,12,none⟩=some (.bool false):=(hA.mem.blk.cell 12).trans ((bu _ _ _ _ hd8).trans (by rw[hbz]))
 have uT:=hA.mem.blk.lt;have hge:¬((most:Int)<0):=by omega
 refine(callsIn_wide (n:=9)).1 ?_
 refine callsIn_of_wp_marks Tryz.func55 rfl trivial ?_ rfl
 simp only[Tryz.ntmps55,List.size_toArray,List.length_cons,List.length_nil,Nat.reduceAdd,Nat.reduceSub,Array.replicate_succ,Array.replicate_zero,List.push_toArray,List.append_toArray,List.nil_append,List.cons_append];gi_wp2_with (refine⟨trivial,?_⟩;gi_at_call 50;refine(callsIn_wide.2 (o8 X _)).mono ?_;rintro e w' ⟨rfl,rfl⟩)
 obtain⟨W1,hW1⟩:∃W1,(W.alloc (.cells #[.int .i64 (most:Int)] 3)).alloc (.cells #[.int .i64 0] 3)=W1:=⟨_,rfl⟩;have hf1:Nw W W1:=by rw[<-hW1];exact((Fr.refl _ W).alloc _).alloc _
 have hs1:W1.heap.size=W.heap.size+2:=by rw[<-hW1];simp
 have hb0:af W1 W.heap.size #[.int .i64 (most:Int)] 3:=by rw[<-hW1];exact(af.new _ _ _).alloc _
 have hb1:af W1 (W.heap.size+1) #[.int .i64 0] 3:=by
  have h:=af.new (W.alloc (.cells #[.int .i64 (most:Int)] 3)) #[.int .i64 0] 3;rw[hW1] at h;simpa using h
 rw[hW1];have HA:=hd hA;clear hA hW1 hcb;have hinv:∀(R:List (List Nat)->Prop) (c:List (List Nat)->Nat),Cc X W1.heap.size (fun done C A=>(∀k,C k↔k=W.heap.size+1)/\af A W.heap.size #[.int .i64 (most:Int)] 3/\af A (W.heap.size+1) #[.int .i64 (c done:Int)] 3/\R done):=fun R c=>by
  refine⟨?_,?_⟩
  ·rintro done C S A B ⟨h1,h2,h3,h4⟩ hf hs
   refine⟨h1,h2.fr hf (fun h=>?_),h3.fr hf (fun h=>?_),h4⟩
   ·rcases(hs _ h).1 with h | h <;> omega
   ·rcases(hs _ h).1 with h | h <;> omega
  ·rintro done C A k ⟨h1,h2,h3,h4⟩ hk
   rw[(h1 k).1 hk];exact⟨_,_,h3,by decide⟩
 refine Oo (id:=1) (zs:=zs) (s:=s) (fun v=>{tmps:=#[.pointer (some ⟨X,0,none⟩),.int .i64 (most:Int),undef,.pointer (some ⟨W.heap.size,0,none⟩),.int .i64 0,.int .i64 0,.pointer (some ⟨W.heap.size+1,0,none⟩),.bool false,.pointer (some ⟨X,0,none⟩),.pointer (some ⟨X,0,none⟩),.pointer (some ⟨X,12,none⟩),.bool false,.bool false,.int .i64 (most:Int),.bool false,.pointer (some ⟨X,0,none⟩),.func (.func 77) #[.pointer (some ⟨X,0,none⟩)] #[],v,undef,undef,undef,undef,undef,undef],defers:=[]}) rfl (HA.out.nw hf1) hbz hpos (fun l v W' K hK=>?asg)
  (fun done C A=>(∀k,C k↔k=W.heap.size+1)/\af A W.heap.size #[.int .i64 (most:Int)] 3/\af A (W.heap.size+1) #[.int .i64 ((done.length:Nat):Int)] 3/\done.length<=most)
  (fun done C A=>(∀k,C k↔k=W.heap.size+1)/\af A W.heap.size #[.int .i64 (most:Int)] 3/\af A (W.heap.size+1) #[.int .i64 ((most:Nat):Int)] 3/\done.length=most+1)
  (hinv (fun done=>done.length<=most) (fun done=>done.length)) (hinv (fun done=>done.length=most+1) (fun _=>most)) (fun k=>k=W.heap.size+1) (fun k hk e=>by have:=HA.out.mem.lt hk;omega) ⟨fun k=>Iff.rfl,hb0,hb1,Nat.zero_le _⟩ ?round ?done ?stop
 case asg=>
  gi_wp2
  exact hK
 case round=>
  rintro lp done C x b cap Wr hpre ⟨hC,h0,h1,hle⟩ hAr hbN hbC hrow
  have c0:Wr.cell? ⟨W.heap.size,0,none⟩=some (.int .i64 (most:Int)):=h0.cell 0
  have c1:Wr.cell? ⟨W.heap.size+1,0,none⟩=some (.int .i64 ((done.length:Nat):Int)):=h1.cell 0
  have c1f:=h1.free 0;have H0:=hd h0;have H1:=hd h1;have HC:=hd hC;clear h0 h1 hC hAr hrow;by_cases he:done.length=most
  ·have he':((done.length:Int)==(most:Int))=true:=by simp[he]
   gi_wp2_with fail
   exact⟨rfl,C,fun k h=>.inl h,Fr.refl _ _,HC.out,H0.out,by rw[<-he];exact H1.out,by simp[he]⟩
  ·have he':((done.length:Int)==(most:Int))=false:=by rw[beq_eq_false_iff_ne];omega
   have hlt:(done.length:Int)+1<9223372036854775808:=by omega
   gi_wp2_with fail
   have hf5:Fr (fun k=>k=W.heap.size+1) Wr (Wr.setCell ⟨W.heap.size+1,0,none⟩ (.int .i64 ((done.length:Int)+1))):=(Fr.refl _ Wr).setCell _ _ (.inl rfl)
   refine⟨C,fun k h=>.inl h,hf5.mono (fun i h=>.inl (.inl ((HC.out i).2 h))),HC.out,H0.out.fr hf5 (by omega),?_,by simp;omega⟩
   have h5:=H1.out.set 0 (.int .i64 ((done.length:Int)+1));have e5:(((done++[x]).length:Nat):Int)=(done.length:Int)+1:=by simp
   rw[e5];exact h5
 case done=>
  rintro D C' Wd hD hg ⟨hC,h0,h1,hle⟩ hAd hfd hK
  have c1:Wd.cell? ⟨W.heap.size+1,0,none⟩=some (.int .i64 (((je s.d s.bs zs.length []).length:Nat):Int)):=h1.cell 0
  gi_wp2_with fail
  have YV:Fr (fun k=>k=D) Wd (Wd.putObj D (.deferred none)):=(Fr.refl (fun k=>k=D) Wd).grown (grownBy_putObj' Wd D _) (fun k hk=>by cases hk;exact .inl rfl)
  have hnb:∀cur e,¬af Wd D cur e:=fun cur e hb=>by
   have hb':Wd.heap[D]? = some (.cells cur e (0,0)):=hb
   rw[hK] at hb';cases hb'
  refine⟨by simp,.inl ⟨_,_,rfl,run_takeDeferred hK,?_⟩⟩
  refine⟨_,results_tmp2 rfl _ _ _,?_,hAd.Ro YV (fun k hk e=>?_) (fun k cur hk hb=>?_),?_⟩
  ·have e5:min most (je s.d s.bs zs.length []).length=(je s.d s.bs zs.length []).length:=by omega
   rw[e5];rfl
  ·obtain⟨cur,e',hb,_⟩:=hAd.mem.ty hk;rw[e] at hb;exact hnb _ _ hb
  ·rw[hk] at hb;exact hnb _ _ hb
  ·refine((hf1.mono (fun i h=>h.elim)).trans hfd (fun i h=>?_)).trans YV (fun i h=>.inr (by omega))
   rcases h with h | h
   ·exact .inr (by omega)
   ·exact .inl (.inl h)
 case stop=>
  rintro D C' p x Wd hD hg hpx ⟨hC,h0,h1,hle⟩ hAd hfd hK
  have c1:Wd.cell? ⟨W.heap.size+1,0,none⟩=some (.int .i64 ((most:Nat):Int)):=h1.cell 0
  gi_wp2_with fail
  have YV:Fr (fun k=>k=D) Wd (Wd.putObj D (.deferred none)):=(Fr.refl (fun k=>k=D) Wd).grown (grownBy_putObj' Wd D _) (fun k hk=>by cases hk;exact .inl rfl)
  have hnb:∀cur e,¬af Wd D cur e:=fun cur e hb=>by
   have hb':Wd.heap[D]? = some (.cells cur e (0,0)):=hb
   rw[hK] at hb';cases hb'
  refine⟨by simp,.inl ⟨_,_,rfl,run_takeDeferred hK,?_⟩⟩
  refine⟨_,results_tmp2 rfl _ _ _,?_,hAd.Ro YV (fun k hk e=>?_) (fun k cur hk hb=>?_),?_⟩
  ·have h6:=hpx.length_le;have e5:min most (je s.d s.bs zs.length []).length=most:=by omega
   rw[e5];rfl
  ·obtain⟨cur,e',hb,_⟩:=hAd.mem.ty hk;rw[e] at hb;exact hnb _ _ hb
  ·rw[hk] at hb;exact hnb _ _ hb
  ·refine((hf1.mono (fun i h=>h.elim)).trans hfd (fun i h=>?_)).trans YV (fun i h=>.inr (by omega))
   rcases h with h | h
   ·exact .inr (by omega)
   ·exact .inl (.inl h)
end Go.Proofs.YtkjfpdfkcfgfkaaGreat
