/- Parts of the proof, number 10: contracts of the functions that the statement calls. -/
import Derived.Test.YtkjfpdfkcfgfkaaGreatM9
import Derived.Test.YtkjfpdfkcfgfkaaGreatM5
import Derived.Test.YtkjfpdfkcfgfkaaGreatM8
import Derived.Test.YtkjfpdfkcfgfkaaGreatM7
set_option maxHeartbeats 3200000
namespace Go.Proofs.YtkjfpdfkcfgfkaaGreat
open Go.RowKit
def LW.opened (L:LW) (sv tv:Value) (ss:List Value) (g:Value):LW:={L with sv:=sv,tv:=tv,ss:=ss,turned:=L.turned++[g]}
theorem LW.vM {w:World} {B:Nat} {L:LW} {sv tv:Value} {ss:List Value} {n:Nat} (hgt:∀k,tv.ownBlock=some k->L.tv.ownBlock=some k\/w.heap.size<=k) (hgs:∀k,sv.ownBlock=some k->L.sv.ownBlock=some k\/w.heap.size<=k) (q:Nat) (hq:(L.opened sv tv ss (.slice (some ⟨w.heap.size,0,none⟩) n n)).own B q):L.own B q\/w.heap.size<=q:=by
 rcases hq with hq | hq | hq | hq | hq | hq | ⟨v,hv,hq⟩ | hq
 ·exact .inl (.inl hq)
 ·rcases hgs q hq with h1 | h1
  ·exact .inl (.inr (.inl h1))
  ·exact .inr h1
 ·exact .inl (.inr (.inr (.inl hq)))
 ·rcases hgt q hq with h1 | h1
  ·exact .inl (.inr (.inr (.inr (.inl h1))))
  ·exact .inr h1
 ·exact .inl (.inr (.inr (.inr (.inr (.inl hq)))))
 ·exact .inl (.inr (.inr (.inr (.inr (.inr (.inl hq))))))
 ·rcases List.mem_append.1 hv with hv | hv
  ·exact .inl (.inr (.inr (.inr (.inr (.inr (.inr (.inl ⟨v,hv,hq⟩)))))))
  ·rw[List.mem_singleton.1 hv] at hq;cases hq;exact .inr (Nat.le_refl _)
 ·exact .inl (.inr (.inr (.inr (.inr (.inr (.inr (.inr hq)))))))
theorem gZ.opened {w w':World} {lo B:Nat} {L:LW} {sv tv:Value} {ss:List Value} {zs:List Int} (hL:gZ w lo B L) (Qh:lo<=w.heap.size) (hf:Fr (fun k=>k=B\/L.tv.ownBlock=some k\/L.sv.ownBlock=some k) w w') (hB:af w' B #[sv,L.nv,tv,L.rv] 29) (hs:Row w' sv 49 ss) (ht:Row w' tv 22 (L.turned++[.slice (some ⟨w.heap.size,0,none⟩) (zs.length+1) (zs.length+1)])) (hg:af w' w.heap.size (dI zs (zs.length+1)) 3)
  (hgt:∀k,tv.ownBlock=some k->L.tv.ownBlock=some k\/w.heap.size<=k) (hgs:∀k,sv.ownBlock=some k->L.sv.ownBlock=some k\/w.heap.size<=k) (hz:zs.length<=1048576) (htl:L.turned.length<=8388608):gZ w' lo B (L.opened sv tv ss (.slice (some ⟨w.heap.size,0,none⟩) (zs.length+1) (zs.length+1))):=by
 have hsz:=hf.size;have hno:∀q cur e,af w q cur e->e≠29->e≠49->L.tv.ownBlock≠some q->¬(q=B\/L.tv.ownBlock=some q\/L.sv.ownBlock=some q):=fun q cur e hb he he2 h2 h4=>by
  rcases h4 with h4 | h4 | h4
  ·rw[h4] at hb;exact he (hb.inj hL.blk).2
  ·exact h2 h4
  ·obtain⟨c2,hb2,_⟩:=hL.sides.blk h4;exact he2 (hb.inj hb2).2
 have sZ:∀q cur e,af w q cur e->e≠22->L.tv.ownBlock≠some q:=fun q cur e hb he hq=>by
  obtain⟨c2,hb2,_⟩:=hL.keeps.rt.blk hq;exact he (hb.inj hb2).2
 have k2:∀q,L.nv.ownBlock=some q->¬(q=B\/L.tv.ownBlock=some q\/L.sv.ownBlock=some q):=fun q hq=>by
  obtain⟨cur,hb,_⟩:=hL.keeps.rn.blk hq;exact hno q cur _ hb (by decide) (by decide) (hL.nt q hq)
 have k3:∀q,L.rv.ownBlock=some q->¬(q=B\/L.tv.ownBlock=some q\/L.sv.ownBlock=some q):=fun q hq=>by
  obtain⟨cur,hb,_⟩:=hL.keeps.rr.blk hq;exact hno q cur _ hb (by decide) (by decide) (sZ q cur _ hb (by decide))
 have k4:∀v,v∈L.nums\/v∈L.turned->∀q,v.ownBlock=some q->¬(q=B\/L.tv.ownBlock=some q\/L.sv.ownBlock=some q):=fun v hv q hq=>by
  obtain⟨cur,hb⟩:=hL.ints v hv q hq;exact hno q cur _ hb (by decide) (by decide) (sZ q cur _ hb (by decide))
 have k6:∀v,v∈L.rows->∀q,v.ownBlock=some q->¬(q=B\/L.tv.ownBlock=some q\/L.sv.ownBlock=some q):=fun v hv q hq=>by
  obtain⟨cur,hb⟩:=hL.FZ v hv q hq;exact hno q cur _ hb (by decide) (by decide) (fun e=>hL.tr q e v hv hq)
 have hk:=hL.keeps;have Vo:∀v∈L.turned++[Value.slice (some ⟨w.heap.size,0,none⟩) (zs.length+1) (zs.length+1)],mV w' v (-7):=fun v hv=>by
  rcases List.mem_append.1 hv with hv | hv
  ·obtain⟨i,hi,rfl⟩:=List.getElem_of_mem hv;exact(hk.at_ i hi).fr hf (k4 _ (.inr hv))
  ·rw[List.mem_singleton.1 hv];exact vG hg (by omega)
 have hlen:(L.turned++[Value.slice (some ⟨w.heap.size,0,none⟩) (zs.length+1) (zs.length+1)]).length=L.turned.length+1:=by rw[List.length_append];rfl
 have hown:=LW.vM (B:=B) (ss:=ss) (n:=zs.length+1) hgt hgs;refine⟨hB,hs,⟨hk.rn.fr hf k2,ht,hk.rr.fr hf k3,hk.ln,?_,hk.lr,fun i hi=>(hk.an i hi).fr hf (k4 _ (.inl (List.getElem_mem hi))),fun i hi=>Vo _ (List.getElem_mem hi),fun i hi=>(hk.ar i hi).fr hf (k6 _ (List.getElem_mem hi))⟩,fun q hq=>?_,fun q hq=>?_,fun v hv q hq=>?_,fun v hv q hq=>?_,fun q hq ht'=>?_,fun q hq v hv=>hL.nr q hq v hv,fun q hq v hv ht'=>?_⟩
 ·show (L.turned++[_]).length*24<=_
  omega
 ·rcases hown q hq with h1 | h1
  ·exact hL.lo q h1
  ·omega
 ·rcases hq with hq | hq | hq | hq | hq | ⟨v,hv,hq⟩ | ⟨v,hv,hq⟩ | ⟨v,hv,hq⟩
  ·rw[hq];exact hB.lt
  ·exact hs.lt hq
  ·have:=hL.lt q (.inr (.inr (.inl hq)))
   omega
  ·exact ht.lt hq
  ·have:=hL.lt q (.inr (.inr (.inr (.inr (.inl hq)))))
   omega
  ·have:=hL.lt q (.inr (.inr (.inr (.inr (.inr (.inl ⟨v,hv,hq⟩))))))
   omega
  ·rcases List.mem_append.1 hv with hv | hv
   ·have:=hL.lt q (.inr (.inr (.inr (.inr (.inr (.inr (.inl ⟨v,hv,hq⟩)))))))
    omega
   ·rw[List.mem_singleton.1 hv] at hq;cases hq;exact hg.lt
  ·have:=hL.lt q (.inr (.inr (.inr (.inr (.inr (.inr (.inr ⟨v,hv,hq⟩)))))))
   omega
 ·rcases hv with hv | hv
  ·obtain⟨cur,hb⟩:=hL.ints v (.inl hv) q hq;exact⟨cur,hb.fr hf (k4 v (.inl hv) q hq)⟩
  ·rcases List.mem_append.1 hv with hv | hv
   ·obtain⟨cur,hb⟩:=hL.ints v (.inr hv) q hq;exact⟨cur,hb.fr hf (k4 v (.inr hv) q hq)⟩
   ·rw[List.mem_singleton.1 hv] at hq;cases hq;exact⟨_,hg⟩
 ·obtain⟨cur,hb⟩:=hL.FZ v hv q hq;exact⟨cur,hb.fr hf (k6 v hv q hq)⟩
 ·rcases hgt q ht' with h1 | h1
  ·exact hL.nt q hq h1
  ·have:=hL.lt q (.inr (.inr (.inl hq)))
   omega
 ·rcases hgt q hq with h1 | h1
  ·exact hL.tr q h1 v hv ht'
  ·have:=hL.lt q (.inr (.inr (.inr (.inr (.inr (.inr (.inr ⟨v,hv,ht'⟩)))))))
   omega
theorem gZ.ty2 {w:World} {lo B:Nat} {L:LW} (h:gZ w lo B L) {k:Nat} (hk:L.own B k):(∃cur e,af w k cur e/\e∈[29,49,22,26])\/∃v,(v∈L.nums\/v∈L.turned)/\v.ownBlock=some k:=by
 rcases hk with rfl | hk | hk | hk | hk | ⟨v,hv,hk⟩ | ⟨v,hv,hk⟩ | ⟨v,hv,hk⟩
 ·exact .inl ⟨_,_,h.blk,by decide⟩
 ·obtain⟨cur,hb,_⟩:=h.sides.blk hk;exact .inl ⟨_,_,hb,by decide⟩
 ·obtain⟨cur,hb,_⟩:=h.keeps.rn.blk hk;exact .inl ⟨_,_,hb,by decide⟩
 ·obtain⟨cur,hb,_⟩:=h.keeps.rt.blk hk;exact .inl ⟨_,_,hb,by decide⟩
 ·obtain⟨cur,hb,_⟩:=h.keeps.rr.blk hk;exact .inl ⟨_,_,hb,by decide⟩
 ·exact .inr ⟨v,.inl hv,hk⟩
 ·exact .inr ⟨v,.inr hv,hk⟩
 ·obtain⟨cur,hb⟩:=h.FZ v hv k hk;exact .inl ⟨_,_,hb,by decide⟩
def Np:List TypeId:=[52,66,83,4,41,147,84,3]
theorem LI.Zb {W w w':World} {lo B:Nat} {L:LW} {ds:List Sd} {tv:Value} {zs:List Int} (h:LI W w lo B L ds) (hf:Fr (fun k=>k=B\/L.tv.ownBlock=some k\/L.sv.ownBlock=some k) w w') (hL:gZ w' lo B (L.opened L.sv tv L.ss (.slice (some ⟨w.heap.size,0,none⟩) (zs.length+1) (zs.length+1)))) (hgt:∀k,tv.ownBlock=some k->L.tv.ownBlock=some k\/w.heap.size<=k):LI W w' lo B (L.opened L.sv tv L.ss (.slice (some ⟨w.heap.size,0,none⟩) (zs.length+1) (zs.length+1))) ds:=by
 have hin:∀q,(q=B\/L.tv.ownBlock=some q\/L.sv.ownBlock=some q)->L.own B q:=fun q hq=>by
  rcases hq with hq | hq | hq
  ·exact .inl hq
  ·exact .inr (.inr (.inr (.inl hq)))
  ·exact .inr (.inl hq)
 have hon:Only w (fun k=>k=B\/L.tv.ownBlock=some k\/L.sv.ownBlock=some k) nR:=fun q cur e hq hb=>by
  obtain⟨c2,e2,hb2,he2⟩:=h.law.ty (hin q hq);rw[(hb.inj hb2).2];exact he2
 have hb:=h.env.base;refine⟨⟨⟨hb,h.env.nw.trans hf (fun q hq=>.inr (by have:=h.law.lo q (hin q hq);omega)),Nat.le_trans h.env.le hf.size⟩,hL,h.ss,fun d hd=>(h.sides d hd).fr hf (fun k hk hS=>h.apart d hd k (hin k hS) hk) hon (by decide),fun d hd k hk hdk=>?_,h.xH,h.EH⟩,h.free⟩
 rcases LW.vM hgt (fun k hk=>.inl hk) k hk with h1 | h1
 ·exact h.apart d hd k h1 hdk
 ·have:=(h.sides d hd).lt hdk
  omega
theorem LI.adJ {W w w':World} {lo B:Nat} {L:LW} {ds:List Sd} {sv tv:Value} {d:Sd} {zs:List Int} (h:LI W w lo B L ds) (hf:Fr (fun k=>k=B\/L.tv.ownBlock=some k\/L.sv.ownBlock=some k) w w') (hL:gZ w' lo B (L.opened sv tv (L.ss++[.pointer (some ⟨d.D,0,none⟩)]) (.slice (some ⟨w.heap.size,0,none⟩) (zs.length+1) (zs.length+1)))) (hgt:∀k,tv.ownBlock=some k->L.tv.ownBlock=some k\/w.heap.size<=k) (hgs:∀k,sv.ownBlock=some k->L.sv.ownBlock=some k\/w.heap.size<=k)
  (hd:eX W w' lo d) (hbz:d.bz=false) (hlt:d.lt= .nilFunc) (hge:∀k,d.own k->w.heap.size<=k) (hty:∀k,d.own k->∃cur e,af w' k cur e/\e∈Np/\(e=3->w.heap.size<k)):LI W w' lo B (L.opened sv tv (L.ss++[.pointer (some ⟨d.D,0,none⟩)]) (.slice (some ⟨w.heap.size,0,none⟩) (zs.length+1) (zs.length+1))) (ds++[d]):=by
 have hin:∀q,(q=B\/L.tv.ownBlock=some q\/L.sv.ownBlock=some q)->L.own B q:=fun q hq=>by
  rcases hq with hq | hq | hq
  ·exact .inl hq
  ·exact .inr (.inr (.inr (.inl hq)))
  ·exact .inr (.inl hq)
 have hon:Only w (fun k=>k=B\/L.tv.ownBlock=some k\/L.sv.ownBlock=some k) nR:=fun q cur e hq hb=>by
  obtain⟨c2,e2,hb2,he2⟩:=h.law.ty (hin q hq);rw[(hb.inj hb2).2];exact he2
 have hb:=h.env.base;have hget:∀e∈ds++[d],e∈ds\/e=d:=fun e he=>by
  rcases List.mem_append.1 he with he | he
  ·exact .inl he
  ·exact .inr (List.mem_singleton.1 he)
 have hidx:∀i (hi:i<(ds++[d]).length),(∃hi':i<ds.length,(ds++[d])[i]=ds[i])\/(i=ds.length/\(ds++[d])[i]=d):=fun i hi=>by
  rw[List.length_append,List.length_singleton] at hi;by_cases e:i<ds.length
  ·exact .inl ⟨e,List.getElem_append_left e⟩
  ·have:i=ds.length:=by omega
   subst this;exact .inr ⟨rfl,by simp⟩
 refine⟨⟨⟨hb,h.env.nw.trans hf (fun q hq=>.inr (by have:=h.law.lo q (hin q hq);omega)),Nat.le_trans h.env.le hf.size⟩,hL,?_,fun e he=>?_,fun e he k hk hdk=>?_,fun i j hi hj hij k hk1 hk2=>?_,fun e he=>?_⟩,fun e he=>?_⟩
 ·show L.ss++[_]=_
  rw[h.ss,List.map_append];rfl
 ·rcases hget e he with he | rfl
  ·exact(h.sides e he).fr hf (fun k hk hS=>h.apart e he k (hin k hS) hk) hon (by decide)
  ·exact hd
 ·rcases hget e he with he | rfl
  ·rcases LW.vM hgt hgs k hk with h1 | h1
   ·exact h.apart e he k h1 hdk
   ·have:=(h.sides e he).lt hdk
    omega
  ·obtain⟨cur,e1,hb1,he1,hi1⟩:=hty k hdk;have hgk:=hge k hdk;rcases hL.ty2 hk with ⟨Xf,e2,hb2,he2⟩ | ⟨v,hv,hvk⟩
   ·rw[(hb2.inj hb1).2] at he2;have hx:Np.all (fun e=>!([29,49,22,26].contains e))=true:=by decide
    have:=List.all_eq_true.1 hx e1 he1
    rw[List.contains_iff_mem.2 he2] at this;cases this
   ·obtain⟨c3,hb3⟩:=hL.ints v hv k hvk;have hlt:=hi1 (hb1.inj hb3).2;rcases hv with hv | hv
    ·have:=h.law.lt k (.inr (.inr (.inr (.inr (.inr (.inl ⟨v,hv,hvk⟩))))))
     omega
    ·rcases List.mem_append.1 hv with hv | hv
     ·have:=h.law.lt k (.inr (.inr (.inr (.inr (.inr (.inr (.inl ⟨v,hv,hvk⟩)))))))
      omega
     ·rw[List.mem_singleton.1 hv] at hvk;cases hvk;have h2:w.heap.size<w.heap.size:=hlt;omega
 ·rcases hidx i hi with ⟨hi',e1⟩ | ⟨rfl,e1⟩
  ·rw[e1] at hk1;rcases hidx j hj with ⟨hj',e2⟩ | ⟨rfl,e2⟩
   ·rw[e2] at hk2;exact h.xH i j hi' hj' hij k hk1 hk2
   ·rw[e2] at hk2;have:=(h.sides _ (List.getElem_mem hi')).lt hk1
    have:=hge k hk2
    omega
  ·rw[e1] at hk1;rcases hidx j hj with ⟨hj',e2⟩ | ⟨rfl,e2⟩
   ·rw[e2] at hk2;have:=(h.sides _ (List.getElem_mem hj')).lt hk2
    have:=hge k hk1
    omega
   ·exact hij rfl
 ·rcases hget e he with he | rfl
  ·exact h.EH e he
  ·exact .inl hlt
 ·rcases hget e he with he | rfl
  ·exact h.free e he
  ·exact hbz
theorem VF (W:World) (lo B:Nat) (L:LW) (ds:List Sd) (ao:Option Addr) (cap:Nat) (zs:List Int) (w:World) (h:LI W w lo B L ds) (hds:ds.length<=2) (hl:ax W ao zs) (hz:zs.length<=1048576) (htl:L.turned.length<=2):
  Calls Tryz.prog 8 #[.pointer (some ⟨B,0,none⟩),.slice ao zs.length cap] w fun e w'=>e= .returned (.bool true)/\∃L' ds',LI W w' lo B L' ds'/\L'.nums=L.nums/\L'.rows=L.rows/\L'.turned.length=L.turned.length+1/\ds'.length<=ds.length+1:=by
 have hl':=hl.nw h.env.nw;have sH:L.ss.length=ds.length:=by rw[h.ss,List.length_map]
 have aa2:∀x:Value,(L.turned++[x]).length=L.turned.length+1:=fun x=>by rw[List.length_append];rfl
 by_cases hlen:zs.length<1\/8<zs.length
 ·refine(QI B L.sv L.nv L.tv L.rv L.turned ao cap zs w (by omega) h.law.blk h.law.keeps.rt (by omega) hl' hlen).mono ?_
  rintro e w' ⟨rfl,tv',hf,hB',XZ,hg',hlo⟩
  have hf':Fr (fun k=>k=B\/L.tv.ownBlock=some k\/L.sv.ownBlock=some k) w w':=hf.mono (fun i h=>.inl (h.elim .inl (fun h=>.inr (.inl h))))
  have hs':Row w' L.sv 49 L.ss:=h.law.sides.fr hf (fun k hk e=>by
   obtain⟨cur,hb,_⟩:=h.law.sides.blk hk;rcases e with e | e
   ·rw[e] at hb;exact absurd (hb.inj h.law.blk).2 (by decide)
   ·obtain⟨c2,hb2,_⟩:=h.law.keeps.rt.blk e;exact absurd (hb.inj hb2).2 (by decide))
  have hL':=h.law.opened h.env.le hf' hB' hs' XZ hg' hlo (fun k hk=>.inl hk) hz (by omega)
  exact⟨rfl,_,ds,h.Zb hf' hL' hlo,rfl,rfl,aa2 _,by omega⟩
 ·refine(Nl B L.sv L.nv L.tv L.rv L.ss L.turned ao cap zs w (by omega) (by omega) h.law.blk h.law.keeps.rt (by omega) h.law.sides (by rw[sH];omega) hl').mono ?_
  rintro e w' ⟨rfl,sv',tv',hf,hB',XZ,hg',hlo,hcase⟩
  rcases hcase with ⟨_,rfl,aa3⟩ | ⟨hok,D,X,Y,az,aa3,adK,hD,hX,hsz,hDl,uT,lo2,h2a,h2b,h2c,hR⟩
  ·have hL':=h.law.opened h.env.le hf hB' aa3 XZ hg' hlo (fun k hk=>.inl hk) hz (by omega)
   exact⟨rfl,_,ds,h.Zb hf hL' hlo,rfl,rfl,aa2 _,by omega⟩
  ·have hle:=h.env.le;have hL':=h.law.opened h.env.le hf hB' aa3 XZ hg' hlo adK hz (by omega)
   obtain⟨R,hP,hRo⟩:=Pair.new (W:=W) (lo:=lo) hok hX hsz (by omega) (fun k hk=>⟨by have:=(h2b k hk).1;omega,(h2b k hk).2⟩) (by omega) h2c hR
   have hS:eX W w' lo ⟨D,X,Y,zs,YK zs az,R,false,.nilFunc,.nilFunc⟩:=⟨hD,hP,by show lo<=D;omega⟩
   refine⟨rfl,_,_,h.adJ (d:=⟨D,X,Y,zs,YK zs az,R,false,.nilFunc,.nilFunc⟩) hf hL' hlo adK hS rfl rfl (fun k hk=>?_) (fun k hk=>?_),rfl,rfl,aa2 _,by rw[List.length_append];exact Nat.le_refl _⟩
   ·rcases hk with hk | hk | hk
    ·rw[hk];exact hDl
    ·rcases xe hk with hk | hk
     ·rw[hk];exact uT
     ·have:=(h2b k hk).1
      omega
    ·have:=hRo k hk
     omega
   ·rcases hk with hk | hk | hk
    ·rw[hk];exact⟨_,_,hD,by decide,fun e=>absurd e (by decide)⟩
    ·rcases xe hk with hk | hk
     ·rw[hk];exact⟨_,_,hX,by decide,fun e=>absurd e (by decide)⟩
     ·obtain⟨cur,hb,_⟩:=hsz.blk hk;exact⟨_,_,hb,by decide,fun _=>(h2b k hk).1⟩
    ·have hgk:=hRo k hk;rcases hP.ref.ty hk with h1 | ⟨cur,e,hb,he⟩
     ·obtain⟨cur,hb,_⟩:=hP.ref.dU.sz.blk h1;exact⟨_,_,hb,by decide,fun _=>by omega⟩
     ·refine⟨cur,e,hb,?_,fun _=>by omega⟩
      rcases he with he | he
      ·have hx:∀e∈rY,e∈Np:=by decide
       exact hx e he
      ·rw[he];decide
noncomputable def adL:Array Oper:=gU Tryz.f9 6
set_option maxRecDepth 1000000 in
theorem Q4 (hgo:Af) (W:World) (lo B:Nat) (L:LW) (ds:List Sd) (i:Nat) (d:Sd) (x:Ag) (w:World) (h:LI W w lo B L ds) (hi:i<ds.length) (hget:ds[i]=d) (hn2:ds.length<=2) (ho:Gf W x.o) (hN:vK W x.o x.F x.M) (h4:L.nums.length % 4=0) (hrn:L.nums.length+4800*x.cost<=68719476736) (hrt:L.turned.length+x.cost<=8388608) (hrr:L.rows.length+x.cost<=8388608):
  Calls Tryz.prog 17 #[.pointer (some ⟨B,0,none⟩),.pointer (some ⟨d.D,0,none⟩),.agg x.o.cells] w fun e w'=>e= .returned (.bool true)/\∃L' ds',kX W w' lo B ds.length L L' ds' (4800*x.cost) x.cost:=by
 have hc1:=x.JE;by_cases hk:x.o.kind=9
 ·obtain⟨b0,hb0⟩:∃b0,b0=w.heap.size:=⟨_,rfl⟩;obtain⟨V,hV⟩:∃V,V=w.alloc (.cells x.o.cells 54):=⟨_,rfl⟩;have fA:Nw w V:=by rw[hV];exact(Fr.refl _ w).alloc _
  have hC:af V b0 x.o.cells 54:=by rw[hV,hb0];exact af.new _ _ _
  have c0:V.cell? ⟨b0,0,none⟩=some (.int .i64 9):=(hC.cell 0).trans (by rw[<-hk];rfl)
  have c1:V.cell? ⟨b0,1,none⟩=some (.int .i64 x.o.a):=hC.cell 1
  have c2:V.cell? ⟨b0,2,none⟩=some (.int .i64 x.o.b):=hC.cell 2
  have c3:V.cell? ⟨b0,3,none⟩=some (.slice x.o.vo x.o.vars.length x.o.ak):=hC.cell 3
  have c4:V.cell? ⟨b0,4,none⟩=some (.slice x.o.ro x.o.rows.length x.o.au):=hC.cell 4
  have c5:V.cell? ⟨b0,5,none⟩=some (.bool x.o.nt):=hC.cell 5
  have c6:V.cell? ⟨b0,6,none⟩=some (.int .i64 x.o.way):=hC.cell 6
  have c7:V.cell? ⟨b0,7,none⟩=some (.bool x.o.which):=hC.cell 7
  have c8:V.cell? ⟨b0,8,none⟩=some x.o.fv:=hC.cell 8
  have c9:V.cell? ⟨b0,9,none⟩=some x.o.mv:=hC.cell 9
  have hbl:=hC.lt;have hoc:x.o.cells=#[.int .i64 9,.int .i64 x.o.a,.int .i64 x.o.b,.slice x.o.vo x.o.vars.length x.o.ak,.slice x.o.ro x.o.rows.length x.o.au,.bool x.o.nt,.int .i64 x.o.way,.bool x.o.which,x.o.fv,x.o.mv]:=by rw[<-hk];rfl
  obtain⟨PP,Nb⟩:∃PP:World->Prop,PP=fun w'=>∃L' ds',kX W w' lo B ds.length L L' ds' (4800*x.cost) x.cost:=⟨_,rfl⟩
  have aK:Hid (Calls Tryz.prog 34 #[.pointer (some ⟨B,0,none⟩),.pointer (some ⟨d.D,0,none⟩),.agg x.o.cells] V fun e w'=>e= .returned (.bool true)/\PP w'):=by rw[Nb];exact hd (hgo W lo B L ds i d x.o x.F x.M V (h.nw fA) hi hget hn2 ho hN h4 hrn hrt hrr)
  show Calls _ _ _ _ fun e w'=>e= .returned (.bool true)/\(fun w'=>∃L' ds',kX W w' lo B ds.length L L' ds' (4800*x.cost) x.cost) w'
  rw[<-Nb];rw[hoc] at aK;clear h hC fA hoc Nb hk ho hN hget hrn hrt hrr h4;go_enter Tryz.func17,Tryz.ntmps17
  go_upto_region 1 with fail
  rw[<-hV,<-hb0];clear hV hb0;go_wp2_with (go_at_call 34;refine aK.out.mono ?_;rintro e w1 ⟨rfl,hw1⟩;have Hw1:=hd hw1;clear hw1)
  go_ret
  exact⟨rfl,Hw1.out⟩
 ·refine(Vy W lo B L d x.o w (hget▸h.one i hi) (hget▸h.free _ (List.getElem_mem hi)) hk ho ⟨by omega,by omega,by omega,h4⟩).mono ?_
  rintro e w' ⟨rfl,L',d',h1,h2,h3⟩
  have hcc:jS x.o<=x.cost:=by unfold Ag.cost jF;omega
  have q1:=h3.a;have q2:=h3.b;have q3:=h3.c;unfold jS at hcc;exact⟨rfl,L',ds.set i d',h.step i hi h1 (hget.symm▸h2),by rw[List.length_set],by omega,by omega,by omega,by rw[h2.four];exact h4⟩
set_option maxRecDepth 1000000 in
theorem VG (hgo:Af) (W:World) (lo B:Nat) (L:LW) (ds:List Sd) (so:Option Addr) (scap:Nat) (ns:List Ag) (w:World) (h:LI W w lo B L ds) (hds:ds.length<=2) (hops:Cm W so (ns.map Ag.o)) (OH:∀x∈ns,vK W x.o x.F x.M) (Zc:jf ns<=2097152) (hL1:L.nums=[]) (hL2:L.turned.length<=2) (hL3:L.rows=[]):
  Calls Tryz.prog 9 #[.pointer (some ⟨B,0,none⟩),.slice so ns.length scap,.int .i64 9] w fun e w'=>e= .returned (.bool true)/\Nw W w':=by
 have hlen:=EI ns;have H:=hd h;obtain⟨svo,svc,aa4,_⟩:=h.law.sides.form;have sH:L.ss.length=ds.length:=by rw[h.ss,List.length_map]
 rw[sH] at aa4;have d0:w.cell? ⟨B,0,none⟩=some (.slice svo ds.length svc):=by
  have:=h.law.blk.cell 0
  rw[aa4] at this;exact this
 have hBl:=h.law.blk.lt;have HP0:Hid (kX W w lo B ds.length L L ds (4800*jf (ns.take 0)) (jf (ns.take 0))):=⟨h,rfl,by omega,by omega,by omega,by rw[hL1];rfl⟩
 have HO:=hd hops;have HN:=hd OH;have Hgo:=hd hgo;have adM:=Vz ns;have aa5:=hd adM;obtain⟨n,hn⟩:∃n,ds.length=n:=⟨_,rfl⟩;rw[hn] at d0 hds HP0;have hN1:L.nums.length=0:=by rw[hL1];rfl
 have hN3:L.rows.length=0:=by rw[hL3];rfl
 clear h aa4 sH hops hn hL1 hL3 OH hgo adM;go_enter Tryz.func9,Tryz.ntmps9
 go_wp2_with fail
 go_loopw [8,9,10] (fun i _ _ wr=>∃(k:Nat) (L':LW) (ds':List Sd),k<=ns.length/\i= .int .i64 (k:Int)/\Hid (kX W wr lo B n L L' ds' (4800*jf (ns.take k)) (jf (ns.take k)))) (fun i _ _ _=>ns.length-(intOf i).toNat)
 case atStart=>exact⟨0,L,ds,Nat.zero_le _,rfl,HP0⟩
 case round=>
  clear HP0;obtain⟨k,L',ds',hk,rfl,HP⟩:=hrel;by_cases hgo:k<ns.length/\0<n
  ·obtain⟨hlt,hn0⟩:=hgo;have hdk:(k:Int)<(ns.length:Int):=by omega
   have hdn:(0:Int)<(n:Int):=by omega
   obtain⟨ob,oo,hoe,JG,hoc,hok⟩:=HO.out k (by rw[List.length_map];exact hlt)
   have hgm:(ns.map Ag.o).getD k WE=(ns.getD k n0).o:=by simp[List.getD,hlt]
   rw[hgm] at hoc hok;have hnx:=HN.out (ns.getD k n0) (by rw[aN _ _ _ hlt];exact List.getElem_mem hlt)
   have X4:=hd (show ∀w',Nw W w'->∀c,c<10->w'.cell? ⟨ob,oo+k*10+c,none⟩=(ns.getD k n0).o.cells[c]? from fun w' f c hc=>(f.cell JG (fun x=>x)).trans (hoc c hc))
   have hct:=Nj ns k hlt;have hcl:=aa5.out k;have adF:=aa5.out (k+1);obtain⟨op,hop⟩:∃op,ns.getD k n0=op:=⟨_,rfl⟩;rw[hop] at X4 hok hct hnx;have c0:wr.cell? ⟨ob,oo+k*10,none⟩=some (.int .i64 op.o.kind):=X4.out wr HP.out.li.env.nw 0 (by omega)
   have VH:ob<wr.heap.size:=Nat.lt_of_lt_of_le JG HP.out.li.env.nw.size;have qU:=hd hok;have Hct:=hd hct;have Hnx:=hd hnx;subst hoe;clear hoc hop hok hct hnx hgm;by_cases hkm:op.o.kind<=9
   ·have hdm:¬((9:Int)<op.o.kind):=by omega
    obtain⟨ix,hix⟩:∃ix,(if op.o.which then L'.ss.length-1 else 0)=ix:=⟨_,rfl⟩
    have sH:L'.ss.length=n:=by rw[HP.out.li.ss,List.length_map,HP.out.len]
    have xJ:ix<ds'.length:=by
     rw[<-hix,HP.out.len,sH];split <;> omega
    obtain⟨dx,IW⟩:∃dx,dx=ds'[ix]'xJ:=⟨_,rfl⟩;have JH:L'.ss.getD ix undef= .pointer (some ⟨dx.D,0,none⟩):=by
     rw[HP.out.li.ss,IW];simp[List.getD,xJ]
    have CJ:=hd (yQ lo B L' op.o wr.drew (HP.out.li.law.nw ((Fr.refl _ wr).drew)) (by rw[sH];exact hn0) (by rw[sH];omega))
    rw[hix,JH] at CJ;have Gi:=hd xJ;have Hdx:=hd (show ds'[ix]'Gi.out=dx from IW.symm)
    have hka:=HP.out.a;have hkb:=HP.out.b;have hkr:=HP.out.r;have q4:=Hct.out;have HQ:=hd (show L'.nums.length+4800*op.cost<=68719476736/\L'.turned.length+op.cost<=8388608/\L'.rows.length+op.cost<=8388608 from⟨by omega,by omega,by omega⟩)
    clear q4 hix sH xJ JH IW;go_wp2_with fail
    have hK0:Nw W wr.drew:=HP.out.li.env.nw.drew;refine eF adL 13 (fun w''=>Nw W w'') (by kernel_rfl) (by kernel_rfl) (by kernel_rfl) ?_
    refine take_at (i:=0) (d:=some 35) (v:=.pointer (some ⟨B,0,none⟩)) (by kernel_rfl) (by kernel_rfl) (fun _ _ _ h=>h) (fun w'' hS=>by kernel_rfl) hK0 ?_
    refine take_at (i:=1) (d:=some 36) (v:=.pointer (some ⟨B,0,none⟩)) (by kernel_rfl) (by kernel_rfl) (fun _ _ _ h=>h) (fun w'' hS=>by kernel_rfl) hK0 ?_
    refine take_at (i:=2) (d:=some 37) (v:=.slice (some ⟨ob,oo,none⟩) ns.length scap) (by kernel_rfl) (by kernel_rfl) (fun _ _ _ h=>h) (fun w'' hS=>by kernel_rfl) hK0 ?_
    refine take_at (i:=3) (d:=some 38) (v:=.int .i64 (k:Int)) (by kernel_rfl) (by kernel_rfl) (fun _ _ _ h=>h) (fun w'' hS=>by kernel_rfl) hK0 ?_
    refine take_at (i:=4) (d:=some 39) (v:=.pointer (some ⟨ob,oo+k*10,none⟩)) (by kernel_rfl) (by kernel_rfl) (fun _ _ _ h=>h) (fun w'' hS=>ny (i:=k) (n:=ns.length) (cap:=scap) 23 54 (.tmp 37) (.tmp 38) (by kernel_rfl) (by kernel_rfl) (by kernel_rfl) hlt (by kernel_rfl) (by kernel_rfl)) hK0 ?_
    refine take_at (i:=5) (d:=some 40) (v:=.agg op.o.cells) (by kernel_rfl) (by kernel_rfl) (fun _ _ _ h=>h) (fun w'' hS=>kD 54 (.tmp 39) (by kernel_rfl) (by kernel_rfl) (by kernel_rfl) (by kernel_rfl) (X4.out w'' hS)) hK0 ?_
    refine take_at (i:=7) (d:=some 42) (v:=.slice (some ⟨ob,oo,none⟩) ns.length scap) (by kernel_rfl) (by kernel_rfl) (fun _ _ _ h=>h) (fun w'' hS=>by kernel_rfl) hK0 ?_
    refine take_at (i:=8) (d:=some 43) (v:=.int .i64 (k:Int)) (by kernel_rfl) (by kernel_rfl) (fun _ _ _ h=>h) (fun w'' hS=>by kernel_rfl) hK0 ?_
    refine take_at (i:=9) (d:=some 44) (v:=.pointer (some ⟨ob,oo+k*10,none⟩)) (by kernel_rfl) (by kernel_rfl) (fun _ _ _ h=>h) (fun w'' hS=>ny (i:=k) (n:=ns.length) (cap:=scap) 23 54 (.tmp 42) (.tmp 43) (by kernel_rfl) (by kernel_rfl) (by kernel_rfl) hlt (by kernel_rfl) (by kernel_rfl)) hK0 ?_
    refine take_at (i:=10) (d:=some 45) (v:=.agg op.o.cells) (by kernel_rfl) (by kernel_rfl) (fun _ _ _ h=>h) (fun w'' hS=>kD 54 (.tmp 44) (by kernel_rfl) (by kernel_rfl) (by kernel_rfl) (by kernel_rfl) (X4.out w'' hS)) hK0 ?_
    refine enter_at (i:=6) (d:=some 41) (w':=wr.drew) (f:=18) (args:=#[.pointer (some ⟨B,0,none⟩),.agg op.o.cells]) (by kernel_rfl) (by kernel_rfl) (by kernel_rfl) ?_
    refine CJ.out.mono ?_
    rintro e w1 ⟨rfl,hf1⟩
    have adN:Nw wr w1:=((Fr.refl _ wr).drew).trans hf1 (fun _ x=>x.elim)
    have aa6:=HP.out.li.nw adN;refine⟨_,rfl,aa6.env.nw,?_⟩
    refine enter_at (i:=11) (d:=some 46) (w':=w1) (f:=17) (args:=#[.pointer (some ⟨B,0,none⟩),.pointer (some ⟨dx.D,0,none⟩),.agg op.o.cells]) (by kernel_rfl) (by kernel_rfl) (by kernel_rfl) ?_
    refine(Q4 Hgo.out W lo B L' ds' ix dx op w1 aa6 Gi.out Hdx.out (by rw[HP.out.len];exact hds) qU.out Hnx.out HP.out.four HQ.out.1 HQ.out.2.1 HQ.out.2.2).mono ?_
    rintro e w2 ⟨rfl,L2,ds2,hE2⟩
    have X5:=hE2.li;refine⟨_,rfl,X5.env.nw,?_⟩
    refine dG (i:=12) (d:=some 9) (v:=.bool true) (w':=w2) (by kernel_rfl) (by kernel_rfl) (by kernel_rfl) X5.env.nw ?_
    refine wpAnyH_done (by kernel_rfl) ?_ _
    simp only[Act.put,bQ,bW,bU];have q1:=hE2.a;have q2:=hE2.b;have q3:=hE2.r;have q4:=Hct.out;have HP2:Hid (kX W w2 lo B n L L2 ds2 (4800*jf (ns.take (k+1))) (jf (ns.take (k+1)))):=⟨X5,hE2.len.trans HP.out.len,by omega,by omega,by omega,hE2.four⟩
    clear X5 hE2 q1 q2 q3 q4 aa6 adN hf1 hK0 hka hkb hkr HQ Hdx Gi CJ c0 VH HP;go_wp2_with (go_at_call 19;refine(sF B _ _ _ _ _ _ _ _ HP2.out.li.law.blk HP2.out.li.law.keeps).mono ?_;rintro e w4 ⟨rfl,rfl⟩)
    exact⟨⟨k+1,L2,ds2,by omega,by simp,HP2⟩,by simp[intOf];omega⟩
   ·have hdm:(9:Int)<op.o.kind:=by omega
    go_wp2_with fail
    have q1:=HP.out.a;have q2:=HP.out.b;have q3:=HP.out.r;have q4:=Hct.out;exact⟨⟨k+1,L',ds',by omega,by simp,⟨HP.out.li,HP.out.len,by omega,by omega,by omega,HP.out.four⟩⟩,by simp[intOf];omega⟩
  ·have hcl:=aa5.out k;have hka:=HP.out.a;have hkb:=HP.out.b;have hkr:=HP.out.r;have HE:Hid (∃wz,wz=wr):=⟨wr,rfl⟩;have hb1:L'.nums.length<=10066329600:=by omega
   have hb2:L'.turned.length<=2097154:=by omega
   have hb3:L'.rows.length<=2097152:=by omega
   have HP3:Hid (LI W wr lo B L' ds'/\ds'.length=n/\L'.nums.length % 4=0):=⟨HP.out.li,HP.out.len,HP.out.four⟩;have key:(k<ns.length/\¬(0<n))\/¬(k<ns.length):=by omega
   clear hka hkb hkr HP hgo HE;rcases key with ⟨hlt,hn0⟩ | hlt
   ·have hdk:(k:Int)<(ns.length:Int):=by omega
    have hdn:¬((0:Int)<(n:Int)):=by omega
    go_wp2_with fail
    go_loopw [11,12] (fun i _ wz=>∃(j:Nat) (L2:LW) (ds2:List Sd),j<=n/\i= .int .i64 (j:Int)/\Hid (LI W wz lo B L2 ds2/\ds2.length=n)/\L2.nums.length<=L'.nums.length+40*j/\Hid (L2.nums.length % 4=0)/\Hid (L2.turned=L'.turned)/\Hid (L2.rows=L'.rows)) (fun i _ _=>n-(intOf i).toNat)
    case atStart=>exact⟨0,L',ds',Nat.zero_le _,rfl,⟨HP3.out.1,HP3.out.2.1⟩,by omega,HP3.out.2.2,rfl,rfl⟩
    case round=>
     rename World=>wz
     obtain⟨j,L2,ds2,hj,rfl,HLL,hjn,H4,HTt,HRr⟩:=hrel;have HL:=hd HLL.out.1;by_cases hjl:j<n
     ·omega
     ·have hdj:¬((j:Int)<(n:Int)):=by omega
      go_wp2_with (go_at_call 19;refine(sF B _ _ _ _ _ _ _ _ HL.out.law.blk HL.out.law.keeps).mono ?_;rintro e w4 ⟨rfl,rfl⟩)
      go_ret
      exact⟨rfl,HL.out.env.nw⟩
   ·have hdk:¬((k:Int)<(ns.length:Int)):=by omega
    go_wp2_with fail
    go_loopw [11,12] (fun i _ wz=>∃(j:Nat) (L2:LW) (ds2:List Sd),j<=n/\i= .int .i64 (j:Int)/\Hid (LI W wz lo B L2 ds2/\ds2.length=n)/\L2.nums.length<=L'.nums.length+40*j/\Hid (L2.nums.length % 4=0)/\Hid (L2.turned=L'.turned)/\Hid (L2.rows=L'.rows)) (fun i _ _=>n-(intOf i).toNat)
    case atStart=>exact⟨0,L',ds',Nat.zero_le _,rfl,⟨HP3.out.1,HP3.out.2.1⟩,by omega,HP3.out.2.2,rfl,rfl⟩
    case round=>
     rename World=>wz
     obtain⟨j,L2,ds2,hj,rfl,HLL,hjn,H4,HTt,HRr⟩:=hrel;have HL:=hd HLL.out.1;by_cases hjl:j<n
     ·have hdj:(j:Int)<(n:Int):=by omega
      obtain⟨dx,IW⟩:∃dx,dx=ds2[j]'(by rw[HLL.out.2];exact hjl):=⟨_,rfl⟩
      have HjD:=hd (show j<ds2.length from by rw[HLL.out.2];exact hjl)
      have Hdx:=hd (show ds2[j]'HjD.out=dx from IW.symm)
      obtain⟨g2,c2,hsv,hown2,hcj,_⟩:=HL.out.law.sides.cell j (by rw[HL.out.ss,List.length_map];exact HjD.out)
      have hsl:L2.ss.length=n:=by rw[HL.out.ss,List.length_map,HLL.out.2]
      rw[hsl] at hsv;have e0:wz.cell? ⟨B,0,none⟩=some (.slice (some ⟨g2,0,none⟩) n c2):=by
       have:=HL.out.law.blk.cell 0
       rw[hsv] at this;exact this
      have e1:wz.cell? ⟨g2,j,none⟩=some (.pointer (some ⟨dx.D,0,none⟩)):=by
       rw[hcj,IW];have:L2.ss[j]? = some (.pointer (some ⟨(ds2[j]'HjD.out).D,0,none⟩)):=by rw[HL.out.ss,List.getElem?_map,List.getElem?_eq_getElem HjD.out];rfl
       rw[List.getElem?_eq_getElem (by rw[hsl];exact hjl)] at this
       exact this
      have ahx:=HL.out.law.blk.lt;have adO:=HL.out.law.sides.lt hown2;have hLS:LS W wz lo B L2 dx:=Hdx.out▸HL.out.one j HjD.out;have hfr:dx.bz=false:=Hdx.out▸HL.out.free _ (List.getElem_mem HjD.out);have aK:=hd (Q3 W lo B L2 dx 9 wz hLS hfr (by omega) H4.out (by rw[HTt.out];omega) (by rw[HRr.out];omega))
      clear hLS hfr hcj hsv hown2 hsl IW;go_wp2_with (go_at_call 20;refine aK.out.mono ?_;rintro e w5 ⟨rfl,L3,d3,h1,h2,h3,h5,h6⟩;have ZJ:=hd (HL.out.step j HjD.out h1 (Hdx.out.symm▸h2));have H34:=hd h2.four;have H3:=hd h3;have H5:=hd h5;have H6:=hd h6;clear h1 h2 h3 h5 h6)
      have h3:=H3.out;exact⟨⟨j+1,L3,ds2.set j d3,by omega,by simp,⟨ZJ.out,by rw[List.length_set];exact HLL.out.2⟩,by omega,hd (by rw[H34.out];exact H4.out),hd (H5.out.trans HTt.out),hd (H6.out.trans HRr.out)⟩,by simp[intOf];omega⟩
     ·have hdj:¬((j:Int)<(n:Int)):=by omega
      go_wp2_with (go_at_call 19;refine(sF B _ _ _ _ _ _ _ _ HL.out.law.blk HL.out.law.keeps).mono ?_;rintro e w4 ⟨rfl,rfl⟩)
      go_ret
      exact⟨rfl,HL.out.env.nw⟩
def VI:List (List Int):=[[0,1],[1,2]]
def tbF:Tb:=⟨[0,1],VI,false⟩
def dF0:List Nat:=[7,7,0,0,0,0,0,0]
def dF1:List Nat:=[3,6,0,0,0,0,0,0]
def dF2:List Nat:=[1,2,0,0,0,0,0,0]
theorem X6:fM [3,3] [(3:Int),3].length=dF0:=by decide
theorem adP:Closure 2 [tbF] dF0 dF1:=Il (k:=1) (by decide +kernel) rfl (by decide +kernel) (by decide +kernel)
theorem adQ:Closure 2 [tbF] (dF1.set 1 (rW (dF1.getD 1 0) 2)) dF2:=Il (k:=1) (by decide +kernel) rfl (by decide +kernel) (by decide +kernel)
theorem aa7:Dm dF1:=KT (by decide)
theorem aa8:Dm dF2:=KT (by decide)
theorem OI {w:World} {g:Nat} {a b:Int} (h:af w g #[.int .i64 a,.int .i64 b] 3):ax w (some ⟨g,0,none⟩) [a,b]:=ax.pW h 0 _ (fun i hi=>by
 match i,hi with
 | 0,_=>rfl
 | 1,_=>rfl)
theorem VJ {X:Nat} {vo ro:Option Addr} {ak au:Nat} {zs:List Int} {s:WS} {vars:List Int} {rows:List (List Int)} {nt:Bool} {way:Int} {w:World} (h:iM w X zs s) (hbz:s.l.busy=false)
  (nY:vars.length<=ak) (hvs:ax w vo vars) (hrs:dW w ro rows) (hyes:postOf zs s vars rows way=0) {r:List Nat} (hr:Dm r) (hc:Closure zs.length (s.bs++[⟨vars,rows,nt⟩]) s.d r):
  Calls Tryz.prog 11 #[.pointer (some ⟨X,0,none⟩),.agg #[.slice vo vars.length ak,.slice ro rows.length au,.bool nt,.int .i64 way]] w fun e w'=>e= .returned (.int .i64 0)/\∃s',iM w' X zs s'/\gq w w' X s s'/\s'.d=r/\s'.bs=s.bs++[⟨vars,rows,nt⟩]/\s'.sk=s.sk/\s'.l.busy=false/\s'.ts.length=s.ts.length+1:=by
 refine(II X vo ro ak au zs s vars rows nt way w h hbz nY hvs hrs hyes).mono ?_
 rintro e w' ⟨rfl,so,aI,x,d',bv,ts,us,h1,h2,h3,h4⟩
 refine⟨rfl,_,h3,h4,h1.one h2 hr hc,rfl,rfl,hbz,?_⟩
 have:=h3.mem.fits.1
 have e2:=h.mem.fits.1;rw[this];simp[WS.set,WS.more,e2]
theorem Nq {X:Nat} {zs:List Int} {s:WS} {v value:Nat} {w:World} (h:iM w X zs s) (hbz:s.l.busy=false) (hf:fD zs s.d v value=0) {r:List Nat} (hr:Dm r) (hc:Closure zs.length s.bs (s.d.set v (rW (s.d.getD v 0) value)) r):
  Calls Tryz.prog 13 #[.pointer (some ⟨X,0,none⟩),.int .i64 v,.int .i64 value] w fun e w'=>e= .returned (.int .i64 0)/\∃s',iM w' X zs s'/\gq w w' X s s'/\s'.d=r/\s'.bs=s.bs/\s'.sk=s.sk/\s'.l.busy=false:=by
 refine(BD X zs s v value w h hbz hf).mono ?_
 rintro e w' ⟨rfl,d',bv,ts,us,h1,h2,h3,h4⟩
 exact⟨rfl,_,h3,h4,h1.one h2 hr hc,rfl,rfl,hbz⟩
set_option maxRecDepth 1000000 in
theorem VK:Ox:=by
 intro w;go_enter Tryz.func7,Tryz.ntmps7
 go_wp2_with fail
 have hb0:af (w.alloc (.cells #[.int .i64 3,.int .i64 3] 3)) w.heap.size #[.int .i64 3,.int .i64 3] 3:=af.new _ _ _;have hf0:Nw w (w.alloc (.cells #[.int .i64 3,.int .i64 3] 3)):=(Fr.refl _ w).alloc _;refine(new_any w.heap.size 0 2 [3,3] _ (by decide) (by decide) (OI hb0)).mono ?_
 rintro e w1 ⟨hf1,hcase⟩
 rcases hcase with ⟨hok,X,az,rfl,hX1,hs1,uT,hsl⟩ | ⟨hno,_⟩
 ·have hA:=N8 hok hX1 hs1;have hsi:Since w X (YK [3,3] az):=fun k hk=>by
   simp at uT hsl
   rcases xe hk with rfl | hk
   ·omega
   ·have:=hsl k hk
    omega
  have dQ:Nw w w1:=hf0.trans hf1 (fun i h=>h.elim)
  have hds:(YK [3,3] az).d=dF0:=X6;obtain⟨s,hs⟩:∃s,YK [3,3] az=s:=⟨_,rfl⟩;have hbs:s.bs=[]:=by rw[<-hs];rfl
  have hsk:s.sk=[]:=by rw[<-hs];rfl
  have htl:s.ts.length=0:=by rw[<-hs];rfl
  have hbz:s.l.busy=false:=by rw[<-hs];rfl
  rw[hs] at hA hsi hds;have HA:=hd hA;have Hsi:=hd hsi;have Hf:=hd dQ;clear hb0 hf0 hf1 hX1 hs1 uT hsl hA hsi dQ hs;go_wp2_with fail
  obtain⟨U,hU⟩:∃U,U=(((w1.alloc (.cells #[.int .i64 0,.int .i64 1] 3)).alloc (.cells #[.int .i64 0,.int .i64 1] 3)).alloc (.cells #[.int .i64 1,.int .i64 2] 3)).alloc (.cells #[.slice (some ⟨w1.heap.size+1,0,none⟩) 2 2,.slice (some ⟨w1.heap.size+1+1,0,none⟩) 2 2] 22):=⟨_,rfl⟩;have iR:Nw w1 U:=by rw[hU];exact((((Fr.refl _ w1).alloc _).alloc _).alloc _).alloc _
  have hk0:af U w1.heap.size #[.int .i64 0,.int .i64 1] 3:=by rw[hU];exact(((af.new _ _ _).alloc _).alloc _).alloc _
  have hk1:af U (w1.heap.size+1) #[.int .i64 0,.int .i64 1] 3:=by
   rw[hU];have:=((af.new (w1.alloc (.cells #[.int .i64 0,.int .i64 1] 3)) #[.int .i64 0,.int .i64 1] 3).alloc (.cells #[.int .i64 1,.int .i64 2] 3)).alloc (.cells #[.slice (some ⟨w1.heap.size+1,0,none⟩) 2 2,.slice (some ⟨w1.heap.size+1+1,0,none⟩) 2 2] 22)
   simpa using this
  have hk2:af U (w1.heap.size+1+1) #[.int .i64 1,.int .i64 2] 3:=by
   rw[hU];have:=(af.new ((w1.alloc (.cells #[.int .i64 0,.int .i64 1] 3)).alloc (.cells #[.int .i64 0,.int .i64 1] 3)) #[.int .i64 1,.int .i64 2] 3).alloc (.cells #[.slice (some ⟨w1.heap.size+1,0,none⟩) 2 2,.slice (some ⟨w1.heap.size+1+1,0,none⟩) 2 2] 22)
   simpa using this
  have hk3:af U (w1.heap.size+1+1+1) #[.slice (some ⟨w1.heap.size+1,0,none⟩) 2 2,.slice (some ⟨w1.heap.size+1+1,0,none⟩) 2 2] 22:=by
   rw[hU];have:=af.new (((w1.alloc (.cells #[.int .i64 0,.int .i64 1] 3)).alloc (.cells #[.int .i64 0,.int .i64 1] 3)).alloc (.cells #[.int .i64 1,.int .i64 2] 3)) #[.slice (some ⟨w1.heap.size+1,0,none⟩) 2 2,.slice (some ⟨w1.heap.size+1+1,0,none⟩) 2 2] 22
   simpa using this
  have hrw:dW U (some ⟨w1.heap.size+1+1+1,0,none⟩) VI:=fun i hi=>by
   match i,hi with
   | 0,_=>exact⟨_,0,_,2,rfl,hk3.lt,hk3.cell 0,OI hk1⟩
   | 1,_=>exact⟨_,0,_,2,rfl,hk3.lt,hk3.cell 1,OI hk2⟩
  rw[<-hU];have hA0:=HA.out.nw iR;have hf0:=Hf.out.trans iR (fun i h=>h.elim)
  refine(VJ (zs:=[3,3]) (s:=s) (vars:=[0,1]) (rows:=VI) (nt:=false) (way:=1) hA0 hbz (by decide) (OI hk0) hrw (by unfold postOf;rw[htl,hsk,hds];decide) (r:=dF1) aa7 (by rw[hbs,hds];exact adP)).mono ?_
  rintro e x1 ⟨rfl,s1,hA1,hst,X7,aa9,ahy,adR,ahz⟩
  obtain⟨adS,adT⟩:=hst.since Hsi.out hf0;rw[hbs] at aa9;have HA1:=hd hA1;have adU:=hd adS;have Hf1:=hd adT;clear HA Hf Hsi hU iR hk0 hk1 hk2 hk3 hrw hA0 hf0 hst hA1 adS adT;go_wp2_with fail
  refine(xY X s1.az s1.d _ s1.l [3,3] 1 x1 HA1.out.mem.blk HA1.out.mem.sz (by decide) (by decide) HA1.out.good.dm.len (by rw[X7];decide) adR).mono ?_
  rw[X7,show vals (dF1.getD 1 0)=[1,2] by decide]
  rintro e x2 ⟨rfl,hf2,hl2⟩
  have HA2:=hd (HA1.out.nw hf2);have yG:=hd (Hf1.out.trans hf2 (fun _ x=>x.elim))
  have Hl2:=hd hl2;have Hn2:=hd (show ¬s1.own X x1.heap.size from fun ho=>by have:=HA1.out.mem.lt ho;omega)
  clear HA1 Hf1 hf2 hl2;go_wp2_with fail
  refine(Nq (zs:=[3,3]) (s:=s1) (v:=1) (value:=2) HA2.out adR (by rw[X7];decide) (r:=dF2) aa8 (by rw[X7,aa9];exact adQ)).mono ?_
  rintro e x3 ⟨rfl,s3,hA3,hst3,adV,agi,ahA,agj⟩
  obtain⟨adW,hf3⟩:=hst3.since adU.out yG.out;have Hl3:=hd (hst3.blk Hl2.out Hn2.out).1;rw[aa9] at agi;have HA3:=hd hA3;have agk:=hd adW;have Jv:=hd hf3;clear HA2 yG adU hA3 adW hf3 hst3;go_wp2_with fail
  refine(xY X s3.az s3.d _ s3.l [3,3] 0 x3 HA3.out.mem.blk HA3.out.mem.sz (by decide) (by decide) HA3.out.good.dm.len (by rw[adV];decide) agj).mono ?_
  rw[adV,show vals (dF2.getD 0 0)=[0] by decide]
  rintro e x4 ⟨rfl,hf4,hl4⟩
  have hl1:=Hl3.out.nw hf4;have p0:x4.cell? ⟨x1.heap.size,0,none⟩=some (.int .i64 1):=hl1.cell 0
  have p1:x4.cell? ⟨x1.heap.size,1,none⟩=some (.int .i64 2):=hl1.cell 1
  have p2:x4.cell? ⟨x3.heap.size,0,none⟩=some (.int .i64 0):=hl4.cell 0
  have HF:=hd (Jv.out.trans hf4 (fun _ x=>x.elim))
  clear hl1 hl4 hf4 HA3 Jv agk;go_wp2
  go_ret
  exact⟨rfl,HF.out⟩
 ·exact absurd hno (by decide)
def lw0:LW:=⟨aZ,aZ,aZ,aZ,[],[],[],[]⟩
theorem LI.start {W w:World} (hf:Nw W w) (hB:af w W.heap.size #[aZ,aZ,aZ,aZ] 29):LI W w W.heap.size W.heap.size lw0 []:=by
 have hown:∀k,lw0.own W.heap.size k->k=W.heap.size:=fun k hk=>by
  rcases hk with hk | hk | hk | hk | hk | ⟨v,hv,_⟩ | ⟨v,hv,_⟩ | ⟨v,hv,_⟩
  ·exact hk
  ·cases hk
  ·cases hk
  ·cases hk
  ·cases hk
  ·cases hv
  ·cases hv
  ·cases hv
 refine⟨⟨⟨Nat.le_refl _,hf,hf.size⟩,⟨hB,Row.nil _ _,⟨Row.nil _ _,Row.nil _ _,Row.nil _ _,by decide,by decide,by decide,fun i hi=>absurd hi (Nat.not_lt_zero _),fun i hi=>absurd hi (Nat.not_lt_zero _),fun i hi=>absurd hi (Nat.not_lt_zero _)⟩,fun k hk=>?_,fun k hk=>?_,fun v hv=>?_,fun v hv=>(by cases hv),fun k hk=>(by cases hk),fun k hk=>(by cases hk),fun k hk=>(by cases hk)⟩,rfl,fun d hd=>(by cases hd),fun d hd=>(by cases hd),fun i j hi=>absurd hi (Nat.not_lt_zero _),fun d hd=>(by cases hd)⟩,fun d hd=>(by cases hd)⟩
 ·rw[hown k hk];exact Nat.le_refl _
 ·rw[hown k hk];exact hB.lt
 ·rcases hv with hv | hv <;> cases hv
set_option maxRecDepth 1000000 in
theorem Q5 (hfirst:Ox) (hgo:Af) (ao so:Option Addr) (ca sc:Nat) (xs:List Int) (ns:List Ag) (w:World) (hx:xs.length<=1048576) (ha:ax w ao xs) (hops:Cm w so (ns.map Ag.o)) (OH:∀x∈ns,vK w x.o x.F x.M) (Zc:jf ns<=2097152):
  Calls Tryz.prog 5 #[.slice ao xs.length ca,.slice so ns.length sc] w fun e w'=>e= .returned (.bool true)/\Nw w w':=by
 have hB0:af (w.alloc (.cells #[aZ,aZ,aZ,aZ] 29)) w.heap.size #[aZ,aZ,aZ,aZ] 29:=af.new _ _ _;have DJ:Nw w (w.alloc (.cells #[aZ,aZ,aZ,aZ] 29)):=(Fr.refl _ w).alloc _;go_enter Tryz.func5,Tryz.ntmps5
 go_wp2_with fail
 refine(hfirst _).mono ?_
 rintro e w1 ⟨rfl,hf1⟩
 have Zd:=LI.start (DJ.trans hf1 (fun _ x=>x.elim)) (hB0.nw hf1)
 have adX:=hd (VF w w.heap.size w.heap.size lw0 [] ao ca xs w1 Zd (by decide) ha hx (by decide))
 clear hB0 DJ hf1 Zd;go_wp2_with (first
  | (go_at_call 8;refine adX.out.mono ?_;rintro e w2 ⟨rfl,L',ds',h1,h2,h3,h4,h5⟩;have adY:=hd (VG hgo w w.heap.size w.heap.size L' ds' so sc ns w2 h1 (Nat.le_trans h5 (by decide)) hops OH Zc h2 (by rw[h4];decide) h3);clear h1 h2 h3 h4 h5)
  | (go_at_call 9;refine adY.out.mono ?_;rintro e w3 ⟨rfl,hf3⟩;have Jv:=hd hf3;clear hf3))
 go_ret
 exact⟨rfl,Jv.out⟩
set_option maxRecDepth 1000000 in
theorem CO (X:Nat) (v value:Int) (w:World) (hcb:w.cell? ⟨X,12,none⟩=some (.bool true)):
  Calls Tryz.prog 30 #[.pointer (some ⟨X,0,none⟩),.int .i64 v,.int .i64 value] w fun e w'=>e= .returned (.int .i64 5)/\w'=w:=by
 go_enter Tryz.func30,Tryz.ntmps30
 go_wp2_with fail
 go_ret
 exact⟨rfl,rfl⟩
set_option maxRecDepth 1000000 in
theorem VL (X:Nat) (v value:Int) (w:World) (hcb:w.cell? ⟨X,12,none⟩=some (.bool true)):
  Calls Tryz.prog 56 #[.pointer (some ⟨X,0,none⟩),.int .i64 v,.int .i64 value] w fun e w'=>e= .returned (.int .i64 5)/\w'=w:=by
 have aK:=hd (CO X v value w hcb);go_enter Tryz.func56,Tryz.ntmps56
 go_wp2_with (go_at_call 30;refine aK.out.mono ?_;rintro e w1 ⟨rfl,rfl⟩)
 go_ret
 exact⟨rfl,rfl⟩
set_option maxRecDepth 1000000 in
theorem JI (X:Nat) (v value:Int) (w:World) (hcb:w.cell? ⟨X,12,none⟩=some (.bool true)):
  Calls Tryz.prog 13 #[.pointer (some ⟨X,0,none⟩),.int .i64 v,.int .i64 value] w fun e w'=>e= .returned (.int .i64 5)/\w'=w:=by
 have aK:=hd (CO X v value w hcb);go_enter Tryz.func13,Tryz.ntmps13
 go_wp2_with (go_at_call 30;refine aK.out.mono ?_;rintro e w1 ⟨rfl,rfl⟩)
 go_ret
 exact⟨rfl,rfl⟩
set_option maxRecDepth 1000000 in
theorem Q7 (X:Nat) (w:World) (hcb:w.cell? ⟨X,12,none⟩=some (.bool true)):
  Calls Tryz.prog 61 #[.pointer (some ⟨X,0,none⟩)] w fun e w'=>e= .returned (.int .i64 5)/\w'=w:=by
 go_enter Tryz.func61,Tryz.ntmps61
 go_wp2_with fail
 go_ret
 exact⟨rfl,rfl⟩
set_option maxRecDepth 1000000 in
theorem VM (X:Nat) (w:World) (hcb:w.cell? ⟨X,12,none⟩=some (.bool true)):
  Calls Tryz.prog 62 #[.pointer (some ⟨X,0,none⟩)] w fun e w'=>e= .returned (.int .i64 5)/\w'=w:=by
 go_enter Tryz.func62,Tryz.ntmps62
 go_wp2_with fail
 go_ret
 exact⟨rfl,rfl⟩
set_option maxRecDepth 1000000 in
theorem JK (X:Nat) (v:Int) (w:World) (hcb:w.cell? ⟨X,12,none⟩=some (.bool true)):
  Calls Tryz.prog 12 #[.pointer (some ⟨X,0,none⟩),.int .i64 v] w fun e w'=>e= .returned (.tuple #[.slice none 0 0,.int .i64 5])/\w'=w:=by
 go_enter Tryz.func12,Tryz.ntmps12
 go_wp2_with fail
 go_ret2
 exact⟨rfl,rfl⟩
set_option maxRecDepth 1000000 in
theorem Q8 (X:Nat) (w:World) (hcb:w.cell? ⟨X,12,none⟩=some (.bool true)) (uT:X<w.heap.size):
  Calls Tryz.prog 59 #[.pointer (some ⟨X,0,none⟩)] w fun e w'=>e= .returned (.agg #[.int .i64 0,.int .i64 0,.int .i64 0,.bool false,.int .i64 0,.int .i64 0])/\Nw w w':=by
 go_enter Tryz.func59,Tryz.ntmps59
 go_wp2_with fail
 have hB:=af.new w BF 110;have z0:=hB.cell 0;have z1:=hB.cell 1;have z2:=hB.cell 2;have z3:=hB.cell 3;have z4:=hB.cell 4;have z5:=hB.cell 5;refine bodyPost_ret (v:=.agg #[.int .i64 0,.int .i64 0,.int .i64 0,.bool false,.int .i64 0,.int .i64 0]) ?_ rfl ⟨rfl,(Fr.refl _ w).alloc _⟩
 simp only[BF] at z0 z1 z2 z3 z4 z5;simp[results,Tryz.results59,go_sem,z0,z1,z2,z3,z4,z5]
structure BS (W w:World) (lo B:Nat) (L:LW) (d:Sd):Prop where
 ls:LS W w lo B L d
 bz:d.bz=true
theorem BS.cells {W w:World} {lo B:Nat} {L:LW} {d:Sd} (h:BS W w lo B L d):w.cell? ⟨d.X,12,none⟩=some (.bool true)/\d.X<w.heap.size/\w.cell? ⟨d.D,0,none⟩=some (.pointer (some ⟨d.X,0,none⟩))/\w.cell? ⟨d.D,2,none⟩=some (.bool true)/\d.D<w.heap.size:=by
 obtain⟨h1,h2⟩:=h.ls.side.pair.at_.Y4 (by rw[h.ls.side.pair.busy];exact h.bz)
 exact⟨h1,h2,h.ls.side.blk.cell 0,(h.ls.side.blk.cell 2).trans (by rw[<-h.bz];rfl),h.ls.side.blk.lt⟩
theorem BS.nw {W w w':World} {lo B:Nat} {L:LW} {d:Sd} (h:BS W w lo B L d) (f:Nw w w'):BS W w' lo B L d:=⟨h.ls.nw f,h.bz⟩
set_option maxRecDepth 1000000 in
theorem Gj (W:World) (lo B:Nat) (L:LW) (d:Sd) (v:Int) (w:World) (h:BS W w lo B L d):
  Calls Tryz.prog 36 #[.pointer (some ⟨B,0,none⟩),.pointer (some ⟨d.D,0,none⟩),.int .i64 v] w fun e w'=>e= .returned (.bool true)/\Nw w w':=by
 obtain⟨c0,uT,c1,c2,hDl⟩:=h.cells;have aK:=hd (JK d.X v w c0);clear h;go_enter Tryz.func36,Tryz.ntmps36
 go_wp2_with (go_at_call 12;refine aK.out.mono ?_;rintro e w1 ⟨rfl,rfl⟩)
 go_ret
 exact⟨rfl,Fr.refl _ _⟩
set_option maxRecDepth 1000000 in
theorem JL (W:World) (lo B:Nat) (L:LW) (d:Sd) (most:Int) (w:World) (h:BS W w lo B L d):
  Calls Tryz.prog 37 #[.pointer (some ⟨d.D,0,none⟩),.int .i64 most] w fun e w'=>e= .returned (.bool true)/\Nw w w':=by
 obtain⟨_,_,c1,_,hDl⟩:=h.cells;have Hc2:=hd (fun w' (f:Nw w w')=>(show w'.cell? ⟨d.D,2,none⟩=some (.bool true)/\d.D<w'.heap.size from⟨(h.nw f).cells.2.2.2.1,(h.nw f).cells.2.2.2.2⟩))
 have aK:=hd (Nc d.X d.zs d.s most w h.ls.side.pair.at_ (by rw[h.ls.side.pair.busy];exact h.bz))
 clear h;go_enter Tryz.func37,Tryz.ntmps37
 go_wp2_with (go_at_call 55;refine aK.out.mono ?_;rintro e w1 ⟨rfl,hf1⟩;obtain⟨c2,QK⟩:=Hc2.out w1 hf1;have Hf1:=hd hf1;clear hf1)
 go_ret
 exact⟨rfl,Hf1.out⟩
set_option maxRecDepth 1000000 in
theorem Gl (W:World) (lo B:Nat) (L:LW) (d:Sd) (o:kU) (w:World) (h:BS W w lo B L d) (hk:o.kind=2):
  Calls Tryz.prog 38 #[.pointer (some ⟨d.D,0,none⟩),.agg o.cells] w fun e w'=>e= .returned (.bool true)/\Nw w w':=by
 obtain⟨b0,hb0⟩:∃b0,b0=w.heap.size:=⟨_,rfl⟩;obtain⟨V,hV⟩:∃V,V=w.alloc (.cells o.cells 54):=⟨_,rfl⟩;have fA:Nw w V:=by rw[hV];exact(Fr.refl _ w).alloc _
 have hC:qV V b0 d o:=⟨h.ls.side.blk.nw fA,by rw[hV,hb0];exact af.new _ _ _⟩
 have lK:=hd fA;have HC:=hd hC;obtain⟨a,ha⟩:∃a,o.a=a:=⟨_,rfl⟩;obtain⟨b,hb⟩:∃b,o.b=b:=⟨_,rfl⟩;have hcell:∀w',qV w' b0 d o->w'.cell? ⟨b0,0,none⟩=some (.int .i64 2)/\w'.cell? ⟨b0,1,none⟩=some (.int .i64 a)/\w'.cell? ⟨b0,2,none⟩=some (.int .i64 b)/\w'.cell? ⟨d.D,0,none⟩=some (.pointer (some ⟨d.X,0,none⟩))/\w'.cell? ⟨d.D,2,none⟩=some (.bool true):=fun w' hc=>by
  refine⟨(hc.k2.cell 0).trans ?_,(hc.k2.cell 1).trans ?_,(hc.k2.cell 2).trans ?_,hc.k1.cell 0,(hc.k1.cell 2).trans ?_⟩
  ·rw[<-hk];rfl
  ·rw[<-ha];rfl
  ·rw[<-hb];rfl
  ·rw[<-h.bz];rfl
 have fH:=hd hcell;obtain⟨c0,c1,c2,_,c4⟩:=hcell V hC;have hbl:=hC.k2.lt;have hDl:=hC.k1.lt;have aK:=hd (VL d.X a b V.drew (h.nw fA).cells.1);clear h hC hcell hk ha hb fA;go_enter Tryz.func38,Tryz.ntmps38
 go_upto_region 1 with fail
 rw[<-hV,<-hb0];clear hV hb0;go_wp2_with fail
 have hK0:qV V.drew b0 d o:=HC.out.nw ((Fr.refl _ V).drew);refine eF adk 10 (fun w''=>qV w'' b0 d o) (by kernel_rfl) (by kernel_rfl) (by kernel_rfl) ?_
 refine take_at (i:=0) (d:=some 16) (v:=.pointer (some ⟨d.D,0,none⟩)) (by kernel_rfl) (by kernel_rfl) (fun _ _ _ h=>h) (fun w'' hS=>by kernel_rfl) hK0 ?_
 refine take_at (i:=1) (d:=some 17) (v:=.pointer (some ⟨d.D,0,none⟩)) (by kernel_rfl) (by kernel_rfl) (fun _ _ _ h=>h) (fun w'' hS=>by kernel_rfl) hK0 ?_
 refine take_at (i:=2) (d:=some 18) (v:=.pointer (some ⟨d.D,0,none⟩)) (by kernel_rfl) (by kernel_rfl) (fun _ _ _ h=>h) (fun w'' hS=>by kernel_rfl) hK0 ?_
 refine take_at (i:=3) (d:=some 19) (v:=.pointer (some ⟨d.X,0,none⟩)) (by kernel_rfl) (by kernel_rfl) (fun _ _ _ h=>h) (fun w'' hS=>aj 35 (.tmp 18) (by kernel_rfl) (by kernel_rfl) (by kernel_rfl) (fH.out w'' hS).2.2.2.1) hK0 ?_
 refine take_at (i:=4) (d:=some 20) (v:=.pointer (some ⟨b0,1,none⟩)) (by kernel_rfl) (by kernel_rfl) (fun _ _ _ h=>h) (fun w'' hS=>by kernel_rfl) hK0 ?_
 refine take_at (i:=5) (d:=some 21) (v:=.int .i64 a) (by kernel_rfl) (by kernel_rfl) (fun _ _ _ h=>h) (fun w'' hS=>aj 3 (.tmp 20) (by kernel_rfl) (by kernel_rfl) (by kernel_rfl) (fH.out w'' hS).2.1) hK0 ?_
 refine take_at (i:=6) (d:=some 22) (v:=.pointer (some ⟨b0,2,none⟩)) (by kernel_rfl) (by kernel_rfl) (fun _ _ _ h=>h) (fun w'' hS=>by kernel_rfl) hK0 ?_
 refine take_at (i:=7) (d:=some 23) (v:=.int .i64 b) (by kernel_rfl) (by kernel_rfl) (fun _ _ _ h=>h) (fun w'' hS=>aj 3 (.tmp 22) (by kernel_rfl) (by kernel_rfl) (by kernel_rfl) (fH.out w'' hS).2.2.1) hK0 ?_
 refine enter_at (i:=8) (d:=some 24) (w':=V.drew) (f:=56) (args:=#[.pointer (some ⟨d.X,0,none⟩),.int .i64 a,.int .i64 b]) (by kernel_rfl) (by kernel_rfl) (by kernel_rfl) ?_
 refine aK.out.mono ?_
 rintro e w1 ⟨rfl,rfl⟩
 refine⟨_,rfl,hK0,?_⟩
 refine dG (i:=9) (d:=some 5) (v:=.int .i64 5) (w':=V.drew) (by kernel_rfl) (by kernel_rfl) (by kernel_rfl) hK0 ?_
 refine wpAnyH_done (by kernel_rfl) ?_ _
 simp only[Act.put,bQ,bW,bU];clear hK0 c0 c1 c2;go_wp2_with fail
 go_ret
 exact⟨rfl,lK.out.drew⟩
set_option maxRecDepth 1000000 in
theorem zT (W:World) (lo B:Nat) (L:LW) (d:Sd) (o:kU) (w:World) (h:BS W w lo B L d) (hk:o.kind=3):
  Calls Tryz.prog 38 #[.pointer (some ⟨d.D,0,none⟩),.agg o.cells] w fun e w'=>e= .returned (.bool true)/\Nw w w':=by
 obtain⟨b0,hb0⟩:∃b0,b0=w.heap.size:=⟨_,rfl⟩;obtain⟨V,hV⟩:∃V,V=w.alloc (.cells o.cells 54):=⟨_,rfl⟩;have fA:Nw w V:=by rw[hV];exact(Fr.refl _ w).alloc _
 have hC:qV V b0 d o:=⟨h.ls.side.blk.nw fA,by rw[hV,hb0];exact af.new _ _ _⟩
 have lK:=hd fA;have HC:=hd hC;obtain⟨a,ha⟩:∃a,o.a=a:=⟨_,rfl⟩;obtain⟨b,hb⟩:∃b,o.b=b:=⟨_,rfl⟩;have hcell:∀w',qV w' b0 d o->w'.cell? ⟨b0,0,none⟩=some (.int .i64 3)/\w'.cell? ⟨b0,1,none⟩=some (.int .i64 a)/\w'.cell? ⟨b0,2,none⟩=some (.int .i64 b)/\w'.cell? ⟨d.D,0,none⟩=some (.pointer (some ⟨d.X,0,none⟩))/\w'.cell? ⟨d.D,2,none⟩=some (.bool true):=fun w' hc=>by
  refine⟨(hc.k2.cell 0).trans ?_,(hc.k2.cell 1).trans ?_,(hc.k2.cell 2).trans ?_,hc.k1.cell 0,(hc.k1.cell 2).trans ?_⟩
  ·rw[<-hk];rfl
  ·rw[<-ha];rfl
  ·rw[<-hb];rfl
  ·rw[<-h.bz];rfl
 have fH:=hd hcell;obtain⟨c0,c1,c2,_,c4⟩:=hcell V hC;have hbl:=hC.k2.lt;have hDl:=hC.k1.lt;have aK:=hd (JI d.X a b V.drew (h.nw fA).cells.1);clear h hC hcell hk ha hb fA;go_enter Tryz.func38,Tryz.ntmps38
 go_upto_region 1 with fail
 rw[<-hV,<-hb0];clear hV hb0;go_wp2_with fail
 have hK0:qV V.drew b0 d o:=HC.out.nw ((Fr.refl _ V).drew);refine eF adl 10 (fun w''=>qV w'' b0 d o) (by kernel_rfl) (by kernel_rfl) (by kernel_rfl) ?_
 refine take_at (i:=0) (d:=some 25) (v:=.pointer (some ⟨d.D,0,none⟩)) (by kernel_rfl) (by kernel_rfl) (fun _ _ _ h=>h) (fun w'' hS=>by kernel_rfl) hK0 ?_
 refine take_at (i:=1) (d:=some 26) (v:=.pointer (some ⟨d.D,0,none⟩)) (by kernel_rfl) (by kernel_rfl) (fun _ _ _ h=>h) (fun w'' hS=>by kernel_rfl) hK0 ?_
 refine take_at (i:=2) (d:=some 27) (v:=.pointer (some ⟨d.D,0,none⟩)) (by kernel_rfl) (by kernel_rfl) (fun _ _ _ h=>h) (fun w'' hS=>by kernel_rfl) hK0 ?_
 refine take_at (i:=3) (d:=some 28) (v:=.pointer (some ⟨d.X,0,none⟩)) (by kernel_rfl) (by kernel_rfl) (fun _ _ _ h=>h) (fun w'' hS=>aj 35 (.tmp 27) (by kernel_rfl) (by kernel_rfl) (by kernel_rfl) (fH.out w'' hS).2.2.2.1) hK0 ?_
 refine take_at (i:=4) (d:=some 29) (v:=.pointer (some ⟨b0,1,none⟩)) (by kernel_rfl) (by kernel_rfl) (fun _ _ _ h=>h) (fun w'' hS=>by kernel_rfl) hK0 ?_
 refine take_at (i:=5) (d:=some 30) (v:=.int .i64 a) (by kernel_rfl) (by kernel_rfl) (fun _ _ _ h=>h) (fun w'' hS=>aj 3 (.tmp 29) (by kernel_rfl) (by kernel_rfl) (by kernel_rfl) (fH.out w'' hS).2.1) hK0 ?_
 refine take_at (i:=6) (d:=some 31) (v:=.pointer (some ⟨b0,2,none⟩)) (by kernel_rfl) (by kernel_rfl) (fun _ _ _ h=>h) (fun w'' hS=>by kernel_rfl) hK0 ?_
 refine take_at (i:=7) (d:=some 32) (v:=.int .i64 b) (by kernel_rfl) (by kernel_rfl) (fun _ _ _ h=>h) (fun w'' hS=>aj 3 (.tmp 31) (by kernel_rfl) (by kernel_rfl) (by kernel_rfl) (fH.out w'' hS).2.2.1) hK0 ?_
 refine enter_at (i:=8) (d:=some 33) (w':=V.drew) (f:=13) (args:=#[.pointer (some ⟨d.X,0,none⟩),.int .i64 a,.int .i64 b]) (by kernel_rfl) (by kernel_rfl) (by kernel_rfl) ?_
 refine aK.out.mono ?_
 rintro e w1 ⟨rfl,rfl⟩
 refine⟨_,rfl,hK0,?_⟩
 refine dG (i:=9) (d:=some 5) (v:=.int .i64 5) (w':=V.drew) (by kernel_rfl) (by kernel_rfl) (by kernel_rfl) hK0 ?_
 refine wpAnyH_done (by kernel_rfl) ?_ _
 simp only[Act.put,bQ,bW,bU];clear hK0 c0 c1 c2;go_wp2_with fail
 go_ret
 exact⟨rfl,lK.out.drew⟩
set_option maxRecDepth 1000000 in
theorem DD (W:World) (lo B:Nat) (L:LW) (d:Sd) (o:kU) (w:World) (h:BS W w lo B L d) (hk:o.kind=6):
  Calls Tryz.prog 38 #[.pointer (some ⟨d.D,0,none⟩),.agg o.cells] w fun e w'=>e= .returned (.bool true)/\Nw w w':=by
 obtain⟨b0,hb0⟩:∃b0,b0=w.heap.size:=⟨_,rfl⟩;obtain⟨V,hV⟩:∃V,V=w.alloc (.cells o.cells 54):=⟨_,rfl⟩;have fA:Nw w V:=by rw[hV];exact(Fr.refl _ w).alloc _
 have hC:af V b0 o.cells 54:=by rw[hV,hb0];exact af.new _ _ _
 have lK:=hd fA;have c0:V.cell? ⟨b0,0,none⟩=some (.int .i64 6):=(hC.cell 0).trans (by rw[<-hk];rfl)
 obtain⟨e0,_,d0,d2,hDl⟩:=(h.nw fA).cells;have hbl:=hC.lt;have aK:=hd (Q7 d.X V e0);clear h hC hk fA;go_enter Tryz.func38,Tryz.ntmps38
 go_upto_region 1 with fail
 rw[<-hV,<-hb0];clear hV hb0;go_wp2_with (go_at_call 61;refine aK.out.mono ?_;rintro e w1 ⟨rfl,rfl⟩)
 go_ret
 exact⟨rfl,lK.out⟩
set_option maxRecDepth 1000000 in
theorem Gm (W:World) (lo B:Nat) (L:LW) (d:Sd) (o:kU) (w:World) (h:BS W w lo B L d) (hk:o.kind=7):
  Calls Tryz.prog 38 #[.pointer (some ⟨d.D,0,none⟩),.agg o.cells] w fun e w'=>e= .returned (.bool true)/\Nw w w':=by
 obtain⟨b0,hb0⟩:∃b0,b0=w.heap.size:=⟨_,rfl⟩;obtain⟨V,hV⟩:∃V,V=w.alloc (.cells o.cells 54):=⟨_,rfl⟩;have fA:Nw w V:=by rw[hV];exact(Fr.refl _ w).alloc _
 have hC:af V b0 o.cells 54:=by rw[hV,hb0];exact af.new _ _ _
 have lK:=hd fA;have c0:V.cell? ⟨b0,0,none⟩=some (.int .i64 7):=(hC.cell 0).trans (by rw[<-hk];rfl)
 obtain⟨e0,_,d0,d2,hDl⟩:=(h.nw fA).cells;have hbl:=hC.lt;have aK:=hd (VM d.X V e0);clear h hC hk fA;go_enter Tryz.func38,Tryz.ntmps38
 go_upto_region 1 with fail
 rw[<-hV,<-hb0];clear hV hb0;go_wp2_with (go_at_call 62;refine aK.out.mono ?_;rintro e w1 ⟨rfl,rfl⟩)
 go_ret
 exact⟨rfl,lK.out⟩
set_option maxRecDepth 1000000 in
theorem DF (W:World) (lo B:Nat) (L:LW) (d:Sd) (o:kU) (w:World) (h:BS W w lo B L d) (hk:o.kind=5):
  Calls Tryz.prog 38 #[.pointer (some ⟨d.D,0,none⟩),.agg o.cells] w fun e w'=>e= .returned (.bool true)/\Nw w w':=by
 obtain⟨b0,hb0⟩:∃b0,b0=w.heap.size:=⟨_,rfl⟩;obtain⟨V,hV⟩:∃V,V=w.alloc (.cells o.cells 54):=⟨_,rfl⟩;have fA:Nw w V:=by rw[hV];exact(Fr.refl _ w).alloc _
 have hC:af V b0 o.cells 54:=by rw[hV,hb0];exact af.new _ _ _
 have lK:=hd fA;have c0:V.cell? ⟨b0,0,none⟩=some (.int .i64 5):=(hC.cell 0).trans (by rw[<-hk];rfl)
 obtain⟨e0,uT,d0,_,hDl⟩:=(h.nw fA).cells;have Hc2:=hd (fun w' (f:Nw V w')=>(show w'.cell? ⟨d.D,2,none⟩=some (.bool true)/\d.D<w'.heap.size from⟨((h.nw fA).nw f).cells.2.2.2.1,((h.nw fA).nw f).cells.2.2.2.2⟩))
 have hbl:=hC.lt;have aK:=hd (Q8 d.X V e0 uT);have heq:∀w':World,(binOp .eql 110 (.agg #[.int .i64 0,.int .i64 0,.int .i64 0,.bool false,.int .i64 0,.int .i64 0]) (.agg #[.int .i64 0,.int .i64 0,.int .i64 0,.bool false,.int .i64 0,.int .i64 0])).run Tryz.prog w'= .ok (.bool true) w':=fun w'=>Js 0 0 0 false 0 0 w'
 clear h hC hk fA e0 uT;go_enter Tryz.func38,Tryz.ntmps38
 go_upto_region 1 with fail
 rw[<-hV,<-hb0];clear hV hb0;go_wp2_with (go_at_call 59;refine aK.out.mono ?_;rintro e w1 ⟨rfl,hf1⟩;obtain⟨d2,QK⟩:=Hc2.out w1 hf1;have Hf1:=hd hf1;clear hf1)
 go_ret
 exact⟨rfl,(lK.out.trans Hf1.out (fun _ x=>x.elim)).alloc _⟩
end Go.Proofs.YtkjfpdfkcfgfkaaGreat
namespace Go.Proofs.YtkjfpdfkcfgfkaaGreat
open Go.RowKit Go.Shelf
structure X9 (w:World) (p Rb:Nat) (a:Act) (W:World):Prop where
 ptr:a.tmps.getD p undef= .pointer (some ⟨Rb,0,none⟩)
 cell:W.cell? ⟨Rb,0,none⟩=some (.bool true)
 mark:∃D,a.defers=[mark D]/\W.heap[D]? = some (.deferred (some []))/\w.heap.size<=D
 nw:Nw w W
def adZ (w:World) (p Rb:Nat):Exit->Act->World->Prop
 | .normal,a,W | .ret,a,W=>X9 w p Rb a W
 | _,_,_=>False
theorem JM {α:Type} {done all:List α} {x d:α} (h:(done++[x]) <+: all):done.length<all.length/\all.getD done.length d=x/\x∈all:=by
 obtain⟨r,rfl⟩:=h;refine⟨by simp,?_,by simp⟩
 simp[List.getD]
end Go.Proofs.YtkjfpdfkcfgfkaaGreat
namespace Go.Proofs.YtkjfpdfkcfgfkaaGreat
open Go.RowKit Go.Shelf
set_option maxRecDepth 1000000 in
theorem CP (X L:Nat) (w:World) (hcb:w.cell? ⟨X,12,none⟩=some (.bool true)) (uT:X<w.heap.size):
  Calls Tryz.prog 77 #[.pointer (some ⟨X,0,none⟩),.func (.yield L) #[] #[]] w fun e w'=>(∃v,e= .returned v)/\Nw w w':=by
 obtain⟨V,hV⟩:∃V,V=w.alloc (.cells #[.pointer (some ⟨X,0,none⟩)] 35):=⟨_,rfl⟩;have fA:Nw w V:=by rw[hV];exact(Fr.refl _ w).alloc _
 have hb:af V w.heap.size #[.pointer (some ⟨X,0,none⟩)] 35:=by rw[hV];exact af.new _ _ _
 have c0:V.cell? ⟨w.heap.size,0,none⟩=some (.pointer (some ⟨X,0,none⟩)):=hb.cell 0
 have c1:V.cell? ⟨X,12,none⟩=some (.bool true):=(fA.cell uT (fun x=>x)).trans hcb
 have hbl:=hb.lt;have afF:=Nat.lt_of_lt_of_le uT fA.size;have lK:=hd fA;clear hb fA hcb uT;go_enter Tryz.func77,Tryz.ntmps77
 go_upto_region 1 with fail
 rw[<-hV];clear hV;go_wp2_with fail
 exact bodyPost_ret (v:=.tuple #[]) (results_none rfl _ _ _) rfl ⟨⟨_,rfl⟩,lK.out⟩
theorem xK {n X:Nat} {g:Operand} {ps:Array Tmp} {assign body:Code} {Q:Exit->Act->World->Prop} {a:Act} {w:World}
  (hg:a.eval g= .func (.func 77) #[.pointer (some ⟨X,0,none⟩)] #[]) (hcb:w.cell? ⟨X,12,none⟩=some (.bool true)) (uT:X<w.heap.size)
  (hdone:∀(D:Nat) (W:World),w.heap.size<=D->Nw w W->W.heap[D]? = some (.deferred (some []))->Q .normal {a with defers:=mark D::a.defers} W):
  (Code.rangeFunc g ps assign body).wp Tryz.prog Q a w:=by
 refine(wpIn_wide (n:=n)).1 ?_
 refine wpIn_rangeFunc ?_
 intro fn hfn;obtain⟨rec,hrec⟩:∃rec:LoopState->Option Code->Loop,rec=fun st pe=>{state:=st,pending:=pe,fn,tmps:=a.tmps,params:=ps,assign,body,defers:=w.heap.size}:=⟨_,rfl⟩
 obtain⟨W1,hW1⟩:∃W1,(w.alloc (.deferred (some []))).alloc (.loop (rec .ready none))=W1:=⟨_,rfl⟩;have hf1:Nw w W1:=by rw[<-hW1];exact((Fr.refl _ w).alloc _).alloc _
 have hs1:W1.heap.size=w.heap.size+2:=by rw[<-hW1];simp
 have hL1:W1.heap[w.heap.size+1]? = some (.loop (rec .ready none)):=by
  rw[<-hW1];have:=heap_alloc_new (w.alloc (.deferred (some []))) (.loop (rec .ready none))
  simpa using this
 have hK1:W1.heap[w.heap.size]? = some (.deferred (some [])):=by
  rw[<-hW1];exact(Below.heap_alloc _ _ _ (by simp)).trans (heap_alloc_new w _)
 refine⟨w.heap.size+1,[mark w.heap.size],W1,{target:=.fn (.func 77) #[],args:=#[.pointer (some ⟨X,0,none⟩),.func (.yield (w.heap.size+1)) #[] #[]]},W1,77,
  #[.pointer (some ⟨X,0,none⟩),.func (.yield (w.heap.size+1)) #[] #[]],W1,?_,?_,?_,?_,(fun h=>by cases h),?_⟩
 ·rw[<-hW1,hrec];exact run_enterLoop_outer _ _ _ _ _
 ·simp only[resolve,hg];simp[go_sem]
 ·intro f' _;trivial
 ·simp[invoke,go_sem]
 ·refine(callsIn_wide.2 (CP X (w.heap.size+1) W1 ((hf1.cell uT (fun x=>x)).trans hcb) (Nat.lt_of_lt_of_le uT hf1.size))).mono ?_
  rintro e W2 ⟨⟨v,rfl⟩,hf2⟩
  have hl2:W2.heap[w.heap.size+1]? = some (.loop (rec .ready none)):=(hf2.block _ (by omega) (fun x=>x)).trans hL1
  have hk2:W2.heap[w.heap.size]? = some (.deferred (some [])):=(hf2.block _ (by omega) (fun x=>x)).trans hK1
  have hp:Fr (fun k=>k=w.heap.size+1) W2 (W2.putObj (w.heap.size+1) (.loop {rec .ready none with state:=.exhausted})):=(Fr.refl (fun k=>k=w.heap.size+1) W2).grown (grownBy_putObj' W2 _ _) (fun k hk=>by cases hk;exact .inl rfl)
  refine⟨none,_,?_,hdone w.heap.size _ (Nat.le_refl _) ((hf1.trans hf2 (fun _ x=>x.elim)).trans hp (fun i h=>.inr (by omega))) ((World.putObj_heap_other (by omega)).trans hk2)⟩
  have:=run_endLoop (P:=Tryz.prog) hl2 (by rw[hrec];simp)
  rw[hrec] at this ⊢;exact this
structure JO (w:World) (R:Value->World->Prop) (fn:Func) (a:Act) (W:World):Prop where
 ex:∃Ds:List Nat,a.defers=Ds.map mark/\Ds.Nodup/\(∀D∈Ds,W.heap[D]? = some (.deferred (some [])))/\∀W',Fr (fun k=>k∈Ds) W W'->∃v,(results fn a.tmps).run Tryz.prog W'= .ok v W'/\R v W'
def Q9 (w:World) (R:Value->World->Prop) (fn:Func):Exit->Act->World->Prop
 | .normal,a,W | .ret,a,W=>JO w R fn a W
 | _,_,_=>False
theorem CQ {fn:Func} {tmps:Array Value} {R:Value->World->Prop}:∀(Ds:List Nat) (W:World),Ds.Nodup->(∀D∈Ds,W.heap[D]? = some (.deferred (some [])))->(∀W',Fr (fun k=>k∈Ds) W W'->∃v,(results fn tmps).run Tryz.prog W'= .ok v W'/\R v W')->LeavesInM Fence.wide 9 Tryz.prog fn tmps (fun e w'=>∃v,e= .returned v/\R v w') (Ds.map mark) .returning W
 | [],W,_,_,h=>by
  obtain⟨v,h1,h2⟩:=h W (Fr.refl _ _);exact⟨_,h1,_,rfl,h2⟩
 | D::Ds,W,hn,hk,h=>by
  have hK:=hk D (List.mem_cons_self ..);have YV:Fr (fun k=>k=D) W (W.putObj D (.deferred none)):=(Fr.refl (fun k=>k=D) W).grown (grownBy_putObj' W D _) (fun k hk=>by cases hk;exact .inl rfl)
  obtain⟨hn1,hn2⟩:=List.nodup_cons.1 hn;have ih:=CQ (fn:=fn) (tmps:=tmps) (R:=R) Ds (W.putObj D (.deferred none)) hn2 (fun E hE=>(YV.block E (lt_of_block (hk E (List.mem_cons_of_mem _ hE))) (fun e=>hn1 (by rw[<-e];exact hE))).trans (hk E (List.mem_cons_of_mem _ hE))) (fun W' f=>h W' ((YV.mono (fun i hi=>.inl (by rw[hi];exact List.mem_cons_self ..))).trans f (fun i hi=>.inl (List.mem_cons_of_mem _ hi))))
  exact⟨by simp,.inl ⟨_,_,rfl,run_takeDeferred hK,ih⟩⟩
theorem xM {f:FuncId} {fn:Func} {c:Code} {args:Array Value} {w:World} {R:Value->World->Prop} (hf:Tryz.prog.funcs[f]? = some fn) (hb:fn.body=some c)
  (h:c.wp Tryz.prog (Q9 w R fn) {tmps:=args++Array.replicate (fn.ntmps-args.size) undef,defers:=[]} w):Calls Tryz.prog f args w fun e w'=>∃v,e= .returned v/\R v w':=by
 have key:∀(a:Act) (W:World),JO w R fn a W->LeavesInM Fence.wide 9 Tryz.prog fn a.tmps (fun e w'=>∃v,e= .returned v/\R v w') a.defers .returning W:=fun a W hm=>by
  obtain⟨Ds,hD,hn,hk,hr⟩:=hm.ex;rw[hD];exact CQ Ds W hn hk hr
 refine(callsIn_wide (n:=9)).1 ?_
 refine callsIn_of_wp_marks hf hb trivial (wpIn_wide.2 (Code.wp_mono (fun e a W hq=>?_) h)) rfl
 cases e with
 | normal=>exact key a W hq
 | ret=>exact key a W hq
 | _=>exact False.elim hq
end Go.Proofs.YtkjfpdfkcfgfkaaGreat
namespace Go.Proofs.YtkjfpdfkcfgfkaaGreat
open Go.RowKit Go.Shelf
structure Rf (W w w':World) (lo B:Nat) (L L':LW) (d d':Sd) (n:Nat):Prop where
 bs:BS W w' lo B L' d'
 fr:Fr (fun k=>L.own B k\/k=d.D) w w'
 nS:∀k,L'.own B k->L.own B k\/w.heap.size<=k
 same:∃lt,d'={d with lt:=lt}/\(lt=d.lt\/lt= .func (.func 77) #[.pointer (some ⟨d.X,0,none⟩)] #[])
 ss:L'.ss=L.ss
 four:L'.nums.length % 4=L.nums.length % 4
 cost:JB L L' n
theorem Rf.nw {W w w':World} {lo B:Nat} {L:LW} {d:Sd} (n:Nat) (h:BS W w lo B L d) (f:Nw w w'):Rf W w w' lo B L L d d n:=⟨h.nw f,f.mono (fun _ x=>x.elim),fun _ h=>.inl h,⟨d.lt,rfl,.inl rfl⟩,rfl,rfl,by omega,by omega,by omega⟩
theorem Rf.set {W w w1:World} {lo B rb:Nat} {L L':LW} {d d':Sd} {n:Nat} {cur:Array Value} {V:World} (hf:Nw w V) (hrb:w.heap.size<=rb) (hrV:rb<V.heap.size) (h0:LS W w lo B L d) (hb:af w1 rb cur 4) (x:Value) (h:Rf W V w1 lo B L L' d d' n):Rf W w (w1.setCell ⟨rb,0,none⟩ x) lo B L L' d d' n:=by
 have hfs:Fr (fun k=>k=rb) w1 (w1.setCell ⟨rb,0,none⟩ x):=(Fr.refl (fun k=>k=rb) w1).setCell _ _ (.inl rfl)
 have Qh:=h0.env.le;have hlb:=h0.env.base;have hsz:=hf.size;obtain⟨lt,hd',hlt⟩:=h.same;have hL1:¬L'.own B rb:=fun ho=>by
  rcases h.nS rb ho with h2 | h2
  ·have:=h0.law.lt rb h2
   omega
  ·omega
 have hd1:¬d'.own rb:=fun ho=>by
  have:d.own rb:=by rw[hd'] at ho;exact ho
  have:=h0.side.lt this
  omega
 refine⟨⟨⟨⟨hlb,h.bs.ls.env.nw.trans hfs (fun i hi=>.inr (by omega)),Nat.le_trans h.bs.ls.env.le hfs.size⟩,h.bs.ls.law.fr hfs (fun k hk e=>hL1 (by rw[<-e];exact hk)),h.bs.ls.side.fr hfs (fun k hk e=>hd1 (by rw[<-e];exact hk)) (Only.one hb) (by decide),h.bs.ls.apart⟩,h.bs.bz⟩,((hf.mono (fun _ x=>x.elim)).trans h.fr (fun i hi=>.inl hi)).trans hfs (fun i hi=>.inr (by omega)),fun k hk=>?_,h.same,h.ss,h.four,h.cost⟩
 rcases h.nS k hk with h2 | h2
 ·exact .inl h2
 ·exact .inr (by omega)
theorem Rf.blk {W w V w1:World} {lo B rb:Nat} {L L':LW} {d d':Sd} {n:Nat} {cur:Array Value} (hrb:w.heap.size<=rb) (h0:LS W w lo B L d) (hb:af V rb cur 4) (h:Rf W V w1 lo B L L' d d' n):af w1 rb cur 4:=hb.fr h.fr (fun ho=>by
 rcases ho with ho | ho
 ·have:=h0.law.lt rb ho
  omega
 ·have:=h0.side.blk.lt
  omega)
def VN (W w:World) (lo B:Nat) (L:LW) (d:Sd) (n:Nat) (e:Ending) (w':World):Prop:=e= .returned (.bool true)/\∃L' d',Rf W w w' lo B L L' d d' n
theorem BS.late {W w:World} {lo B:Nat} {L:LW} {d:Sd} (h:BS W w lo B L d) (x:Value):BS W (w.setCell ⟨d.D,4,none⟩ x) lo B L {d with lt:=x}:=by
 have hfs:Fr (fun k=>k=d.D) w (w.setCell ⟨d.D,4,none⟩ x):=(Fr.refl (fun k=>k=d.D) w).setCell _ _ (.inl rfl)
 have hl:=h.ls.side.Rt;have hbs:=h.ls.env.base;have hp:=h.ls.side.pair;have hDs:¬d.s.own d.X d.D:=fun ho=>by
  obtain⟨cur,e,hb,he⟩:=hp.at_.mem.ty ho;rw[(hb.inj h.ls.side.blk).2] at he;exact absurd he (by decide)
 have hDr:∀k,d.R.own d.Y k->k≠d.D:=fun k hk e=>by
  rcases hp.ref.ty hk with h1 | ⟨cur,e',hb,he⟩
  ·obtain⟨cur,hb,_⟩:=hp.ref.dU.sz.blk h1;rw[e] at hb;exact absurd (hb.inj h.ls.side.blk).2 (by decide)
  ·rw[e] at hb;rw[(hb.inj h.ls.side.blk).2] at he;exact absurd he (by decide)
 refine⟨⟨⟨hbs,h.ls.env.nw.trans hfs (fun i hi=>.inr (by omega)),Nat.le_trans h.ls.env.le hfs.size⟩,h.ls.law.fr hfs (fun k hk e=>h.ls.apart k hk (.inl e)),⟨?_,⟨hp.at_.fr hfs (fun k hk e=>hDs (by rw[<-e];exact hk)) (Only.one h.ls.side.blk) (by decide),hp.ref.fr hfs hDr,hp.busy,hp.now,hp.tabs,hp.ku,hp.UE,hp.xlo⟩,hl⟩,h.ls.apart⟩,h.bz⟩
 have:=h.ls.side.blk.set 4 x
 simpa[Sd.cells] using this
set_option maxRecDepth 1000000 in
theorem Gn (W:World) (lo B:Nat) (L:LW) (d:Sd) (a b:Int) (vo:Option Addr) (ak:Nat) (ro:Option Addr) (au:Nat) (vars:List Int) (rows:List (List Int)) (nt:Bool) (way:Int) (which:Bool) (fv mv:Value) (w:World) (h:BS W w lo B L d) (WG:d.sq= .func (.func 77) #[.pointer (some ⟨d.X,0,none⟩)] #[]):
  Calls Tryz.prog 35 #[.pointer (some ⟨B,0,none⟩),.pointer (some ⟨d.D,0,none⟩),.agg #[.int .i64 9,.int .i64 a,.int .i64 b,.slice vo vars.length ak,.slice ro rows.length au,.bool nt,.int .i64 way,.bool which,fv,mv]] w (VN W w lo B L d rows.length):=by
 refine(xM (R:=fun v w'=>v= .bool true/\∃L' d',Rf W w w' lo B L L' d d' rows.length) Tryz.func35 rfl ?_).mono (fun e w' ⟨v,he,hv,hp⟩=>⟨by rw[he,hv],hp⟩)
 simp only[Tryz.ntmps35,List.size_toArray,List.length_cons,List.length_nil,Nat.reduceAdd,Nat.reduceSub,Array.replicate_succ,Array.replicate_zero,List.push_toArray,List.append_toArray,List.nil_append,List.cons_append];obtain⟨b0,hb0⟩:∃b0,b0=w.heap.size:=⟨_,rfl⟩;obtain⟨rb,hrb⟩:∃rb,rb=w.heap.size+1:=⟨_,rfl⟩;obtain⟨V,hV⟩:∃V,V=(w.alloc (.cells #[.int .i64 9,.int .i64 a,.int .i64 b,.slice vo vars.length ak,.slice ro rows.length au,.bool nt,.int .i64 way,.bool which,fv,mv] 54)).alloc (.cells #[.bool false] 4):=⟨_,rfl⟩;have hP:Gg w V b0 rb ⟨9,a,b,vo,ak,ro,au,vars,rows,nt,way,which,fv,mv⟩:=by rw[hV,hb0,hrb];exact Gg.new w ⟨9,a,b,vo,ak,ro,au,vars,rows,nt,way,which,fv,mv⟩
 have SE:=h.nw hP.nw;have c0:V.cell? ⟨b0,0,none⟩=some (.int .i64 9):=hP.k0.cell 0
 have hbl:=hP.k0.lt;obtain⟨x0,uT,d0,d2,hDl⟩:=SE.cells;have hDf:=SE.ls.side.blk.free 4;have hD4:V.cell? ⟨d.D,4,none⟩=some d.lt:=SE.ls.side.blk.cell 4
 have aK:=hd (o8 d.X V);have aaT:∀w':World,(binOp .eql 50 (.func (.func 77) #[.pointer (some ⟨d.X,0,none⟩)] #[]) .nilFunc).run Tryz.prog w'= .ok (.bool false) w':=fun w'=>by kernel_rfl
 have HP:=hd hP;have H:=hd h;have HV:=hd SE;have Hsq:=hd WG;have hst:=vF (w:=V) (a:=⟨d.D,4,none⟩) (.func 77) #[.pointer (some ⟨d.X,0,none⟩)] #[] hD4 hDf;have HB2:=hd (SE.late (.func (.func 77) #[.pointer (some ⟨d.X,0,none⟩)] #[]));clear h hP SE WG;go_upto_region 1 with fail
 rw[<-hV,<-hrb,<-hb0];clear hV hb0 hrb;go_wp2_with (go_at_call 50;refine aK.out.mono ?_;rintro e w1 ⟨rfl,rfl⟩)
 obtain⟨w2,hw2⟩:∃w2,w1.setCell ⟨d.D,4,none⟩ (.func (.func 77) #[.pointer (some ⟨d.X,0,none⟩)] #[])=w2:=⟨_,rfl⟩;rw[hw2] at HB2 ⊢;have hf2:Fr (fun k=>k=d.D) w1 w2:=by rw[<-hw2];exact(Fr.refl (fun k=>k=d.D) w1).setCell _ _ (.inl rfl)
 have HF2:=hd hf2;obtain⟨y0,yXl,_,_,_⟩:=HB2.out.cells;have aba:rb≠d.D:=fun e=>by
  have:=H.out.ls.side.blk.lt
  have:=HP.out.lo
  omega
 have ahB:=hd aba;have Hb2:=hd (HP.out.k1.fr hf2 aba);clear hw2 hst hD4 hDf d0 d2 c0 x0 uT hf2 aba aK;refine xK (n:=9) rfl y0 yXl (fun D1 w3 hD1 hf3 hk3=>?_)
 have HB3:=hd (HB2.out.nw hf3);have HF3:=hd hf3;have HK3:=hd hk3;have HD1:=hd hD1;have s3:w3.cell? ⟨d.D,3,none⟩=some (.func (.func 77) #[.pointer (some ⟨d.X,0,none⟩)] #[]):=(HB3.out.ls.side.blk.cell 3).trans (by rw[<-Hsq.out];rfl)
 have agl:=HB3.out.ls.side.blk.lt;clear hf3 hk3 hD1 y0 yXl;go_wp2_with fail
 obtain⟨y0,yXl,_,_,_⟩:=HB3.out.cells;refine xK (n:=9) rfl y0 yXl (fun D2 w4 hD2 hf4 hk4=>?_)
 have hb4:=((Hb2.out.nw HF3.out).nw hf4);have ahC:=hb4.free 0;have ahD:w4.cell? ⟨rb,0,none⟩=some (.bool false):=hb4.cell 0
 have ahE:=hb4.lt;have HB4:=hd (HB3.out.nw hf4);have HF4:=hd hf4;have HK4:=hd hk4;have HD2:=hd hD2;have Hb4:=hd hb4;clear hf4 hk4 hD2 y0 yXl s3 agl hb4;go_wp2_with fail
 have Ya:w4.heap[D1]? = some (.deferred (some [])):=(HF4.out.block _ (lt_of_block HK3.out) (fun x=>x)).trans HK3.out
 have Ub:D2≠D1:=fun e=>by
  have:=lt_of_block HK3.out
  have:=HD2.out
  omega
 have Yb:∀D,w4.heap[D]? = some (.deferred (some []))->D≠rb:=fun D hD e=>by
  rw[e] at hD;have hb:w4.heap[rb]? = some (.cells #[.bool false] 4 (0,0)):=Hb4.out
  rw[hb] at hD;cases hD
 have hset:∀D,D≠rb->(w4.setCell ⟨rb,0,none⟩ (.bool true)).heap[D]? = w4.heap[D]?:=fun D hD=>by
  have hfs:Fr (fun k=>k=rb) w4 (w4.setCell ⟨rb,0,none⟩ (.bool true)):=(Fr.refl (fun k=>k=rb) w4).setCell _ _ (.inl rfl)
  by_cases hl:D<w4.heap.size
  ·exact hfs.block D hl hD
  ·rw[Array.getElem?_eq_none (by simp;omega),Array.getElem?_eq_none (by omega)]
 refine⟨[D2,D1],rfl,by simp[Ub],fun D hD=>?_,fun W' hW'=>?_⟩
 ·simp only[List.mem_cons,List.not_mem_nil,or_false] at hD;rcases hD with rfl | rfl
  ·exact(hset _ (Yb _ HK4.out)).trans HK4.out
  ·exact(hset _ (Yb _ Ya)).trans Ya
 ·have hfs:Fr (fun k=>k=rb) w4 (w4.setCell ⟨rb,0,none⟩ (.bool true)):=(Fr.refl (fun k=>k=rb) w4).setCell _ _ (.inl rfl)
  have hS:Fr (fun k=>k=rb\/k=D2\/k=D1) w4 W':=(hfs.mono (fun k hk=>.inl (.inl hk))).trans hW' (fun k hk=>.inl (by
   simp only[List.mem_cons,List.not_mem_nil,or_false] at hk;exact .inr hk))
  have ahF:=HP.out.lo;have hs1:=HP.out.nw.size;have hs2:=HF2.out.size;have hs3:=HF3.out.size;have ahG:=HD1.out;have ahH:=HD2.out;have Yc:∀k,(k=rb\/k=D2\/k=D1)->w.heap.size<=k:=fun k hk=>by
   rcases hk with hk | hk | hk <;> omega
  have hcell:W'.cell? ⟨rb,0,none⟩=some (.bool true):=by
   have hb:af (w4.setCell ⟨rb,0,none⟩ (.bool true)) rb #[.bool true] 4:=Hb4.out.set 0 (.bool true);refine(hb.fr hW' (fun hk=>?_)).cell 0
   simp only[List.mem_cons,List.not_mem_nil,or_false] at hk;rcases hk with hk | hk
   ·exact Yb _ HK4.out hk.symm
   ·exact Yb _ Ya hk.symm
  refine⟨.bool true,lS (b:=rb) (off:=0) rfl rfl (by kernel_rfl) hcell,rfl,L,{d with lt:=.func (.func 77) #[.pointer (some ⟨d.X,0,none⟩)] #[]},?_⟩
  have h4:=HB4.out;have hlb:=H.out.ls.env.base;have hle:=H.out.ls.env.le;have hon:Only w4 (fun k=>k=rb\/k=D2\/k=D1) [4]:=fun k cur e hk hb=>by
   rcases hk with rfl | rfl | rfl
   ·rw[(hb.inj Hb4.out).2];decide
   ·have hb':w4.heap[k]? = some (.cells cur e (0,0)):=hb
    rw[HK4.out] at hb';cases hb'
   ·have hb':w4.heap[k]? = some (.cells cur e (0,0)):=hb
    rw[Ya] at hb';cases hb'
  refine⟨⟨⟨⟨hlb,h4.ls.env.nw.trans hS (fun k hk=>.inr (by have:=Yc k hk;omega)),Nat.le_trans h4.ls.env.le hS.size⟩,h4.ls.law.fr hS (fun k hk hs=>?_),h4.ls.side.fr hS (fun k hk hs=>?_) hon (by decide),h4.ls.apart⟩,h4.bz⟩,?_,fun k hk=>.inl hk,⟨_,rfl,.inr rfl⟩,rfl,rfl,by omega,by omega,by omega⟩
  ·have:=H.out.ls.law.lt k hk
   have:=Yc k hs
   omega
  ·have:=H.out.ls.side.lt (show d.own k from hk)
   have:=Yc k hs
   omega
  ·refine((((HP.out.nw.mono (fun _ x=>x.elim)).trans HF2.out (fun k hk=>.inl (.inr hk))).trans HF3.out (fun _ x=>x.elim)).trans HF4.out (fun _ x=>x.elim)).trans hS (fun k hk=>.inr (Yc k hk))
theorem Nr (W:World) (lo B:Nat) (L:LW) (d:Sd) (o:kU) (w:World) (h:BS W w lo B L d) (WG:d.sq= .func (.func 77) #[.pointer (some ⟨d.X,0,none⟩)] #[]) (ho:Gf W o) (hr:zF L):
  Calls Tryz.prog 35 #[.pointer (some ⟨B,0,none⟩),.pointer (some ⟨d.D,0,none⟩),.agg o.cells] w (VN W w lo B L d o.rows.length):=by
 by_cases hk:1<=o.kind/\o.kind<=8
 ·refine(JC B d.D o w (fun V w1=>∃L' d',Rf W V w1 lo B L L' d d' o.rows.length) hk.1 hk.2 (fun V hf=>?_) (fun V w1 rb cur hf ⟨L',d',h1⟩ hrb hb=>h1.blk hrb h.ls hb)).mono ?_
  ·have hV:=h.nw hf;have hch:∀{e:Ending} {w1:World},(e= .returned (.bool true)/\Nw V w1)->e= .returned (.bool true)/\∃L' d',Rf W V w1 lo B L L' d d' o.rows.length:=fun ⟨h1,h2⟩=>⟨h1,L,d,Rf.nw _ hV h2⟩
   by_cases k1:o.kind=1
   ·rw[vI,if_pos k1];refine(EF W lo B L d o.vo o.ro o.ak o.au o.vars o.rows o.nt o.way V hV.ls ho.vs ho.rs ho.vl ho.rl ho.rr hr.t hr.r).mono ?_
    rintro e w1 ⟨rfl,L',d',h1,h2,h3,h4,h5,h6⟩
    exact⟨rfl,L',d',⟨h1,by rw[(h6 h.bz).1];exact h.bz⟩,(h6 h.bz).2.mono (fun k hk=>.inl (.inl hk)),h2.nS,⟨d.lt,(h6 h.bz).1,.inl rfl⟩,h2.ss,h2.four,by rw[h3];omega,by omega,by omega⟩
   rw[vI,if_neg k1];by_cases k4:o.kind=4
   ·rw[if_pos k4];exact(Gj W lo B L d o.a V hV).mono (fun e w1=>hch)
   rw[if_neg k4];by_cases k8:o.kind=8
   ·rw[if_pos k8];exact(JL W lo B L d o.a V hV).mono (fun e w1=>hch)
   rw[if_neg k8];have hc5:o.kind=2\/o.kind=3\/o.kind=5\/o.kind=6\/o.kind=7:=by omega
   rcases hc5 with k | k | k | k | k
   ·exact(Gl W lo B L d o V hV k).mono (fun e w1=>hch)
   ·exact(zT W lo B L d o V hV k).mono (fun e w1=>hch)
   ·exact(DF W lo B L d o V hV k).mono (fun e w1=>hch)
   ·exact(DD W lo B L d o V hV k).mono (fun e w1=>hch)
   ·exact(Gm W lo B L d o V hV k).mono (fun e w1=>hch)
  ·rintro e w' ⟨rfl,V,b0,rb,w1,hP,⟨L',d',h1⟩,hb,rfl⟩
   exact⟨rfl,L',d',h1.set hP.nw hP.lo hP.k1.lt h.ls hb _⟩
 ·by_cases k9:o.kind=9
  ·obtain⟨kind,a,b,vo,ak,ro,au,vars,rows,nt,way,which,fv,mv⟩:=o;dsimp only at k9
   subst k9;exact Gn W lo B L d a b vo ak ro au vars rows nt way which fv mv w h WG
  ·refine(JD B d.D o w (by omega)).mono ?_
   rintro e w' ⟨rfl,V,b0,rb,w1,hP,rfl,hb,rfl⟩
   exact⟨rfl,L,d,(Rf.nw _ (h.nw hP.nw) (Fr.refl _ _)).set hP.nw hP.lo hP.k1.lt h.ls hb _⟩
end Go.Proofs.YtkjfpdfkcfgfkaaGreat
namespace Go.Proofs.YtkjfpdfkcfgfkaaGreat
open Go.RowKit
theorem eX.Ro {S:Nat->Prop} {W w w':World} {lo:Nat} {d:Sd} (h:eX W w lo d) (f:Fr S w w') (hn:∀k,d.own k->¬S k) (ho:∀k cur,S k->¬af w k cur 151):eX W w' lo d:=by
 obtain⟨es,h1,h2⟩:=Only.YR ho;exact h.fr f hn h1 h2
theorem JP {e:TypeId} (h:e∈nR):e≠151:=fun he=>absurd (he▸h) (by decide)
def OO (B:Nat) (L:LW) (ds:List Sd) (i k:Nat):Prop:=L.own B k\/∃j,∃hj:j<ds.length,j≠i/\ds[j].own k
structure GS (W w:World) (lo B:Nat) (L:LW) (ds:List Sd) (i:Nat) (d:Sd):Prop where
 env:Env W w lo
 law:gZ w lo B L
 ss:L.ss=ds.map (fun d=>Value.pointer (some ⟨d.D,0,none⟩))
 get:∃hi:i<ds.length,ds[i]=d
 sides:∀j (hj:j<ds.length),j≠i->eX W w lo ds[j]
 blk:af w d.D d.cells 52
 apart:∀d∈ds,∀k,L.own B k->¬d.own k
 xH:∀i j (hi:i<ds.length) (hj:j<ds.length),i≠j->∀k,ds[i].own k->¬ds[j].own k
 EH:∀d∈ds,d.lt= .nilFunc\/Clo d.lt d.X
theorem LJ.out {W w:World} {lo B:Nat} {L:LW} {ds:List Sd} {i:Nat} {d:Sd} (h:LJ W w lo B L ds) (hi:i<ds.length) (hd:ds[i]=d):GS W w lo B L ds i d:=
 ⟨h.env,h.law,h.ss,⟨hi,hd⟩,fun _ hj _=>h.sides _ (List.getElem_mem hj),(hd▸h.sides _ (List.getElem_mem hi)).blk,h.apart,h.xH,h.EH⟩
theorem GS.back {W w:World} {lo B:Nat} {L:LW} {ds:List Sd} {i:Nat} {d:Sd} (h:GS W w lo B L ds i d) (hp:Pair d.bz W w lo d.X d.Y d.zs d.s d.R) (hlo:lo<=d.D):LJ W w lo B L ds:=by
 refine⟨h.env,h.law,h.ss,fun e he=>?_,h.apart,h.xH,h.EH⟩
 obtain⟨j,hj,rfl⟩:=List.getElem_of_mem he;by_cases e:j=i
 ·subst e;obtain⟨_,hd⟩:=h.get;rw[hd];exact⟨h.blk,hp,hlo⟩
 ·exact h.sides j hj e
theorem GS.off {W w:World} {lo B:Nat} {L:LW} {ds:List Sd} {i:Nat} {d:Sd} (h:GS W w lo B L ds i d) {k:Nat} (hk:OO B L ds i k):¬d.own k:=by
 obtain⟨hi,rfl⟩:=h.get;rcases hk with hk | ⟨j,hj,hne,hk⟩
 ·exact h.apart _ (List.getElem_mem hi) k hk
 ·exact h.xH j i hj hi hne k hk
theorem GS.lt {W w:World} {lo B:Nat} {L:LW} {ds:List Sd} {i:Nat} {d:Sd} (h:GS W w lo B L ds i d) {k:Nat} (hk:OO B L ds i k):k<w.heap.size/\lo<=k/\∃cur e,af w k cur e/\e∈nR:=by
 rcases hk with hk | ⟨j,hj,hne,hk⟩
 ·exact⟨h.law.lt k hk,h.law.lo k hk,h.law.ty hk⟩
 ·exact⟨(h.sides j hj hne).lt hk,(h.sides j hj hne).lo hk,(h.sides j hj hne).ty hk⟩
theorem GS.fr {S:Nat->Prop} {W w w':World} {lo B:Nat} {L:LW} {ds:List Sd} {i:Nat} {d:Sd} (h:GS W w lo B L ds i d) (f:Fr S w w') (hn:∀k,S k->lo<=k/\¬OO B L ds i k/\k≠d.D) (ho:∀k cur,S k->¬af w k cur 151):GS W w' lo B L ds i d:=
 ⟨⟨h.env.base,h.env.nw.trans f (fun k hk=>.inr (Nat.le_trans h.env.base (hn k hk).1)),Nat.le_trans h.env.le f.size⟩,h.law.fr f (fun k hk hs=>(hn k hs).2.1 (.inl hk)),h.ss,h.get,
  fun j hj hne=>(h.sides j hj hne).Ro f (fun k hk hs=>(hn k hs).2.1 (.inr ⟨j,hj,hne,hk⟩)) ho,h.blk.fr f (fun hs=>(hn _ hs).2.2 rfl),h.apart,h.xH,h.EH⟩
structure Gp (W w:World) (lo:Nat) (d:Sd) (O0:Nat->Prop) (ba bk:Nat):Prop where
 ref:mF W w lo d.Y d.zs d.R
 busy:d.s.l.busy=d.bz
 now:kM d.zs.length d.R.now d.s.d
 tabs:d.s.bs=d.R.ts.map jO.tb
 ku:uF d.zs.length d.R.ls d.s.sk
 UE:∀k,d.R.az.ownBlock=some k->¬d.s.own d.X k
 xlo:∀k,d.s.own d.X k->lo<=k
 Rt:lo<=d.D
 off:∀k,d.own k->¬O0 k/\k<ba/\k<bk
 old:∀k,O0 k->k<ba/\k<bk
 rD:∀k,d.R.own d.Y k->k≠d.D/\k≠d.X
 sD:¬d.s.own d.X d.D
 blo:lo<=ba/\lo<=bk/\ba<w.heap.size/\bk<w.heap.size/\ba≠bk
structure GP (W w:World) (lo B i n:Nat) (d:Sd) (O0:Nat->Prop) (ba bk:Nat) (cn ct cr:Nat) (a:Nat) (C:Nat->Prop) (A:World) (L:LW) (ds:List Sd) (lt:Value):Prop where
 gs:GS W A lo B L ds i {d with lt:=lt}
 grow:∀k,OO B L ds i k->O0 k\/w.heap.size<=k
 c:∀k,C k↔OO B L ds i k\/k=d.D\/k=ba\/k=bk
 at_:af A ba #[.int .i64 (a:Int)] 3
 ok:af A bk #[.bool true] 4
 fr:Fr (fun k=>O0 k\/k=d.D\/k=ba\/k=bk\/k=d.X) w A
 len:ds.length=n
 free:∀j (hj:j<ds.length),j≠i->ds[j].bz=false
 cost:L.nums.length<=cn/\L.turned.length<=ct/\L.rows.length<=cr/\L.nums.length % 4=0
theorem Gp.pair {W w A:World} {lo ba bk:Nat} {d:Sd} {O0:Nat->Prop} (h:Gp W w lo d O0 ba bk) (f:Fr (fun k=>O0 k\/k=d.D\/k=ba\/k=bk\/k=d.X) w A) (hA:iM A d.X d.zs d.s):Pair d.bz W A lo d.X d.Y d.zs d.s d.R:=
 ⟨hA,h.ref.fr f (fun k hk hs=>by
  have h1:=h.off k (.inr (.inr hk));have h2:=h.rD k hk;rcases hs with hs | hs | hs | hs | hs
  ·exact h1.1 hs
  ·exact h2.1 hs
  ·omega
  ·omega
  ·exact h2.2 hs),h.busy,h.now,h.tabs,h.ku,h.UE,h.xlo⟩
theorem GP.lj {W w A:World} {lo B i n ba bk cn ct cr a:Nat} {d:Sd} {O0 C:Nat->Prop} {L:LW} {ds:List Sd} {lt:Value} (h:GP W w lo B i n d O0 ba bk cn ct cr a C A L ds lt) (hs:Gp W w lo d O0 ba bk) (hA:iM A d.X d.zs d.s):LJ W A lo B L ds:=
 h.gs.back (hs.pair h.fr hA) hs.Rt
theorem GP.st {S:Nat->Prop} {W w A A':World} {lo B i n ba bk cn ct cr a:Nat} {d:Sd} {O0 C:Nat->Prop} {L:LW} {ds:List Sd} {lt:Value} (h:GP W w lo B i n d O0 ba bk cn ct cr a C A L ds lt) (hs:Gp W w lo d O0 ba bk) (f:Fr S A A') (hS:∀k,S k->((w.heap.size<=k/\¬C k)\/k=d.X)/\∀cur,¬af A k cur 151):GP W w lo B i n d O0 ba bk cn ct cr a C A' L ds lt:=by
 have hX:∀k,S k->lo<=k/\¬OO B L ds i k/\k≠d.D/\k≠ba/\k≠bk:=fun k hk=>by
  have hb:=hs.blo;have hXo:d.own d.X:=.inr (.inl (.inl rfl));rcases(hS k hk).1 with ⟨h1,h2⟩ | h1
  ·refine⟨by omega,fun ho=>h2 ((h.c k).2 (.inl ho)),fun e=>h2 ((h.c k).2 (.inr (.inl e))),by omega,by omega⟩
  ·have h3:=hs.off _ hXo;rw[<-h1] at h3;refine⟨h1▸hs.xlo _ (.inl rfl),fun ho=>h.gs.off ho (by rw[h1];exact .inr (.inl (.inl rfl))),fun e=>hs.sD (.inl (by rw[<-e,h1])),by omega,by omega⟩
 exact⟨h.gs.fr f (fun k hk=>⟨(hX k hk).1,(hX k hk).2.1,(hX k hk).2.2.1⟩) (fun k cur hk=>(hS k hk).2 cur),h.grow,h.c,h.at_.fr f (fun hk=>(hX _ hk).2.2.2.1 rfl),h.ok.fr f (fun hk=>(hX _ hk).2.2.2.2 rfl),h.fr.trans f (fun k hk=>by
  rcases(hS k hk).1 with ⟨h1,h2⟩ | h1
  ·exact .inr h1
  ·exact .inl (.inr (.inr (.inr (.inr h1))))),h.len,h.free,h.cost⟩
theorem GP.cells {W w A:World} {lo B i n ba bk cn ct cr a:Nat} {d:Sd} {O0 C:Nat->Prop} {L:LW} {ds:List Sd} {lt:Value} (h:GP W w lo B i n d O0 ba bk cn ct cr a C A L ds lt) {k:Nat} (hk:C k):∃cur e,af A k cur e/\e≠151:=by
 rcases(h.c k).1 hk with h1 | h1 | h1 | h1
 ·obtain⟨_,_,cur,e,hb,he⟩:=h.gs.lt h1;exact⟨cur,e,hb,JP he⟩
 ·subst h1;exact⟨_,_,h.gs.blk,by decide⟩
 ·subst h1;exact⟨_,_,h.at_,by decide⟩
 ·subst h1;exact⟨_,_,h.ok,by decide⟩
def GI (W w:World) (lo B i n:Nat) (d:Sd) (O0:Nat->Prop) (ba bk:Nat) (cn ct cr a:Nat) (C:Nat->Prop) (A:World):Prop:=∃L ds lt,GP W w lo B i n d O0 ba bk cn ct cr a C A L ds lt
theorem GI.inv {W w:World} {lo B i n ba bk:Nat} {d:Sd} {O0:Nat->Prop} (hs:Gp W w lo d O0 ba bk) (cn ct cr a:List (List Nat)->Nat) (R:List (List Nat)->Prop):Cc d.X w.heap.size (fun done C A=>GI W w lo B i n d O0 ba bk (cn done) (ct done) (cr done) (a done) C A/\R done):=
 ⟨fun _ _ _ _ _ ⟨⟨L,ds,lt,h⟩,hr⟩ f hS=>⟨⟨L,ds,lt,h.st hs f hS⟩,hr⟩,fun _ _ _ _ ⟨⟨_,_,_,h⟩,_⟩ hk=>h.cells hk⟩
theorem LJ.fr {S:Nat->Prop} {W w w':World} {lo B:Nat} {L:LW} {ds:List Sd} (h:LJ W w lo B L ds) (f:Fr S w w') (hS:∀k,S k->lo<=k/\¬L.own B k/\∀d∈ds,¬d.own k) (ho:∀k cur,S k->¬af w k cur 151):LJ W w' lo B L ds:=
 ⟨⟨h.env.base,h.env.nw.trans f (fun k hk=>.inr (Nat.le_trans h.env.base (hS k hk).1)),Nat.le_trans h.env.le f.size⟩,h.law.fr f (fun k hk hs=>(hS k hs).2.1 hk),h.ss,fun d hd=>(h.sides d hd).Ro f (fun k hk hs=>(hS k hs).2.2 d hd hk) ho,h.apart,h.xH,h.EH⟩
theorem LJ.kept {W w w':World} {lo B g:Nat} {L L':LW} {ds:List Sd} {cur:Array Value} (h:LJ W w lo B L ds) (hg:∀d∈ds,¬d.own g) (hgl:lo<=g) (hgb:af w g cur 3) (hL:gZ w' lo B L') (f:Fr (fun k=>k=B\/L.nv.ownBlock=some k\/k=g) w w') (hgr:∀k,L'.own B k->L.own B k\/k=g\/w.heap.size<=k) (hss:L'.ss=L.ss):LJ W w' lo B L' ds:=by
 have hin:∀k,(k=B\/L.nv.ownBlock=some k\/k=g)->lo<=k/\(L.own B k\/k=g):=fun k hk=>by
  rcases hk with hk | hk | hk
  ·exact⟨h.law.lo k (.inl hk),.inl (.inl hk)⟩
  ·exact⟨h.law.lo k (.inr (.inr (.inl hk))),.inl (.inr (.inr (.inl hk)))⟩
  ·exact⟨by omega,.inr hk⟩
 refine⟨⟨h.env.base,h.env.nw.trans f (fun k hk=>.inr (Nat.le_trans h.env.base (hin k hk).1)),Nat.le_trans h.env.le f.size⟩,hL,hss.trans h.ss,fun d hd=>(h.sides d hd).Ro f (fun k hk hs=>?_) (fun k cur' hs hb=>?_),fun d hd k hk hdk=>?_,h.xH,h.EH⟩
 ·rcases(hin k hs).2 with h1 | h1
  ·exact h.apart d hd k h1 hk
  ·exact hg d hd (by rw[<-h1];exact hk)
 ·rcases(hin k hs).2 with h1 | h1
  ·obtain⟨c,e,hb',he⟩:=h.law.ty h1;exact JP he (hb'.inj hb).2
  ·subst h1;exact absurd (hb.inj hgb).2 (by decide)
 ·rcases hgr k hk with h1 | h1 | h1
  ·exact h.apart d hd k h1 hdk
  ·exact hg d hd (by rw[<-h1];exact hdk)
  ·have:=(h.sides d hd).lt hdk
   omega
structure PlG (W w w':World) (lo B i:Nat) (L L':LW) (ds ds':List Sd) (d:Sd) (lt:Value) (n:Nat):Prop where
 lj:LJ W w' lo B L' ds'
 len:ds'.length=ds.length
 get:∃hi:i<ds'.length,ds'[i]={d with lt:=lt}
 free:∀j (hj:j<ds'.length),j≠i->ds'[j].bz=false
 fr:Fr (fun k=>OO B L ds i k\/k=d.D) w w'
 grow:∀k,OO B L' ds' i k->OO B L ds i k\/w.heap.size<=k
 cost:JB L L' n
 four:L'.nums.length % 4=L.nums.length % 4
theorem VO (W:World) (lo B i:Nat) (L:LW) (ds:List Sd) (d:Sd) (o:kU) (w:World) (h:LJ W w lo B L ds) (hi:i<ds.length) (hd:ds[i]=d) (hbz:d.bz=true) (WG:Clo d.sq d.X) (hfree:∀j (hj:j<ds.length),j≠i->ds[j].bz=false) (ix:Nat) (hx:ix<ds.length) (ho:Gf W o) (hr:zF L):
  Calls Tryz.prog 35 #[.pointer (some ⟨B,0,none⟩),.pointer (some ⟨ds[ix].D,0,none⟩),.agg o.cells] w fun e w'=>e= .returned (.bool true)/\∃L' ds' lt,PlG W w w' lo B i L L' ds ds' d lt o.rows.length:=by
 by_cases e:ix=i
 ·subst e;rw[hd];refine(Nr W lo B L d o w ⟨hd▸h.one ix hi,hbz⟩ WG ho hr).mono ?_
  rintro e w' ⟨rfl,L',d',hp⟩
  obtain⟨lt,rfl,hlt⟩:=hp.same;have hl1:lt= .nilFunc\/Clo lt d.X:=by
   rcases hlt with rfl | rfl
   ·exact hd▸h.EH _ (List.getElem_mem hi)
   ·exact .inr rfl
  have hnj:∀k,OO B L' (ds.set ix {d with lt:=lt}) ix k->OO B L ds ix k\/w.heap.size<=k:=fun k hk=>by
   rcases hk with hk | ⟨j,hj,hne,hk⟩
   ·exact(hp.nS k hk).imp .inl id
   ·rw[List.length_set] at hj;rw[List.getElem_set_ne (fun e=>hne e.symm)] at hk
    exact .inl (.inr ⟨j,hj,hne,hk⟩)
  refine⟨rfl,L',ds.set ix {d with lt:=lt},lt,h.put ix hi hp.bs.ls hp.fr (fun k hk=>by
   rcases hk with hk | hk
   ·exact .inl hk
   ·exact .inr (hd▸.inl hk)) hp.nS (fun k hk=>.inl (hd▸hk)) hp.ss (by rw[hd]) hl1,by rw[List.length_set],⟨by rw[List.length_set];exact hi,by rw[List.getElem_set_self]⟩,fun j hj hne=>?_,hp.fr.mono (fun k hk=>.inl (hk.imp .inl id)),hnj,hp.cost,hp.four⟩
  rw[List.getElem_set_ne (fun e=>hne e.symm)]
  exact hfree j (by rw[List.length_set] at hj;exact hj) hne
 ·refine(yP W lo B L ds[ix] o w (h.one ix hx) (hfree ix hx e) ho hr).mono ?_
  rintro e' w' ⟨rfl,L',d',h1,h2,h3⟩
  refine⟨rfl,L',ds.set ix d',d.lt,h.step ix hx h1 h2,by rw[List.length_set],⟨by rw[List.length_set];exact hi,by rw[List.getElem_set_ne e,hd]⟩,fun j hj hne=>?_,h2.fr.mono (fun k hk=>.inl (.inl (hk.imp id (fun h=>⟨ix,hx,e,h⟩)))),fun k hk=>?_,h3,h2.four⟩
  ·by_cases e2:ix=j
   ·subst e2;rw[List.getElem_set_self,h2.bz];exact hfree ix hx e
   ·rw[List.getElem_set_ne e2];exact hfree j (by rw[List.length_set] at hj;exact hj) hne
  ·rcases hk with hk | ⟨j,hj,hne,hk⟩
   ·exact(h2.nS k hk).imp .inl id
   ·rw[List.length_set] at hj;by_cases e2:ix=j
    ·subst e2;rw[List.getElem_set_self] at hk;exact(h2.xB k hk).imp (fun h=>.inr ⟨ix,hx,e,h⟩) id
    ·rw[List.getElem_set_ne e2] at hk;exact .inl (.inr ⟨j,hj,hne,hk⟩)
theorem GS.put {W w w':World} {lo B:Nat} {L:LW} {ds:List Sd} {i:Nat} {d d':Sd} (h:GS W w lo B L ds i d) (hD:d'.D=d.D) (ho:∀k,d'.own k↔d.own k) (hl:d'.lt= .nilFunc\/Clo d'.lt d'.X) (hlo:lo<=d.D) (f:Fr (fun k=>k=d.D) w w') (hb:af w' d.D d'.cells 52):GS W w' lo B L (ds.set i d') i d':=by
 obtain⟨hi,hd⟩:=h.get;have hDo:∀k,OO B L ds i k->k≠d.D:=fun k hk e=>h.off hk (.inl e)
 have hno:∀k cur,k=d.D->¬af w k cur 151:=fun k cur e hb=>by
  subst e;exact absurd (hb.inj h.blk).2 (by decide)
 have hg:∀a (ha:a<(ds.set i d').length) k,(ds.set i d')[a].own k->∃ha':a<ds.length,ds[a].own k:=fun a ha k hk=>by
  rw[List.length_set] at ha;by_cases e:i=a
  ·subst e;rw[List.getElem_set_self] at hk;exact⟨ha,by rw[hd];exact(ho k).1 hk⟩
  ·rw[List.getElem_set_ne e] at hk;exact⟨ha,hk⟩
 refine⟨⟨h.env.base,h.env.nw.trans f (fun k hk=>.inr (by have:=h.env.base;omega)),Nat.le_trans h.env.le f.size⟩,h.law.fr f (fun k hk=>hDo k (.inl hk)),?_,⟨by rw[List.length_set];exact hi,by rw[List.getElem_set_self]⟩,fun j hj hne=>?_,by rw[hD];exact hb,fun e he k hk hek=>?_,fun a b ha hb hab k h1 h2=>?_,fun e he=>?_⟩
 ·rw[h.ss,List.map_set,hD,<-hd];refine List.ext_getElem? fun j=>?_
  by_cases e:i=j
  ·subst e;rw[List.getElem?_set_self (by simpa using hi)]
   simp[hi]
  ·rw[List.getElem?_set_ne e]
 ·rw[List.length_set] at hj;rw[List.getElem_set_ne (fun e=>hne e.symm)]
  exact(h.sides j hj hne).Ro f (fun k hk=>hDo k (.inr ⟨j,hj,hne,hk⟩)) hno
 ·obtain⟨a,ha,rfl⟩:=List.getElem_of_mem he;obtain⟨ha',h2⟩:=hg a ha k hek;exact h.apart _ (List.getElem_mem ha') k hk h2
 ·obtain⟨ha',h3⟩:=hg a ha k h1;obtain⟨hb',h4⟩:=hg b hb k h2;exact h.xH a b ha' hb' hab k h3 h4
 ·rcases mem_set e he with rfl | ⟨j,hj,hne,rfl⟩
  ·exact hl
  ·exact h.EH _ (List.getElem_mem hj)
theorem OO.set {B:Nat} {L:LW} {ds:List Sd} {i k:Nat} {d':Sd}:OO B L (ds.set i d') i k↔OO B L ds i k:=by
 constructor
 ·rintro(h | ⟨j,hj,hne,h⟩)
  ·exact .inl h
  ·rw[List.length_set] at hj;rw[List.getElem_set_ne (fun e=>hne e.symm)] at h
   exact .inr ⟨j,hj,hne,h⟩
 ·rintro(h | ⟨j,hj,hne,h⟩)
  ·exact .inl h
  ·exact .inr ⟨j,by rw[List.length_set];exact hj,hne,by rw[List.getElem_set_ne (fun e=>hne e.symm)];exact h⟩
theorem GP.next {W w A A':World} {lo B i n ba bk cn ct cr a Yd Ye Yf a' g:Nat} {d:Sd} {O0 C:Nat->Prop} {L L':LW} {ds ds':List Sd} {lt lt':Value} (h:GP W w lo B i n d O0 ba bk cn ct cr a C A L ds lt) (hg:w.heap.size<=g) (hj:LJ W A' lo B L' ds') (hget:∃hi:i<ds'.length,ds'[i]={d with lt:=lt'}) (fr:Fr (fun k=>C k\/k=g) A A') (grow:∀k,OO B L' ds' i k->OO B L ds i k\/k=g\/A.heap.size<=k)
  (hat:af A' ba #[.int .i64 (a':Int)] 3) (hok:af A' bk #[.bool true] 4) (hlen:ds'.length=n) (hfree:∀j (hj:j<ds'.length),j≠i->ds'[j].bz=false) (hc:L'.nums.length<=Yd/\L'.turned.length<=Ye/\L'.rows.length<=Yf/\L'.nums.length % 4=0):
  ∃C':Nat->Prop,(∀k,C' k->C k\/k=g\/A.heap.size<=k)/\GP W w lo B i n d O0 ba bk Yd Ye Yf a' C' A' L' ds' lt':=by
 obtain⟨hi,hd⟩:=hget;have hAs:=h.fr.size;refine⟨fun k=>OO B L' ds' i k\/k=d.D\/k=ba\/k=bk,fun k hk=>?_,hj.out hi hd,fun k hk=>?_,fun k=>Iff.rfl,hat,hok,h.fr.trans fr (fun k hk=>?_),hlen,hfree,hc⟩
 ·rcases hk with hk | hk
  ·exact(grow k hk).imp (fun h1=>(h.c k).2 (.inl h1)) id
  ·exact .inl ((h.c k).2 (.inr hk))
 ·rcases grow k hk with h1 | h1 | h1
  ·exact h.grow k h1
  ·exact .inr (by omega)
  ·exact .inr (by omega)
 ·rcases hk with hk | hk
  ·rcases(h.c k).1 hk with h1 | h1 | h1 | h1
   ·exact(h.grow k h1).imp .inl id
   ·exact .inl (.inr (.inl h1))
   ·exact .inl (.inr (.inr (.inl h1)))
   ·exact .inl (.inr (.inr (.inr (.inl h1))))
  ·exact .inr (by omega)
end Go.Proofs.YtkjfpdfkcfgfkaaGreat
namespace Go.Proofs.YtkjfpdfkcfgfkaaGreat
open Go.RowKit Go.Shelf
def Sd.going (d:Sd) (sq:Value):Sd:={d with bz:=true,sq:=sq,s:=d.s.jl true}
theorem eX.abb {W w:World} {lo:Nat} {d:Sd} (h:eX W w lo d):¬d.s.own d.X d.D/\∀k,d.R.own d.Y k->k≠d.D/\k≠d.X:=by
 refine⟨fun ho=>?_,fun k hk=>⟨fun e=>?_,fun e=>h.pair.at_.FM h.pair.ref h.pair.UE k hk (.inl e)⟩⟩
 ·obtain⟨cur,e,hb,he⟩:=h.pair.at_.mem.ty ho;rw[(hb.inj h.blk).2] at he;exact absurd he (by decide)
 ·rcases h.pair.ref.ty hk with h1 | ⟨cur,e',hb,he⟩
  ·obtain⟨cur,hb,_⟩:=h.pair.ref.dU.sz.blk h1;rw[e] at hb;exact absurd (hb.inj h.blk).2 (by decide)
  ·rw[e] at hb;rw[(hb.inj h.blk).2] at he;exact absurd he (by decide)
theorem VP {W w0 w w1:World} {lo B i n ba bk cn ct cr:Nat} {L:LW} {ds:List Sd} {d:Sd} (sq:Value) (h:LI W w0 lo B L ds) (hi:i<ds.length) (hd:ds[i]=d) (f:Nw w0 w) (hba:w0.heap.size<=ba) (hbk:w0.heap.size<=bk) (hne:ba≠bk) (hat:af w ba #[.int .i64 0] 3) (hok:af w bk #[.bool true] 4) (hw1:w1=(w.setCell ⟨d.D,2,none⟩ (.bool true)).setCell ⟨d.D,3,none⟩ sq)
  (hn:ds.length=n) (hc:L.nums.length<=cn/\L.turned.length<=ct/\L.rows.length<=cr/\L.nums.length % 4=0):
  Gp W w1 lo (d.going sq) (OO B L ds i) ba bk/\GP W w1 lo B i n (d.going sq) (OO B L ds i) ba bk cn ct cr 0 (fun k=>OO B L ds i k\/k=d.D\/k=ba\/k=bk) w1 L (ds.set i (d.going sq)) d.lt/\iM w1 d.X d.zs d.s/\(∀k,d.s.own d.X k->¬(OO B L ds i k\/k=d.D\/k=ba\/k=bk))/\Fr (fun k=>k=d.D) w w1:=by
 have hj:=h.toLJ.nw f;have hgs:=hj.out hi hd;have hS:eX W w lo d:=hd▸hj.sides _ (List.getElem_mem hi);have hS0:eX W w0 lo d:=hd▸h.sides _ (List.getElem_mem hi);have hg0:=h.toLJ.out hi hd;obtain⟨a1,a2⟩:=hS.abb;have hfw:Fr (fun k=>k=d.D) w w1:=by
  rw[hw1];exact((Fr.refl (fun k=>k=d.D) w).setCell _ _ (.inl rfl)).setCell _ _ (.inl rfl)
 have hb:af w1 d.D (d.going sq).cells 52:=by
  have:=(hS.blk.set 2 (.bool true)).set 3 sq
  rw[hw1];simpa[Sd.cells,Sd.going] using this
 have hDl:=hS0.blk.lt;have hlo:=h.env.le;have hal:=hat.lt;have hkl:=hok.lt;have hg1:=hgs.put (d':=d.going sq) rfl (fun k=>Iff.rfl) (by have:=h.EH _ (List.getElem_mem hi);rw[hd] at this;exact this) hS.Rt hfw hb
 have hno:∀k cur,k=d.D->¬af w k cur 151:=fun k cur e hb'=>by
  subst e;exact absurd (hb'.inj hS.blk).2 (by decide)
 have hA:iM w1 d.X d.zs d.s:=hS.pair.at_.Ro hfw (fun k hk e=>a1 (by rw[<-e];exact hk)) hno
 have hsz:=hfw.size;refine⟨⟨hS.pair.ref.fr hfw (fun k hk=>(a2 k hk).1),rfl,hS.pair.now,hS.pair.tabs,hS.pair.ku,hS.pair.UE,hS.pair.xlo,hS.Rt,fun k hk=>⟨fun ho=>hgs.off ho hk,?_,?_⟩,fun k hk=>?_,a2,a1,by omega,by omega,by omega,by omega,hne⟩,
  ⟨hg1,fun k hk=>.inl (OO.set.1 hk),fun k=>by rw[OO.set];exact Iff.rfl,hat.fr hfw (by omega),hok.fr hfw (by omega),Fr.refl _ _,by rw[List.length_set];exact hn,fun j hj hne=>?_,hc⟩,hA,fun k hk ho=>?_,hfw⟩
 ·have:=hS0.lt hk
  omega
 ·have:=hS0.lt hk
  omega
 ·have:=(hg0.lt hk).1
  omega
 ·rw[List.length_set] at hj;rw[List.getElem_set_ne (fun e=>hne e.symm)]
  exact h.free _ (List.getElem_mem hj)
 ·have:=hS0.lt (.inr (.inl hk))
  rcases ho with ho | ho | ho | ho
  ·exact hgs.off ho (.inr (.inl hk))
  ·exact a1 (by rw[<-ho];exact hk)
  ·omega
  ·omega
theorem abd {W w A:World} {lo B i n ba bk cn ct cr a:Nat} {d:Sd} {sq:Value} {O0 C:Nat->Prop} {L:LW} {ds:List Sd} {lt:Value} (h:GP W w lo B i n (d.going sq) O0 ba bk cn ct cr a C A L ds lt) (hs:Gp W w lo (d.going sq) O0 ba bk) (hA:iM A d.X d.zs d.s) (hbz:d.bz=false) (hbs:d.s.l.busy=false):
  LI W (A.setCell ⟨d.D,2,none⟩ (.bool false)) lo B L (ds.set i {d with sq:=sq,lt:=lt}):=by
 have hfw:Fr (fun k=>k=d.D) A (A.setCell ⟨d.D,2,none⟩ (.bool false)):=(Fr.refl (fun k=>k=d.D) A).setCell _ _ (.inl rfl)
 have hb:af (A.setCell ⟨d.D,2,none⟩ (.bool false)) d.D (Sd.cells {d with sq:=sq,lt:=lt}) 52:=by
  have:=h.gs.blk.set 2 (.bool false)
  simpa[Sd.cells,Sd.going,hbz] using this
 obtain⟨hi,hd⟩:=h.gs.get;have hg:=h.gs.put (d':={d with sq:=sq,lt:=lt}) rfl (fun k=>Iff.rfl) (by
  have:=h.gs.EH _ (List.getElem_mem hi)
  rw[hd] at this;exact this) hs.Rt hfw hb
 have hno:∀k cur,k=d.D->¬af A k cur 151:=fun k cur e hb'=>by
  subst e;exact absurd (hb'.inj h.gs.blk).2 (by decide)
 have hA':iM (A.setCell ⟨d.D,2,none⟩ (.bool false)) d.X d.zs d.s:=hA.Ro hfw (fun k hk e=>hs.sD (show d.s.own d.X d.D from by rw[<-show k=d.D from e];exact hk)) hno
 have hr:mF W A lo d.Y d.zs d.R:=hs.ref.fr h.fr (fun k hk ho=>by
  have h1:=hs.off k (.inr (.inr hk));have h2:=hs.rD k hk;rcases ho with ho | ho | ho | ho | ho
  ·exact h1.1 ho
  ·exact h2.1 ho
  ·omega
  ·omega
  ·exact h2.2 ho)
 refine⟨hg.back ⟨hA',hr.fr hfw (fun k hk=>(hs.rD k hk).1),by rw[hbs];exact hbz.symm,hs.now,hs.tabs,hs.ku,hs.UE,hs.xlo⟩ hs.Rt,fun e he=>?_⟩
 rcases mem_set e he with rfl | ⟨j,hj,hne,rfl⟩
 ·exact hbz
 ·exact h.free j hj hne
theorem VQ {n X m:Nat} {zs:List Int} {s:WS} {g:Operand} {t:Tmp} {id:Nat} {assign body:Code} {Q:Exit->Act->World->Prop} {a:Act} {w:World} (t2:Tmp)
  (hg:a.eval g= .func (.func 77) #[.pointer (some ⟨X,0,none⟩)] #[]) (hA:iM w X zs s) (hbz:s.l.busy=false)
  (hassign:∀(l:Nat) (v:Value) (W:World) (K:Act->World->Prop),K {tmps:=(a.tmps.setIfInBounds t v).setIfInBounds t2 v,defers:=[]} W->assign.wpIn (Fence.wide.inRound l) (n-1-1) Tryz.prog (Exit.then K (fun _ _ _=>False)) {tmps:=a.tmps.setIfInBounds t v,defers:=[]} W)
  (G:List (List Nat)->(Nat->Prop)->World->Prop) (hG:∀R:List (List Nat)->Prop,Cc X w.heap.size (fun done C A=>G done C A/\R done)) (C:Nat->Prop) (hC:∀k,s.own X k->¬C k) (h0:G [] C w)
  (pY:∀(l:Nat) (done:List (List Nat)) (C:Nat->Prop) (x:List Nat) (b cap:Nat) (W:World),(done++[x]) <+: je s.d s.bs zs.length []->done.length<=m->G done C W->iM W X zs (s.jl true)->w.heap.size<=b->¬C b->Row W (.slice (some ⟨b,0,none⟩) x.length cap) 3 (ints x) ->
   body.wpIn (Fence.wide.inRound l) (n-1-1) Tryz.prog (Om (fun C A=>G (done++[x]) C A/\(done++[x]).length<=m) (fun C A=>G (done++[x]) C A/\(done++[x]).length=m+1) id C b W) {tmps:=(a.tmps.setIfInBounds t (.slice (some ⟨b,0,none⟩) x.length cap)).setIfInBounds t2 (.slice (some ⟨b,0,none⟩) x.length cap),defers:=[]} W)
  (hQ:∀(a:Act) (W:World),Q .normal a W->(Code.exit id).wpIn Fence.wide n Tryz.prog Q a W)
  (hend:∀(D:Nat) (C':Nat->Prop) (done:List (List Nat)) (W:World),w.heap.size<=D->done <+: je s.d s.bs zs.length []->(done=je s.d s.bs zs.length []/\done.length<=m\/done.length=m+1)->G done C' W->iM W X zs s->W.heap[D]? = some (.deferred (some []))->Q .normal {a with defers:=mark D::a.defers} W):
  (Code.rangeFunc g #[t] assign body).wp Tryz.prog Q a w:=by
 refine(wpIn_wide (n:=n)).1 ?_
 exact Oo (id:=id) (zs:=zs) (s:=s) (fun v=>{tmps:=(a.tmps.setIfInBounds t v).setIfInBounds t2 v,defers:=[]}) hg hA hbz hA.pos hassign (fun done C A=>G done C A/\done.length<=m) (fun done C A=>G done C A/\done.length=m+1) (hG _) (hG _) C hC ⟨h0,Nat.zero_le _⟩ (fun l done C x b cap W h1 h2=>pY l done C x b cap W h1 h2.2 h2.1) (fun D C' W hD _ h3 h4 _ h6=>hend D C' _ W hD (List.prefix_refl _) (.inl ⟨rfl,h3.2⟩) h3.1 h4 h6) (fun D C' p x W hD _ h2 h3 h4 _ h6=>hQ _ _ (hend D C' _ W hD h2 (.inr h3.2) h3.1 h4 h6))
end Go.Proofs.YtkjfpdfkcfgfkaaGreat
namespace Go.Proofs.YtkjfpdfkcfgfkaaGreat
open Go.RowKit
structure Ns (N:Nat) (O0:Nat->Prop) (d:Sd) (ba bk k:Nat):Prop where
 o:¬O0 k
 dd:k≠d.D
 x:k≠d.X
 lt:k<N
 a:k≠ba
 b:k≠bk
theorem Ns.out {N:Nat} {O0:Nat->Prop} {d:Sd} {ba bk k:Nat} (h:Ns N O0 d ba bk k):¬(O0 k\/k=d.D\/k=ba\/k=bk\/k=d.X):=fun ho=>by
 rcases ho with ho | ho | ho | ho | ho
 ·exact h.o ho
 ·exact h.dd ho
 ·exact h.a ho
 ·exact h.b ho
 ·exact h.x ho
structure Mid (W A w:World) (lo B i:Nat) (L L':LW) (ds ds':List Sd) (d:Sd) (lt:Value) (b ba bk a:Nat):Prop where
 lj:LJ W w lo B L' ds'
 get:∃hi:i<ds'.length,ds'[i]={d with lt:=lt}
 len:ds'.length=ds.length
 free:∀j (hj:j<ds'.length),j≠i->ds'[j].bz=false
 fr:Fr (fun k=>OO B L ds i k\/k=d.D\/k=b\/k=ba\/k=bk) A w
 grow:∀k,OO B L' ds' i k->OO B L ds i k\/k=b\/A.heap.size<=k
 at_:af w ba #[.int .i64 (a:Int)] 3
 ok:af w bk #[.bool true] 4
 off:∀k,k=ba\/k=bk->¬OO B L' ds' i k/\k≠d.D/\k≠b/\k<A.heap.size/\lo<=k/\¬d.own k
theorem Mid.start {W w A A':World} {lo B i n ba bk cn ct cr a b:Nat} {d:Sd} {O0 C:Nat->Prop} {L:LW} {ds:List Sd} {lt:Value} (h:GP W w lo B i n d O0 ba bk cn ct cr a C A L ds lt) (hs:Gp W w lo d O0 ba bk) (hA:iM A d.X d.zs d.s) (hb:w.heap.size<=b) (f:Nw A A'):Mid W A A' lo B i L L ds ds d lt b ba bk a:=by
 have hbl:=hs.blo;have hsz:=h.fr.size;have hD:=hs.off _ (.inl rfl);refine⟨(h.lj hs hA).nw f,h.gs.get,rfl,h.free,f.mono (fun _ x=>x.elim),fun _ hk=>.inl hk,h.at_.nw f,h.ok.nw f,fun k hk=>⟨fun ho=>?_,by omega,by omega,by omega,by omega,fun ho=>?_⟩⟩
 ·rcases h.grow k ho with h1 | h1
  ·have:=hs.old k h1
   omega
  ·omega
 ·have:=hs.off k ho
  omega
theorem Mid.nw {W A w w':World} {lo B i b ba bk a:Nat} {L L':LW} {ds ds':List Sd} {d:Sd} {lt:Value} (m:Mid W A w lo B i L L' ds ds' d lt b ba bk a) (f:Nw w w'):Mid W A w' lo B i L L' ds ds' d lt b ba bk a:=
 ⟨m.lj.nw f,m.get,m.len,m.free,m.fr.trans f (fun _ x=>x.elim),m.grow,m.at_.nw f,m.ok.nw f,m.off⟩
theorem Mid.box {W A w w':World} {lo B i b ba bk a a':Nat} {L L':LW} {ds ds':List Sd} {d:Sd} {lt:Value} (m:Mid W A w lo B i L L' ds ds' d lt b ba bk a) (f:Fr (fun k=>k=ba\/k=bk) w w') (hat:af w' ba #[.int .i64 (a':Int)] 3) (hok:af w' bk #[.bool true] 4):Mid W A w' lo B i L L' ds ds' d lt b ba bk a':=by
 refine⟨m.lj.fr f (fun k hk=>?_) (fun k cur hk hb=>?_),m.get,m.len,m.free,m.fr.trans f (fun k hk=>.inl (.inr (.inr (.inr hk)))),m.grow,hat,hok,m.off⟩
 ·obtain⟨h1,_,_,_,h5,h6⟩:=m.off k hk;refine⟨h5,fun ho=>h1 (.inl ho),fun e he ho=>?_⟩
  obtain⟨j,hj,rfl⟩:=List.getElem_of_mem he;by_cases ej:j=i
  ·subst ej;obtain⟨_,hd⟩:=m.get;rw[hd] at ho;exact h6 ho
  ·exact h1 (.inr ⟨j,hj,ej,ho⟩)
 ·rcases hk with rfl | rfl
  ·exact absurd (hb.inj m.at_).2 (by decide)
  ·exact absurd (hb.inj m.ok).2 (by decide)
theorem Mid.keep {W w A w' w'':World} {lo B i n ba bk cn ct cr a b:Nat} {d:Sd} {O0 C:Nat->Prop} {L L':LW} {ds:List Sd} {lt:Value} {cur:Array Value} (h:GP W w lo B i n d O0 ba bk cn ct cr a C A L ds lt) (hs:Gp W w lo d O0 ba bk) (m:Mid W A w' lo B i L L ds ds d lt b ba bk a) (hb:w.heap.size<=b) (hbC:¬C b) (hgb:af w' b cur 3) (hL:gZ w'' lo B L') (f:Fr (fun k=>k=B\/L.nv.ownBlock=some k\/k=b) w' w'') (hgr:∀k,L'.own B k->L.own B k\/k=b\/w'.heap.size<=k) (hss:L'.ss=L.ss):Mid W A w'' lo B i L L' ds ds d lt b ba bk a:=by
 have hbl:=hs.blo;have hsz:=m.fr.size;have hno:∀e∈ds,¬e.own b:=fun e he ho=>by
  obtain⟨j,hj,rfl⟩:=List.getElem_of_mem he;by_cases ej:j=i
  ·subst ej;obtain⟨_,hd⟩:=m.get;rw[hd] at ho;have:=hs.off b ho
   omega
  ·exact hbC ((h.c b).2 (.inl (.inr ⟨j,hj,ej,ho⟩)))
 have hin:∀k,k=B\/L.nv.ownBlock=some k\/k=b->OO B L ds i k\/k=b:=fun k hk=>by
  rcases hk with hk | hk | hk
  ·exact .inl (.inl (.inl hk))
  ·exact .inl (.inl (.inr (.inr (.inl hk))))
  ·exact .inr hk
 have hst:∀k,k=ba\/k=bk->¬(k=B\/L.nv.ownBlock=some k\/k=b):=fun k hk hk2=>by
  obtain⟨h1,_,h3,_⟩:=m.off k hk;rcases hin k hk2 with h4 | h4
  ·exact h1 h4
  ·exact h3 h4
 refine⟨m.lj.kept hno (by omega) hgb hL f hgr hss,m.get,m.len,m.free,m.fr.trans f (fun k hk=>.inl ?_),fun k hk=>?_,m.at_.fr f (hst _ (.inl rfl)),m.ok.fr f (hst _ (.inr rfl)),fun k hk=>⟨fun ho=>?_,(m.off k hk).2⟩⟩
 ·exact(hin k hk).imp id (fun h1=>.inr (.inl h1))
 ·rcases hk with hk | hk
  ·rcases hgr k hk with h1 | h1 | h1
   ·exact .inl (.inl h1)
   ·exact .inr (.inl h1)
   ·exact .inr (.inr (Nat.le_trans hsz h1))
  ·exact .inl (.inr hk)
 ·obtain⟨h1,_,h3,h4,_⟩:=m.off k hk;rcases ho with ho | ho
  ·rcases hgr k ho with h5 | h5 | h5
   ·exact h1 (.inl h5)
   ·exact h3 h5
   ·omega
  ·exact h1 (.inr ho)
theorem Mid.plain {W A w w':World} {lo B i b n ba bk a:Nat} {L L' L'':LW} {ds ds' ds'':List Sd} {d:Sd} {lt lt':Value} (m:Mid W A w lo B i L L' ds ds' d lt b ba bk a) (p:PlG W w w' lo B i L' L'' ds' ds'' {d with lt:=lt} lt' n):Mid W A w' lo B i L L'' ds ds'' d lt' b ba bk a:=by
 have hsz:=m.fr.size;have hst:∀k,k=ba\/k=bk->¬(OO B L' ds' i k\/k=d.D):=fun k hk hk2=>by
  obtain⟨h1,h2,_⟩:=m.off k hk;rcases hk2 with h3 | h3
  ·exact h1 h3
  ·exact h2 h3
 refine⟨p.lj,p.get,p.len.trans m.len,p.free,m.fr.trans p.fr (fun k hk=>?_),fun k hk=>?_,m.at_.fr p.fr (hst _ (.inl rfl)),m.ok.fr p.fr (hst _ (.inr rfl)),fun k hk=>⟨fun ho=>?_,(m.off k hk).2⟩⟩
 ·rcases hk with hk | hk
  ·rcases m.grow k hk with h1 | h1 | h1
   ·exact .inl (.inl h1)
   ·exact .inl (.inr (.inr (.inl h1)))
   ·exact .inr h1
  ·exact .inl (.inr (.inl hk))
 ·rcases p.grow k hk with h1 | h1
  ·exact m.grow k h1
  ·exact .inr (.inr (Nat.le_trans hsz h1))
 ·obtain⟨h1,_,_,h4,_⟩:=m.off k hk;rcases p.grow k ho with h5 | h5
  ·exact h1 h5
  ·omega
theorem Mid.out {W w A A':World} {lo B i n ba bk cn ct cr a a' b k:Nat} {d:Sd} {O0 C:Nat->Prop} {L L':LW} {ds ds':List Sd} {lt lt':Value} (_m:Mid W A A' lo B i L L' ds ds' d lt' b ba bk a') (h:GP W w lo B i n d O0 ba bk cn ct cr a C A L ds lt) (hb:w.heap.size<=b) (hk:Ns w.heap.size O0 d ba bk k):¬(OO B L ds i k\/k=d.D\/k=b\/k=ba\/k=bk):=fun ho=>by
 have hl:=hk.lt;rcases ho with ho | ho | ho | ho | ho
 ·rcases h.grow k ho with h1 | h1
  ·exact hk.o h1
  ·omega
 ·exact hk.dd ho
 ·omega
 ·exact hk.a ho
 ·exact hk.b ho
theorem Mid.end {W w A A':World} {lo B i n ba bk cn ct cr a Yd Ye Yf a' b:Nat} {d:Sd} {O0 C:Nat->Prop} {L L':LW} {ds ds':List Sd} {lt lt':Value} (m:Mid W A A' lo B i L L' ds ds' d lt' b ba bk a') (h:GP W w lo B i n d O0 ba bk cn ct cr a C A L ds lt) (hb:w.heap.size<=b) (hc:L'.nums.length<=Yd/\L'.turned.length<=Ye/\L'.rows.length<=Yf/\L'.nums.length % 4=0):
  ∃C':Nat->Prop,(∀k,C' k->C k\/k=b\/A.heap.size<=k)/\Fr (fun k=>C k\/k=b) A A'/\GI W w lo B i n d O0 ba bk Yd Ye Yf a' C' A':=by
 have hfr:Fr (fun k=>C k\/k=b) A A':=m.fr.mono (fun k hk=>.inl (by
  rcases hk with hk | hk | hk | hk
  ·exact .inl ((h.c k).2 (.inl hk))
  ·exact .inl ((h.c k).2 (.inr (.inl hk)))
  ·exact .inr hk
  ·exact .inl ((h.c k).2 (.inr (.inr hk)))))
 obtain⟨C',h1,h2⟩:=h.next (Yd:=Yd) (Ye:=Ye) (Yf:=Yf) (a':=a') hb m.lj m.get hfr m.grow m.at_ m.ok (m.len.trans h.len) m.free hc
 exact⟨C',h1,hfr,_,_,_,h2⟩
theorem dJ.Ze {W w w':World} {lo B k:Nat} {L L':LW} {d d':Sd} {cur:Array Value} {e:TypeId} (h:LS W w lo B L d) (hs:dJ w w' B L L' d d') (hb:af w k cur e) (he:e∉nR):af w' k cur e:=hb.fr hs.fr (fun ho=>he (h.only k cur e ho hb))
structure yS (w:World) (B b3 b5:Nat) (o:kU):Prop where
 k3:af w b3 #[.pointer (some ⟨B,0,none⟩)] 24
 k5:af w b5 o.cells 54
theorem yS.fr {S:Nat->Prop} {w w':World} {B b3 b5:Nat} {o:kU} (h:yS w B b3 b5 o) (f:Fr S w w') (h3:¬S b3) (h5:¬S b5):yS w' B b3 b5 o:=⟨h.k3.fr f h3,h.k5.fr f h5⟩
theorem yS.nw {w w':World} {B b3 b5:Nat} {o:kU} (h:yS w B b3 b5 o) (f:Nw w w'):yS w' B b3 b5 o:=h.fr f (fun x=>x) (fun x=>x)
theorem yS.step {W w w':World} {lo B b3 b5:Nat} {L L':LW} {d d':Sd} {o:kU} (h:yS w B b3 b5 o) (hL:LS W w lo B L d) (hs:dJ w w' B L L' d d'):yS w' B b3 b5 o:=⟨hs.Ze hL h.k3 (by decide),hs.Ze hL h.k5 (by decide)⟩
theorem Yg {W wc:World} {lo B i N ba bk k:Nat} {L:LW} {ds:List Sd} {d:Sd} (sq:Value) (h:LI W wc lo B L ds) (hi:i<ds.length) (hd:ds[i]=d) (h1:wc.heap.size<=k) (h2:k<N) (h3:k≠ba) (h4:k≠bk):Ns N (OO B L ds i) (d.going sq) ba bk k:=by
 have hS:eX W wc lo d:=hd▸h.sides _ (List.getElem_mem hi);refine⟨fun ho=>?_,fun e=>?_,fun e=>?_,h2,h3,h4⟩
 ·have:=((h.toLJ.out hi hd).lt ho).1
  omega
 ·have e':k=d.D:=e;have:=hS.blk.lt
  omega
 ·have e':k=d.X:=e;have:=hS.pair.at_.mem.blk.lt
  omega
theorem OJ {W wc:World} {lo B i N ba bk k:Nat} {L:LW} {ds:List Sd} {d:Sd} {cur:Array Value} {e:TypeId} (sq:Value) (h:LI W wc lo B L ds) (hi:i<ds.length) (hd:ds[i]=d) (hb:af wc k cur e) (he:e∉nR) (h2:wc.heap.size<=N) (h3:wc.heap.size<=ba) (h4:wc.heap.size<=bk):Ns N (OO B L ds i) (d.going sq) ba bk k:=by
 have hS:eX W wc lo d:=hd▸h.sides _ (List.getElem_mem hi);have hl:=hb.lt;refine⟨fun ho=>?_,fun e=>?_,fun e=>?_,by omega,by omega,by omega⟩
 ·obtain⟨_,_,c2,e2,hb2,he2⟩:=(h.toLJ.out hi hd).lt ho;exact he ((hb.inj hb2).2▸he2)
 ·have e':k=d.D:=e;subst e';rw[(hb.inj hS.blk).2] at he;exact he (by decide)
 ·have e':k=d.X:=e;subst e';rw[(hb.inj hS.pair.at_.mem.blk).2] at he;exact he (by decide)
theorem VR {W wc A:World} {lo B i ba bk D:Nat} {L:LW} {ds:List Sd} {d:Sd} (h:LI W wc lo B L ds) (hi:i<ds.length) (hd:ds[i]=d) (f:Fr (fun k=>OO B L ds i k\/k=d.D\/k=ba\/k=bk\/k=d.X) wc A) (h3:wc.heap.size<=ba) (h4:wc.heap.size<=bk) (hD:wc.heap[D]? = some (.deferred (some []))):A.heap[D]? = some (.deferred (some [])):=by
 have hS:eX W wc lo d:=hd▸h.sides _ (List.getElem_mem hi);have hnb:∀cur e,¬af wc D cur e:=fun cur e hb=>by
  have hb':wc.heap[D]? = some (.cells cur e (0,0)):=hb
  rw[hD] at hb';cases hb'
 have hlt:D<wc.heap.size:=(Array.getElem?_eq_some_iff.1 hD).1
 rw[f.block D hlt (fun ho=>?_)]
 ·exact hD
 ·rcases ho with ho | ho | ho | ho | ho
  ·obtain⟨_,_,c2,e2,hb2,he2⟩:=(h.toLJ.out hi hd).lt ho;exact hnb _ _ hb2
  ·subst ho;exact hnb _ _ hS.blk
  ·omega
  ·omega
  ·subst ho;exact hnb _ _ hS.pair.at_.mem.blk
structure JQ (w:World) (B b3 b5 bm bw:Nat) (o:kU) (jT:Nat) (v:Value) (vs:List Value) (xss:List (List Nat)):Prop where
 bx:yS w B b3 b5 o
 m:af w bm #[.int .i64 (jT:Int)] 3
 wb:af w bw #[v] 26
 row:Row w v 22 vs
 len:vs.length=xss.length
 each:∀j,j<xss.length->Row w (vs.getD j undef) 3 (ints (xss.getD j []))
def GoK (b3 b5 bm bw:Nat) (v:Value) (vs:List Value) (xss:List (List Nat)) (k:Nat):Prop:=k=b3\/k=b5\/k=bm\/k=bw\/v.ownBlock=some k\/∃j,j<xss.length/\(vs.getD j undef).ownBlock=some k
theorem JQ.fr {S:Nat->Prop} {w w':World} {B b3 b5 bm bw jT:Nat} {o:kU} {v:Value} {vs:List Value} {xss:List (List Nat)} (h:JQ w B b3 b5 bm bw o jT v vs xss) (f:Fr S w w') (hn:∀k,GoK b3 b5 bm bw v vs xss k->¬S k):JQ w' B b3 b5 bm bw o jT v vs xss:=
 ⟨h.bx.fr f (hn _ (.inl rfl)) (hn _ (.inr (.inl rfl))),h.m.fr f (hn _ (.inr (.inr (.inl rfl)))),h.wb.fr f (hn _ (.inr (.inr (.inr (.inl rfl))))),h.row.fr f (fun k hk=>hn k (.inr (.inr (.inr (.inr (.inl hk)))))),h.len,fun j hj=>(h.each j hj).fr f (fun k hk=>hn k (.inr (.inr (.inr (.inr (.inr ⟨j,hj,hk⟩))))))⟩
theorem JQ.nw {w w':World} {B b3 b5 bm bw jT:Nat} {o:kU} {v:Value} {vs:List Value} {xss:List (List Nat)} (h:JQ w B b3 b5 bm bw o jT v vs xss) (f:Nw w w'):JQ w' B b3 b5 bm bw o jT v vs xss:=h.fr f (fun _ _ x=>x)
theorem EK (d:List Nat) (bs:List Tb):∀m l x,x∈je d bs m l->x.length=l.length+m
 | 0,l,x,hx=>by
  obtain rfl:=List.mem_singleton.1 hx
  rfl
 | m+1,l,x,hx=>by
  unfold je at hx;obtain⟨v,_,hx⟩:=List.mem_flatMap.1 hx;split at hx
  ·have:=EK d bs m (l++[v]) x hx
   rw[List.length_append,List.length_singleton] at this;omega
  ·cases hx
end Go.Proofs.YtkjfpdfkcfgfkaaGreat
