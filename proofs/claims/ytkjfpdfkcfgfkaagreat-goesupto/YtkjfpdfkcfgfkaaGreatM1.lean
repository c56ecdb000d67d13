/- Parts of the proof, number 1: contracts of the functions that the statement calls. -/
import Derived.Test.YtkjfpdfkcfgfkaaGreatM0
import Derived.Stop.BytesEq
import Derived.OrdersHeld
import Derived.StillTailTactics
import Derived.Maps.OwnSet
import Derived.Maps.Views
import Derived.DeepKeys4
import Derived.Sort.CutIn
set_option maxHeartbeats 3200000
namespace Go.Proofs.YtkjfpdfkcfgfkaaGreat
open Go.RowKit
theorem iq (X:Nat) (so:Option Addr) (n sc:Nat) (w:World) (h:w.cell? ⟨X,11,none⟩=some (.slice so n sc)):
  Calls Tryz.prog 24 #[.pointer (some ⟨X,10,none⟩)] w fun e w'=>e= .returned (.int .i64 n)/\w'=w:=by
 go_enter Tryz.func24,Tryz.ntmps24
 go_wp2
 go_ret
 exact⟨rfl,rfl⟩
theorem Kq (X:Nat) (so:Option Addr) (sc:Nat) (fv:Value) (w:World) (h:w.cell? ⟨X,11,none⟩=some (.slice so 0 sc)):
  Calls Tryz.prog 71 #[.pointer (some ⟨X,10,none⟩),fv] w fun e w'=>e= .returned (.tuple #[])/\w'=w:=by
 go_enter Tryz.func71,Tryz.ntmps71
 go_wp2_with (go_at_call 24;refine(iq X so 0 sc _ h).mono ?_;rintro e w' ⟨rfl,rfl⟩)
 go_end0
 exact⟨rfl,rfl⟩
theorem Tryz.Kr:Tryz.prog.underlying 60=some (.array 8 58):=by kernel_rfl
theorem Tryz.Sm:Tryz.prog.underlying 58=some (.int .u8):=by kernel_rfl
theorem Ak (d:List Nat) (h:∀x∈d,x<64):ay d=((d.map UInt8.ofNat).map Extern.Stop.cell).toArray:=by
 simp only[ay,List.map_map];congr 1
 refine List.map_congr_left (fun x hx=>?_)
 have:=h x hx
 simp[Extern.Stop.cell,UInt8.toNat_ofNat',Nat.mod_eq_of_lt (show x<256 by omega)]
theorem bytes_inj:∀(a b:List Nat),(∀x∈a,x<64)->(∀x∈b,x<64)->a.map UInt8.ofNat=b.map UInt8.ofNat->a=b
 | [],[],_,_,_=>rfl
 | [],_::_,_,_,h=>by simp at h
 | _::_,[],_,_,h=>by simp at h
 | x::a,y::b,ha,hb,h=>by
  simp only[List.map_cons,List.cons.injEq] at h;have h1:=congrArg UInt8.toNat h.1;have hx:=ha x (by simp)
  have hy:=hb y (by simp)
  rw[UInt8.toNat_ofNat',UInt8.toNat_ofNat',Nat.mod_eq_of_lt (by omega),Nat.mod_eq_of_lt (by omega)] at h1
  rw[h1,bytes_inj a b (fun z hz=>ha z (by simp[hz])) (fun z hz=>hb z (by simp[hz])) h.2]
theorem GR (a b:List Nat) (ha:a.length=8) (hb:b.length=8) (ha6:∀x∈a,x<64) (hb6:∀x∈b,x<64) (w:World):
  (binOp .eql 60 (.agg (ay a)) (.agg (ay b))).run Tryz.prog w= .ok (.bool (decide (a=b))) w:=by
 rw[Ak a ha6,Ak b hb6,run_eql_bytes w 60 58 8 Tryz.Kr Tryz.Sm (fun w=>by kernel_rfl) _ _ (by simpa using ha) (by simpa using hb)]
 congr 2
 rw[Bool.eq_iff_iff];simp only[beq_iff_eq,decide_eq_true_eq];exact⟨bytes_inj a b ha6 hb6,fun h=>by rw[h]⟩
theorem Df (az tv:Value) (l:Rest) (d0 d1 d2 d3 d4 d5 d6 d7 n0 n1 n2 n3 n4 n5 n6 n7:Nat):
  (((((((((ah az [d0,d1,d2,d3,d4,d5,d6,d7] tv l).setIfInBounds 1 (Value.int .u8 (n0:Int))).setIfInBounds 2 (Value.int .u8 (n1:Int))).setIfInBounds 3 (Value.int .u8 (n2:Int))).setIfInBounds 4 (Value.int .u8 (n3:Int))).setIfInBounds 5 (Value.int .u8 (n4:Int))).setIfInBounds 6 (Value.int .u8 (n5:Int))).setIfInBounds 7 (Value.int .u8 (n6:Int))).setIfInBounds 8 (Value.int .u8 (n7:Int)))=ah az [n0,n1,n2,n3,n4,n5,n6,n7] tv l:=by
 simp[ah]
theorem aen {n0 n1 n2 n3 n4 n5 n6 n7:Nat} {v0 v1 v2 v3 v4 v5 v6 v7:Value} (h:ay [n0,n1,n2,n3,n4,n5,n6,n7]=#[v0,v1,v2,v3,v4,v5,v6,v7]):
  v0= .int .u8 (n0:Int)/\v1= .int .u8 (n1:Int)/\v2= .int .u8 (n2:Int)/\v3= .int .u8 (n3:Int)/\v4= .int .u8 (n4:Int)/\v5= .int .u8 (n5:Int)/\v6= .int .u8 (n6:Int)/\v7= .int .u8 (n7:Int):=by
 simp only[ay,List.map_cons,List.map_nil] at h;injection h with h
 simp only[List.cons.injEq,and_true] at h;obtain⟨h0,h1,h2,h3,h4,h5,h6,h7⟩:=h;exact⟨h0.symm,h1.symm,h2.symm,h3.symm,h4.symm,h5.symm,h6.symm,h7.symm⟩
theorem uu (az:Value) (d:List Nat) (tv:Value) (l:Rest) (h8:d.length=8) (n:List Nat) {v0 v1 v2 v3 v4 v5 v6 v7:Value} (hn:ay n=#[v0,v1,v2,v3,v4,v5,v6,v7]):
  (((((((((ah az d tv l).setIfInBounds 1 v0).setIfInBounds 2 v1).setIfInBounds 3 v2).setIfInBounds 4 v3).setIfInBounds 5 v4).setIfInBounds 6 v5).setIfInBounds 7 v6).setIfInBounds 8 v7)=ah az n tv l:=by
 have hl:n.length=8:=by have:=congrArg Array.size hn;simpa[ay] using this
 obtain⟨d0,d1,d2,d3,d4,d5,d6,d7,hd'⟩:=nZ h8;obtain⟨n0,n1,n2,n3,n4,n5,n6,n7,hn'⟩:=nZ hl;have key:v0= .int .u8 (n0:Int)/\v1= .int .u8 (n1:Int)/\v2= .int .u8 (n2:Int)/\v3= .int .u8 (n3:Int)/\v4= .int .u8 (n4:Int)/\v5= .int .u8 (n5:Int)/\v6= .int .u8 (n6:Int)/\v7= .int .u8 (n7:Int):=aen (hn'▸hn);obtain⟨rfl,rfl,rfl,rfl,rfl,rfl,rfl,rfl⟩:=key;rw[hd',hn'];exact Df ..
theorem vX {w:World} {X:Nat} {az:Value} {d:List Nat} {tv:Value} {l:Rest} {e:TypeId} (h:af w X (ah az d tv l) e) {v0 v1 v2 v3 v4 v5 v6 v7:Value} (hd8:ay d=#[v0,v1,v2,v3,v4,v5,v6,v7]):
  w.cell? ⟨X,1,none⟩=some v0/\w.cell? ⟨X,2,none⟩=some v1/\w.cell? ⟨X,3,none⟩=some v2/\w.cell? ⟨X,4,none⟩=some v3/\w.cell? ⟨X,5,none⟩=some v4/\w.cell? ⟨X,6,none⟩=some v5/\w.cell? ⟨X,7,none⟩=some v6/\w.cell? ⟨X,8,none⟩=some v7:=by
 have hs:d.length=8:=by have:=congrArg Array.size hd8;simpa[ay] using this
 have hg:∀i,i<8->w.cell? ⟨X,1+i,none⟩=(ay d)[i]?:=fun i hi=>(h.cell _).trans ((jg az d tv l i (by omega)).trans (dh d i (by omega)).symm)
 rw[hd8] at hg;exact⟨hg 0 (by omega),hg 1 (by omega),hg 2 (by omega),hg 3 (by omega),hg 4 (by omega),hg 5 (by omega),hg 6 (by omega),hg 7 (by omega)⟩
end Go.Proofs.YtkjfpdfkcfgfkaaGreat
namespace Go.Proofs.YtkjfpdfkcfgfkaaGreat
open Go.RowKit
section
variable {P:Program} {ops:Array Oper} {Q:Exit->Act->World->Prop}
theorem aA {i:Nat} {o:Oper} {a:Act} {w w':World} {v:Value} {K:Act->World->Prop} (hi:ops[i]? = some o) (hw:Region.wanted o (yielded ops a.tmps)=true)
  (hr:(execOp a.eval o).run P w= .ok (.value v) w') (h:K (a.put o.dst v) w'):wpOp P ops Q i K a w:=by
 unfold wpOp;simp only[hi,hw,if_true];refine .inl ?_
 unfold Oper.wp;rw[hr];exact h
theorem dw {i:Nat} {o:Oper} {a:Act} {w w':World} {K:Act->World->Prop} (hi:ops[i]? = some o) (hw:Region.wanted o (yielded ops a.tmps)=true)
  (hr:(execOp a.eval o).run P w= .ok .skip w') (h:K (a.put o.dst undef) w'):wpOp P ops Q i K a w:=by
 unfold wpOp;simp only[hi,hw,if_true];refine .inl ?_
 unfold Oper.wp;rw[hr];exact h
theorem dF {i:Nat} {o:Oper} {a:Act} {w w':World} {f:FuncId} {args:Array Value} {K:Act->World->Prop} (hi:ops[i]? = some o) (hw:Region.wanted o (yielded ops a.tmps)=true)
  (hr:(execOp a.eval o).run P w= .ok (.enter f args) w') (h:Calls P f args w' (fun e w''=>∃v,e= .returned v/\K (a.put o.dst v) w'')):wpOp P ops Q i K a w:=by
 unfold wpOp;simp only[hi,hw,if_true];refine .inl ?_
 unfold Oper.wp;rw[hr];refine Calls.mono h (fun e w'' he=>?_)
 obtain⟨v,rfl,hk⟩:=he;exact hk
variable {md:Region.Mode} {S:World->Prop}
def gK (P:Program) (md:Region.Mode) (ops:Array Oper) (Q:Exit->Act->World->Prop) (S:World->Prop) (z:Nat):Nat->Array Bool->Act->World->Prop
 | 0,listed,a,w=>Region.ready md ops listed=[]/\Q .normal a w
 | fuel+1,listed,a,w=>(Region.ready md ops listed=[]->Q .normal a w) /\
  ∀i∈Region.ready md ops listed,wpOp P ops Q i (fun a' w'=>(i≠z->S w')/\gK P md ops Q S z fuel (listed.setIfInBounds i true) a' w') a w
theorem Am {z:Nat}:∀(fuel:Nat) (listed:Array Bool) (a:Act) (w:World),gK P md ops Q S z fuel listed a w->wpAny P md ops Q fuel listed a w
 | 0,_,_,_,h=>h
 | fuel+1,_,_,_,h=>⟨h.1,fun i hi=>wpOp_mono (fun a' w' h'=>Am fuel _ a' w' h'.2) (h.2 i hi)⟩
theorem Sr {z i:Nat} {listed:Array Bool} (hz:Region.waitsFor md ops z i=true) (hi:i∈Region.ready md ops listed):z∉Region.ready md ops listed:=by
 intro hr;obtain⟨hun,_⟩:=mem_ready.1 hi;obtain⟨oz,hoz,e,he,hb,hon⟩:=Region.waitsFor_spec hz;obtain⟨_,oz',aeo,hall⟩:=mem_ready.1 hr;obtain rfl:oz'=oz:=Option.some.inj (aeo.symm.trans hoz)
 have h2:=hall e he hb;rw[hon,getD_both hun] at h2;cases h2
theorem Kt {z i:Nat} {oi:Oper} {v:Value} (hz:Region.waitsFor md ops z i=true) (hi:ops[i]? = some oi) (hsel:∀(j:Nat) (o:Oper) cs b,ops[j]? = some o->o.op≠.select cs b)
  (hQ:∀c a w,Q (.panic c) (a.put oi.dst v) w->Q (.panic c) a w):
  ∀(fuel:Nat) (listed:Array Bool) (a:Act) (w:World),
   (∀j oj,ops[j]? = some oj->j≠i->listed.getD j true=false->(∀e∈oj.after,Region.binds md e=true->e.on≠i)->oi.apart ops oj=true) ->
   i∈Region.ready md ops listed->YieldsIf P ops S oi v a->S w ->
   gK P md ops Q S z fuel (listed.setIfInBounds i true) (a.put oi.dst v) w->gK P md ops Q S z (fuel+1) listed a w:=by
 intro fuel;induction fuel with
 | zero=>
  intro listed a w _ hr hy hS H;refine⟨fun h=>(by rw[h] at hr;cases hr),fun j hj=>?_⟩
  by_cases hji:j=i
  ·subst hji;exact hy.wpOp hi hS ⟨fun _=>hS,H⟩
  ·have:=ready_mono hj hji
   rw[H.1] at this;cases this
 | succ fuel ih=>
  intro listed a w hfree hr hy hS H;refine⟨fun h=>(by rw[h] at hr;cases hr),fun j hj=>?_⟩
  by_cases hji:j=i
  ·subst hji;exact hy.wpOp hi hS ⟨fun _=>hS,H⟩
  ·have hjz:j≠z:=fun e=>Sr hz hr (e▸hj)
   have h1:=H.2 j (ready_mono hj hji);obtain⟨hjun,oj,hoj,hall⟩:=mem_ready.1 hj;have hnot:∀e∈oj.after,Region.binds md e=true->e.on≠i:=fun e he hb heq=>by
    have h2:=hall e he hb;rw[heq,getD_both (mem_ready.1 hr).1] at h2;cases h2
   have h2:=wpOp_putIf hoj (hfree j oj hoj hji hjun hnot) (fun cs b=>hsel i oi cs b hi) (fun cs b=>hsel j oj cs b hoj) hQ hy h1
   have hfree':∀k ok,ops[k]? = some ok->k≠i->(listed.setIfInBounds j true).getD k true=false ->
     (∀e∈ok.after,Region.binds md e=true->e.on≠i)->oi.apart ops ok=true:=fun k ok hk hki hun hno=>by
    refine hfree k ok hk hki ?_ hno
    by_cases hjk:j=k
    ·subst hjk;exact hjun
    ·rw[getD_set_ne true hjk] at hun;exact hun
   refine wpOp_mono (fun a' w' h3=>⟨fun _=>h3.2.1 hjz,ih (listed.setIfInBounds j true) a' w' hfree' (ready_mono hr (Ne.symm hji)) h3.1 (h3.2.1 hjz) ?_⟩) h2
   rw[Array.setIfInBounds_comm _ _ hji];exact h3.2.2
theorem bH {z i:Nat} {oi:Oper} {v:Value} {fuel:Nat} {listed:Array Bool} {a:Act} {w:World} (hz:Region.waitsFor md ops z i=true) (hi:ops[i]? = some oi)
  (hs:Region.noSelect ops=true) (hf:Region.free md ops listed i=true) (hr:(Region.ready md ops listed).contains i=true)
  (hQ:∀c a w,Q (.panic c) (a.put oi.dst v) w->Q (.panic c) a w) (hy:YieldsIf P ops S oi v a) (hS:S w)
  (h:gK P md ops Q S z fuel (listed.setIfInBounds i true) (a.put oi.dst v) w):gK P md ops Q S z (fuel+1) listed a w:=
 Kt hz hi (Region.noSelect_spec hs) hQ fuel listed a w (Region.free_spec hi hf) (by simpa using hr) hy hS h
theorem fF {z i:Nat} {fuel:Nat} {listed:Array Bool} {a:Act} {w:World} (hr:Region.ready md ops listed=[i])
  (h:wpOp P ops Q i (fun a' w'=>(i≠z->S w')/\gK P md ops Q S z fuel (listed.setIfInBounds i true) a' w') a w):gK P md ops Q S z (fuel+1) listed a w:=
 ⟨fun h0=>(by rw[hr] at h0;cases h0),fun j hj=>by
  rw[hr] at hj;obtain rfl:j=i:=by simpa using hj
  exact h⟩
theorem pg {z:Nat} {listed:Array Bool} {a:Act} {w:World} (hr:Region.ready md ops listed=[]) (h:Q .normal a w):∀fuel,gK P md ops Q S z fuel listed a w
 | 0=>⟨hr,h⟩
 | _+1=>⟨fun _=>h,by rw[hr];simp⟩
theorem vY {id:Nat} {a:Act} {w:World} (z:Nat) (hm:P.follows .mixedOrders=true)
  (h:gK P .any ops Q S z ops.size (Array.replicate ops.size false) a w.drew):(Code.region id ops true).wp P Q a w:=
 wp_region_any hm (Am _ _ _ _ h)
theorem still_call {o:Oper} {rest:List Oper} {a:Act} {w:World} {Q':Act->Prop} {f:FuncId} {args:Array Value} (v:Value) (hw:Region.wanted o (yielded ops a.tmps)=true)
  (hr:(execOp a.eval o).run P w= .ok (.enter f args) w) (hc:Calls P f args w (fun e w''=>e= .returned v/\w''=w)) (h:wpStill P ops w Q' rest (a.put o.dst v)):wpStill P ops w Q' (o::rest) a:=by
 unfold wpStill;rw[if_pos hw];unfold Oper.still;rw[hr];exact⟨rfl,v,hc,h⟩
theorem yU {o:Oper} {rest:List Oper} {a:Act} {w:World} {Q':Act->Prop} (v:Value) (hw:Region.wanted o (yielded ops a.tmps)=true)
  (hr:(execOp a.eval o).run P w= .ok (.value v) w) (h:wpStill P ops w Q' rest (a.put o.dst v)):wpStill P ops w Q' (o::rest) a:=by
 unfold wpStill;rw[if_pos hw];unfold Oper.still;rw[hr];exact⟨rfl,h⟩
end
end Go.Proofs.YtkjfpdfkcfgfkaaGreat
namespace Go.Proofs.YtkjfpdfkcfgfkaaGreat
open Go.RowKit Go.Shelf
attribute [local go_sem] Oper.semAt_some
def fZ (vars:List Int) (dn sp:List Nat) (i:Nat):Nat->List Nat
 | 0=>sp
 | j+1=>(fZ vars dn sp i j).set (vars.getD (i+j) 0).toNat (dn.getD (vars.getD (i+j) 0).toNat 0)
def jm (f:Nat->List Nat->Bool×List Nat) (br:List Nat) (i rows q:Nat) (st:Bool×List Nat) (v:Nat):Bool×List Nat:=
 if (f (rows &&& br.getD (6*i+v) 0) st.2).1 then (true,(f (rows &&& br.getD (6*i+v) 0) st.2).2.set q ((f (rows &&& br.getD (6*i+v) 0) st.2).2.getD q 0 ||| 2^v)) else (st.1,(f (rows &&& br.getD (6*i+v) 0) st.2).2)
def vN (br:List Nat) (vars:List Int) (dn:List Nat):Nat->Nat->Nat->List Nat->Bool×List Nat
 | 0,i,rows,sp=>if rows=0 then (true,fZ vars dn sp i (vars.length-i)) else (false,sp)
 | m+1,i,rows,sp=>if rows=0 then (true,fZ vars dn sp i (vars.length-i)) else
   (vals (dn.getD (vars.getD i 0).toNat 0)).foldl (jm (vN br vars dn m (i+1)) br i rows (vars.getD i 0).toNat) (false,sp)
theorem iw (vars:List Int) (dn sp:List Nat) (i:Nat):∀j,(fZ vars dn sp i j).length=sp.length
 | 0=>rfl
 | j+1=>by simp[fZ,iw vars dn sp i j]
theorem oh {l:List Nat} {q x:Nat} {b:Nat} (hl:∀p,l.getD p 0<b) (hx:x<b):∀p,(l.set q x).getD p 0<b:=by
 intro p;have h1:=hl p;simp only[List.getD,List.getElem?_set] at h1 ⊢
 split
 ·split
  ·exact hx
  ·simp only[Option.getD_none];omega
 ·exact h1
theorem rF (vars:List Int) (dn sp:List Nat) (i:Nat) (hd:∀q,dn.getD q 0<64) (hs:∀q,sp.getD q 0<64):∀j q,(fZ vars dn sp i j).getD q 0<64
 | 0,q=>hs q
 | j+1,q=>oh (rF vars dn sp i hd hs j) (hd _) q
theorem lu {α β:Type} (R:β->Prop) (f:β->α->β):∀(l:List α) (b:β),(∀b a,a∈l->R b->R (f b a))->R b->R (l.foldl f b)
 | [],_,_,hb=>hb
 | a::l,b,h,hb=>lu R f l (f b a) (fun b' a' ha=>h b' a' (List.mem_cons_of_mem _ ha)) (h b a (List.mem_cons_self ..) hb)
theorem ET (br:List Nat) (vars:List Int) (dn:List Nat) (hd:∀q,dn.getD q 0<64):∀(m i rows:Nat) (sp:List Nat),(∀q,sp.getD q 0<64) ->
  (vN br vars dn m i rows sp).2.length=sp.length/\∀q,(vN br vars dn m i rows sp).2.getD q 0<64
 | 0,i,rows,sp,hs=>by
  unfold vN;split
  ·exact⟨iw _ _ _ _ _,rF _ _ _ _ hd hs _⟩
  ·exact⟨rfl,hs⟩
 | m+1,i,rows,sp,hs=>by
  unfold vN;split
  ·exact⟨iw _ _ _ _ _,rF _ _ _ _ hd hs _⟩
  ·refine lu (fun st:Bool×List Nat=>st.2.length=sp.length/\∀q,st.2.getD q 0<64) _ _ _ (fun st v hv hst=>?_) ⟨rfl,hs⟩
   have hv6:v<6:=fE (hd _) hv;have ih:=ET br vars dn hd m (i+1) (rows &&& br.getD (6*i+v) 0) st.2 hst.2;unfold jm;split
   ·refine⟨by rw[List.length_set];exact ih.1.trans hst.1,oh ih.2 ?_⟩
    exact Nat.or_lt_two_pow (n:=6) (ih.2 _) (Nat.pow_lt_pow_right (by omega) hv6)
   ·exact⟨ih.1.trans hst.1,ih.2⟩
theorem tY (w:World) (o:Obj):(w.alloc o).heap.size=w.heap.size+1:=by simp
structure Ap (A:World) (T G i rows Dm Sp:Nat):Prop where
 b0:af A T #[.pointer (some ⟨G,0,none⟩)] 91
 b1:af A (T+1) #[.int .i64 (i:Int)] 3
 b2:af A (T+1+1) #[.int .u64 (rows:Int)] 127
 b3:af A (T+1+1+1) #[.pointer (some ⟨Dm,0,none⟩)] 116
 b4:af A (T+1+1+1+1) #[.pointer (some ⟨Sp,0,none⟩)] 116
theorem Ap.fr {S:Nat->Prop} {A B:World} {T G i rows Dm Sp:Nat} (h:Ap A T G i rows Dm Sp) (f:Fr S A B) (hn:∀k,T<=k->k<=T+4->¬S k):Ap B T G i rows Dm Sp:=
 ⟨h.b0.fr f (hn _ (by omega) (by omega)),h.b1.fr f (hn _ (by omega) (by omega)),h.b2.fr f (hn _ (by omega) (by omega)),h.b3.fr f (hn _ (by omega) (by omega)),h.b4.fr f (hn _ (by omega) (by omega))⟩
theorem Ap.bk {lo:Nat} {A B:World} {T G i rows Dm Sp:Nat} (h:Ap A T G i rows Dm Sp) (hb:Bk lo A B):Ap B T G i rows Dm Sp:=⟨h.b0.bk hb,h.b1.bk hb,h.b2.bk hb,h.b3.bk hb,h.b4.bk hb⟩
def boxed (w:World) (G i rows Dm Sp:Nat):World:=((((w.alloc (.cells #[.pointer (some ⟨G,0,none⟩)] 91)).alloc (.cells #[.int .i64 (i:Int)] 3)).alloc (.cells #[.int .u64 (rows:Int)] 127)).alloc (.cells #[.pointer (some ⟨Dm,0,none⟩)] 116)).alloc (.cells #[.pointer (some ⟨Sp,0,none⟩)] 116)
theorem Aq (w:World) (G i rows Dm Sp:Nat):Nw w (boxed w G i rows Dm Sp):=(((((Fr.refl _ w).alloc _).alloc _).alloc _).alloc _).alloc _
theorem yh (w:World) (G i rows Dm Sp:Nat):Ap (boxed w G i rows Dm Sp) w.heap.size G i rows Dm Sp:=by
 refine⟨((((af.new w _ _).alloc _).alloc _).alloc _).alloc _,?_,?_,?_,?_⟩
 ·have:=(((af.new (w.alloc (.cells #[.pointer (some ⟨G,0,none⟩)] 91)) #[.int .i64 (i:Int)] 3).alloc (.cells #[.int .u64 (rows:Int)] 127)).alloc (.cells #[.pointer (some ⟨Dm,0,none⟩)] 116)).alloc (.cells #[.pointer (some ⟨Sp,0,none⟩)] 116)
  simp only[tY] at this;exact this
 ·have:=((af.new ((w.alloc (.cells #[.pointer (some ⟨G,0,none⟩)] 91)).alloc (.cells #[.int .i64 (i:Int)] 3)) #[.int .u64 (rows:Int)] 127).alloc (.cells #[.pointer (some ⟨Dm,0,none⟩)] 116)).alloc (.cells #[.pointer (some ⟨Sp,0,none⟩)] 116)
  simp only[tY] at this;exact this
 ·have:=(af.new (((w.alloc (.cells #[.pointer (some ⟨G,0,none⟩)] 91)).alloc (.cells #[.int .i64 (i:Int)] 3)).alloc (.cells #[.int .u64 (rows:Int)] 127)) #[.pointer (some ⟨Dm,0,none⟩)] 116).alloc (.cells #[.pointer (some ⟨Sp,0,none⟩)] 116)
  simp only[tY] at this;exact this
 ·have:=af.new ((((w.alloc (.cells #[.pointer (some ⟨G,0,none⟩)] 91)).alloc (.cells #[.int .i64 (i:Int)] 3)).alloc (.cells #[.int .u64 (rows:Int)] 127)).alloc (.cells #[.pointer (some ⟨Dm,0,none⟩)] 116)) #[.pointer (some ⟨Sp,0,none⟩)] 116
  simp only[tY] at this;exact this
set_option maxRecDepth 1000000 in
theorem GU (G g cap Dm Sp:Nat) (nt:Bool) (br:List Nat) (live:Nat) (vars:List Int) (dn sp:List Nat) (i:Nat) (w:World) (hG:af w G (bf (.slice (some ⟨g,0,none⟩) vars.length cap) nt br live) 131)
  (hvs:Row w (.slice (some ⟨g,0,none⟩) vars.length cap) 3 (vars.map (Value.int .i64))) (yg:af w Dm (ay dn) 60) (hSp:af w Sp (ay sp) 60) (hne:Sp≠Dm)
  (h8:dn.length=8) (hs8:sp.length=8) (h4:vars.length<=4) (hv:∀i,i<vars.length->0<=vars.getD i 0/\vars.getD i 0<8) (hi:i<=vars.length) (hcap:vars.length<=cap):
  Calls Tryz.prog 127 #[.pointer (some ⟨G,0,none⟩),.int .i64 i,.int .u64 0,.pointer (some ⟨Dm,0,none⟩),.pointer (some ⟨Sp,0,none⟩)] w fun e w'=>e= .returned (.bool true)/\Fr (fun k=>k=Sp) w w' /\
   af w' Sp (ay (fZ vars dn sp i (vars.length-i))) 60:=by
 have uI:=hG.lt;have abB:=hSp.lt;have hDlt:=yg.lt;have OZ:g<w.heap.size:=hvs.lt rfl;have hSG:Sp≠G:=fun e=>by subst e;have:=(hSp.inj hG).2;revert this;decide
 have hSg:Sp≠g:=fun e=>by subst e;exact hvs.ne hSp (by decide) rfl
 obtain⟨W,hW⟩:∃W,W=boxed w G i 0 Dm Sp:=⟨_,rfl⟩;have dM:Nw w W:=by rw[hW];exact Aq ..
 have hbx:Ap W w.heap.size G i 0 Dm Sp:=by rw[hW];exact yh ..
 have HG:=hd (hG.nw dM);have zV:=hd (hvs.nw dM);have HD:=hd (yg.nw dM);have HS:=hd (hSp.nw dM);have DU:=hd hbx;have HW:=hd hW;have a0:W.cell? ⟨w.heap.size,0,none⟩=some (.pointer (some ⟨G,0,none⟩)):=hbx.b0.cell 0
 have a1:W.cell? ⟨w.heap.size+1,0,none⟩=some (.int .i64 (i:Int)):=hbx.b1.cell 0
 have a2:W.cell? ⟨w.heap.size+1+1,0,none⟩=some (.int .u64 0):=hbx.b2.cell 0
 have aG:W.cell? ⟨G,0,none⟩=some (.slice (some ⟨g,0,none⟩) vars.length cap):=HG.out.cell 0
 have hi0:(0:Int)<=(i:Int):=by omega
 have hin:(i:Int)<=(vars.length:Int):=by omega
 have hic:(vars.length:Int)<=(cap:Int):=by omega
 clear hG hvs yg hSp hW hbx;go_enter Tryz.func127,Tryz.ntmps127
 go_upto_region 1 with fail
 rw[show ((((w.alloc (.cells #[.pointer (some ⟨G,0,none⟩)] 91)).alloc (.cells #[.int .i64 (i:Int)] 3)).alloc (.cells #[.int .u64 0] 127)).alloc (.cells #[.pointer (some ⟨Dm,0,none⟩)] 116)).alloc (.cells #[.pointer (some ⟨Sp,0,none⟩)] 116)=W from HW.out.symm]
 clear HW;go_upto_region 2 with fail
 go_quiet (fail)
 obtain⟨ao,hao⟩:∃ao,(if cap=i then some (⟨g,0,none⟩:Addr) else some ⟨g,i,none⟩)=ao:=⟨_,rfl⟩
 rw[hao];have Hao:Hid (i<vars.length->ao=some ⟨g,i,none⟩):=fun h=>by rw[<-hao,if_neg (by omega)]
 clear hao a0 a1 a2 aG;simp only[Exit.then]
 go_wp2_with fail
 go_loopw [26] (fun p wr=>∃k:Nat,k<=vars.length-i/\p= .int .i64 k/\Fr (fun j=>j=Sp) W wr/\Hid (af wr Sp (ay (fZ vars dn sp i k)) 60)) (fun p _=>vars.length-i-(intOf p).toNat)
 case atStart=>exact⟨0,Nat.zero_le _,rfl,(Fr.refl _ W).drewN _,HS.out.drewN _⟩
 case round=>
  obtain⟨k,hk,rfl,hf,hbS⟩:=hrel;by_cases hlt:k<vars.length-i
  ·have hao:=Hao.out (by omega)
   subst hao;have hik:i+k<vars.length:=by omega
   have hvr:=zV.out.fr hf (fun j hj e=>hSg (by cases hj;exact e.symm))
   have hck:=(hvr.at_ (i+k) (by simpa using hik)).1
   simp only[List.getElem_map] at hck;obtain⟨hv0,jv⟩:=hv (i+k) hik;have hgd:vars.getD (i+k) 0=vars[i+k]:=by simp[hik]
   rw[hgd] at hv0 jv;obtain⟨q,hq⟩:∃q:Nat,vars[i+k]=(q:Int):=⟨vars[i+k].toNat,by omega⟩
   rw[hq] at hck hv0 jv;have hnext:fZ vars dn sp i (k+1)=(fZ vars dn sp i k).set q (dn.getD q 0):=by
    simp only[fZ];rw[hgd,hq,Int.toNat_natCast]
   have hbr:=DU.out.fr hf (fun j h1 h2=>by omega)
   have a3:wr.cell? ⟨w.heap.size+1+1+1,0,none⟩=some (.pointer (some ⟨Dm,0,none⟩)):=hbr.b3.cell 0
   have a4:wr.cell? ⟨w.heap.size+1+1+1+1,0,none⟩=some (.pointer (some ⟨Sp,0,none⟩)):=hbr.b4.cell 0
   have hDr:=HD.out.fr hf (fun e=>hne e.symm)
   have aD:wr.cell? ⟨Dm,q,none⟩=some (.int .u8 (dn.getD q 0:Nat)):=(hDr.cell q).trans (dh dn q (by omega))
   obtain⟨xv,aS⟩:∃xv,wr.cell? ⟨Sp,q,none⟩=some xv:=⟨_,(hbS.out.cell q).trans (dh _ q (by rw[iw];omega))⟩
   have fS:=hbS.out.free q;obtain⟨y,hy⟩:∃y,dn.getD q 0=y:=⟨_,rfl⟩;rw[hy] at aD hnext;have gY:=hd hnext;clear hvr hgd hq hnext hbr hDr hy;go_wp2_with fail
   go_still_tail 9,(by kernel_rfl)
   go_wp2
   refine⟨⟨k+1,by omega,by go_num,(hf.setCell _ _ (.inl rfl)).drew,?_⟩,by simp[intOf];omega⟩
   show af _ _ _ _
   rw[gY.out,<-ry];exact(hbS.out.set q _).drew
  ·obtain rfl:k=vars.length-i:=by omega
   go_wp2
   go_ret
   exact⟨rfl,(dM.mono (fun i h=>h.elim)).trans hf (fun i h=>.inl h),hbS.out⟩
set_option maxRecDepth 1000000 in
theorem WO (G g cap Dm Sp:Nat) (nt:Bool) (br:List Nat) (live rows:Nat) (vars:List Int) (w:World) (hG:af w G (bf (.slice (some ⟨g,0,none⟩) vars.length cap) nt br live) 131) (hr:rows≠0):
  Calls Tryz.prog 127 #[.pointer (some ⟨G,0,none⟩),.int .i64 (vars.length:Nat),.int .u64 rows,.pointer (some ⟨Dm,0,none⟩),.pointer (some ⟨Sp,0,none⟩)] w fun e w'=>e= .returned (.bool false)/\Nw w w':=by
 have uI:=hG.lt;obtain⟨W,hW⟩:∃W,W=boxed w G vars.length rows Dm Sp:=⟨_,rfl⟩;have dM:Nw w W:=by rw[hW];exact Aq ..
 have hbx:Ap W w.heap.size G vars.length rows Dm Sp:=by rw[hW];exact yh ..
 have HW:=hd hW;have a0:W.cell? ⟨w.heap.size,0,none⟩=some (.pointer (some ⟨G,0,none⟩)):=hbx.b0.cell 0
 have a1:W.cell? ⟨w.heap.size+1,0,none⟩=some (.int .i64 (vars.length:Int)):=hbx.b1.cell 0
 have a2:W.cell? ⟨w.heap.size+1+1,0,none⟩=some (.int .u64 (rows:Int)):=hbx.b2.cell 0
 have aG:W.cell? ⟨G,0,none⟩=some (.slice (some ⟨g,0,none⟩) vars.length cap):=(hG.nw dM).cell 0
 have hr0:((rows:Int)==0)=false:=by simp;omega
 clear hG hW hbx;go_enter Tryz.func127,Tryz.ntmps127
 go_upto_region 1 with fail
 rw[show ((((w.alloc (.cells #[.pointer (some ⟨G,0,none⟩)] 91)).alloc (.cells #[.int .i64 (vars.length:Int)] 3)).alloc (.cells #[.int .u64 (rows:Int)] 127)).alloc (.cells #[.pointer (some ⟨Dm,0,none⟩)] 116)).alloc (.cells #[.pointer (some ⟨Sp,0,none⟩)] 116)=W from HW.out.symm]
 clear HW;go_upto_region 8 with fail
 go_quiet (fail)
 simp only[Exit.then]
 go_wp2
 go_ret
 exact⟨rfl,dM.drewN _⟩
end Go.Proofs.YtkjfpdfkcfgfkaaGreat
namespace Go.Proofs.YtkjfpdfkcfgfkaaGreat
open Go.RowKit Go.Shelf
attribute [local go_sem] Oper.semAt_some
def Yt (G g cap Dm Sp:Nat) (nt:Bool) (br:List Nat) (live:Nat) (vars:List Int) (dn:List Nat) (m i:Nat):Prop:=∀(rows:Nat) (sp:List Nat) (w:World),rows<18446744073709551616->sp.length=8->(∀q,sp.getD q 0<64) ->
 af w G (bf (.slice (some ⟨g,0,none⟩) vars.length cap) nt br live) 131->Row w (.slice (some ⟨g,0,none⟩) vars.length cap) 3 (vars.map (Value.int .i64))->af w Dm (ay dn) 60->af w Sp (ay sp) 60 ->
 Calls Tryz.prog 127 #[.pointer (some ⟨G,0,none⟩),.int .i64 i,.int .u64 rows,.pointer (some ⟨Dm,0,none⟩),.pointer (some ⟨Sp,0,none⟩)] w fun e w'=>e= .returned (.bool (vN br vars dn m i rows sp).1)/\Fr (fun k=>k=Sp) w w' /\
  af w' Sp (ay (vN br vars dn m i rows sp).2) 60
structure Ar (w wr:World) (G g cap Dm Sp i rows F V:Nat) (nt:Bool) (br:List Nat) (live:Nat) (vars:List Int) (dn:List Nat) (q:Nat) (st:Bool×List Nat):Prop where
 fr:Fr (fun k=>k=Sp) w wr
 bG:af wr G (bf (.slice (some ⟨g,0,none⟩) vars.length cap) nt br live) 131
 rv:Row wr (.slice (some ⟨g,0,none⟩) vars.length cap) 3 (vars.map (Value.int .i64))
 bD:af wr Dm (ay dn) 60
 bS:af wr Sp (ay st.2) 60
 bx:Ap wr w.heap.size G i rows Dm Sp
 bF:af wr F #[.bool st.1] 4
 bV:af wr V #[.int .i64 (q:Int)] 3
theorem Ar.bk {w wr wx:World} {G g cap Dm Sp i rows F V lo:Nat} {nt:Bool} {br:List Nat} {live:Nat} {vars:List Int} {dn:List Nat} {q:Nat} {st:Bool×List Nat} (h:Ar w wr G g cap Dm Sp i rows F V nt br live vars dn q st) (hb:Bk lo wr wx) (hl:w.heap.size<=lo):
  Ar w wx G g cap Dm Sp i rows F V nt br live vars dn q st:=⟨h.fr.bk hb hl,h.bG.bk hb,h.rv.bk hb,h.bD.bk hb,h.bS.bk hb,h.bx.bk hb,h.bF.bk hb,h.bV.bk hb⟩
theorem Ar.drew {w wr:World} {G g cap Dm Sp i rows F V:Nat} {nt:Bool} {br:List Nat} {live:Nat} {vars:List Int} {dn:List Nat} {q:Nat} {st:Bool×List Nat} (h:Ar w wr G g cap Dm Sp i rows F V nt br live vars dn q st):
  Ar w wr.drew G g cap Dm Sp i rows F V nt br live vars dn q st:=⟨h.fr.drew,h.bG,h.rv.drew,h.bD,h.bS,⟨h.bx.b0,h.bx.b1,h.bx.b2,h.bx.b3,h.bx.b4⟩,h.bF,h.bV⟩
set_option maxRecDepth 1000000 in
theorem Zq (G g cap Dm Sp:Nat) (nt:Bool) (br:List Nat) (live:Nat) (vars:List Int) (dn:List Nat) (m i:Nat) (hne:Sp≠Dm)
  (h8:dn.length=8) (sN:br.length=24) (hbr:∀j,br.getD j 0<18446744073709551616) (h4:vars.length<=4) (hv:∀i,i<vars.length->0<=vars.getD i 0/\vars.getD i 0<8) (aX:∀q,dn.getD q 0<64)
  (hi:i<vars.length) (ih:Yt G g cap Dm Sp nt br live vars dn m (i+1)) (rows:Nat) (sp:List Nat) (w:World) (hr:rows≠0) (Su:rows<18446744073709551616) (hs8:sp.length=8) (zM:∀q,sp.getD q 0<64)
  (hG:af w G (bf (.slice (some ⟨g,0,none⟩) vars.length cap) nt br live) 131) (hvs:Row w (.slice (some ⟨g,0,none⟩) vars.length cap) 3 (vars.map (Value.int .i64))) (yg:af w Dm (ay dn) 60) (hSp:af w Sp (ay sp) 60):
  Calls Tryz.prog 127 #[.pointer (some ⟨G,0,none⟩),.int .i64 i,.int .u64 rows,.pointer (some ⟨Dm,0,none⟩),.pointer (some ⟨Sp,0,none⟩)] w fun e w'=>e= .returned (.bool (vN br vars dn (m+1) i rows sp).1)/\Fr (fun k=>k=Sp) w w' /\
   af w' Sp (ay (vN br vars dn (m+1) i rows sp).2) 60:=by
 have hmf:∀(fn:Fn) (first cap:Array Value) (w:World),(Instr.makeFunc fn first cap).run Tryz.prog w= .ok (.func fn first cap) w:=fun _ _ _ _=>rfl
 have uI:=hG.lt;have abB:=hSp.lt;have hDlt:=yg.lt;have OZ:g<w.heap.size:=hvs.lt rfl;have hSG:Sp≠G:=fun e=>by subst e;have:=(hSp.inj hG).2;revert this;decide
 have hSg:Sp≠g:=fun e=>by subst e;exact hvs.ne hSp (by decide) rfl
 obtain⟨hv0,jv⟩:=hv i hi;obtain⟨q,hq⟩:∃q:Nat,vars.getD i 0=(q:Int):=⟨(vars.getD i 0).toNat,by omega⟩
 rw[hq] at hv0 jv;have hq8:q<8:=by omega
 have hunc:vN br vars dn (m+1) i rows sp=(vals (dn.getD q 0)).foldl (jm (vN br vars dn m (i+1)) br i rows q) (false,sp):=by
  rw[vN,if_neg hr,hq,Int.toNat_natCast]
 rw[hunc];obtain⟨sx,mM⟩:∃sx,dn.getD q 0=sx:=⟨_,rfl⟩;have hsx:=aX q;rw[mM] at hsx ⊢;have Ku:=hd mM;clear mM;have hr0:((rows:Int)==0)=false:=by simp;omega
 have hin0:((i:Int)==(vars.length:Int))=false:=by simp;omega
 obtain⟨W,hW⟩:∃W,W=boxed w G i rows Dm Sp:=⟨_,rfl⟩;have dM:Nw w W:=by rw[hW];exact Aq ..
 have hbx:Ap W w.heap.size G i rows Dm Sp:=by rw[hW];exact yh ..
 have hsW:W.heap.size=w.heap.size+5:=by rw[hW];simp[boxed]
 have a0:W.cell? ⟨w.heap.size,0,none⟩=some (.pointer (some ⟨G,0,none⟩)):=hbx.b0.cell 0
 have a1:W.cell? ⟨w.heap.size+1,0,none⟩=some (.int .i64 (i:Int)):=hbx.b1.cell 0
 have aG:W.cell? ⟨G,0,none⟩=some (.slice (some ⟨g,0,none⟩) vars.length cap):=(hG.nw dM).cell 0
 have HG:=hd (hG.nw dM);have zV:=hd (hvs.nw dM);have HD:=hd (yg.nw dM);have HS:=hd (hSp.nw dM);have DU:=hd hbx;have HW:=hd hW;have uq:=hd hsW;have Hq:=hd hq;clear hG hvs yg hSp hbx hW hsW hunc hq;refine(callsIn_wide (n:=9)).1 ?_
 refine callsIn_of_wp_marks Tryz.func127 rfl trivial ?_ rfl
 simp only[Tryz.ntmps127,List.size_toArray,List.length_cons,List.length_nil,Nat.reduceAdd,Nat.reduceSub,Array.replicate_succ,Array.replicate_zero,List.push_toArray,List.append_toArray,List.nil_append,List.cons_append];gi_wp2_with fail
 rw[show ((((w.alloc (.cells #[.pointer (some ⟨G,0,none⟩)] 91)).alloc (.cells #[.int .i64 (i:Int)] 3)).alloc (.cells #[.int .u64 (rows:Int)] 127)).alloc (.cells #[.pointer (some ⟨Dm,0,none⟩)] 116)).alloc (.cells #[.pointer (some ⟨Sp,0,none⟩)] 116)=W from HW.out.symm]
 clear HW;refine wpIn_wide.2 ?_
 go_still (by kernel_rfl)
 go_wp2
 gi_wp2_with fail
 obtain⟨U,hU⟩:∃U,U=(W.alloc (.cells #[.bool false] 4)).drew:=⟨_,rfl⟩;have iR:Nw W U:=by rw[hU];exact((Fr.refl _ W).alloc _).drew
 have xO:af U W.heap.size #[.bool false] 4:=by rw[hU];exact(af.new _ _ _).drew
 have Yu:U.heap.size=W.heap.size+1:=by rw[hU];exact tY _ _
 rw[<-hU];have Yw:=hd Yu;clear Yu;have Kv:U.cell? ⟨g,i,none⟩=some (.int .i64 (q:Int)):=by
  have h1:=((zV.out.nw iR).at_ i (by simpa using hi)).1
  simp only[List.getElem_map] at h1;rw[h1,<-Hq.out];simp[hi]
 have hK0:af U.drew w.heap.size #[.pointer (some ⟨G,0,none⟩)] 91/\af U.drew (w.heap.size+1) #[.int .i64 (i:Int)] 3/\U.drew.cell? ⟨G,0,none⟩=some (.slice (some ⟨g,0,none⟩) vars.length cap)/\U.drew.cell? ⟨g,i,none⟩=some (.int .i64 (q:Int)):=
  ⟨(DU.out.b0.nw iR).drew,(DU.out.b1.nw iR).drew,(HG.out.nw iR).cell 0,Kv⟩
 clear hU;refine wpIn_wide.2 ?_
 refine wp_region_noPanic ?_
 refine wp_region_held (S:=fun w''=>af w'' w.heap.size #[.pointer (some ⟨G,0,none⟩)] 91/\af w'' (w.heap.size+1) #[.int .i64 (i:Int)] 3/\w''.cell? ⟨G,0,none⟩=some (.slice (some ⟨g,0,none⟩) vars.length cap)/\w''.cell? ⟨g,i,none⟩=some (.int .i64 (q:Int))) (by kernel_rfl) ?_
 refine wpAnyH_take (i:=0) (v:=.pointer (some ⟨G,0,none⟩)) rfl (by kernel_rfl) (by kernel_rfl) (by kernel_rfl) (fun _ _ _ h=>h) (.inl ⟨by kernel_rfl,fun w'' hS=>?_⟩) hK0 ?_
 ·have b0:w''.cell? ⟨w.heap.size,0,none⟩=some (.pointer (some ⟨G,0,none⟩)):=hS.1.cell 0
  clear ih hv hbr aX zM hmf hK0 hr0 hin0 hS a0 a1 aG;simp only[eH,eY];go_simp
 refine wpAnyH_take (i:=1) (v:=.pointer (some ⟨G,0,none⟩)) rfl (by kernel_rfl) (by kernel_rfl) (by kernel_rfl) (fun _ _ _ h=>h) (.inl ⟨by kernel_rfl,fun w'' hS=>by kernel_rfl⟩) hK0 ?_
 refine wpAnyH_take (i:=2) (v:=.pointer (some ⟨G,0,none⟩)) rfl (by kernel_rfl) (by kernel_rfl) (by kernel_rfl) (fun _ _ _ h=>h) (.inl ⟨by kernel_rfl,fun w'' hS=>by kernel_rfl⟩) hK0 ?_
 refine wpAnyH_take (i:=3) (v:=.pointer (some ⟨G,0,none⟩)) rfl (by kernel_rfl) (by kernel_rfl) (by kernel_rfl) (fun _ _ _ h=>h) (.inl ⟨by kernel_rfl,fun w'' hS=>by kernel_rfl⟩) hK0 ?_
 refine wpAnyH_take (i:=4) (v:=.slice (some ⟨g,0,none⟩) vars.length cap) rfl (by kernel_rfl) (by kernel_rfl) (by kernel_rfl) (fun _ _ _ h=>h) (.inl ⟨by kernel_rfl,fun w'' hS=>?_⟩) hK0 ?_
 ·have b0:=hS.2.2.1;clear ih hv hbr aX zM hmf hK0 hr0 hin0 hS a0 a1 aG;simp only[Act.put,bQ,bW,bU,eH,eY,fC];go_simp
 refine wpAnyH_take (i:=5) (v:=.int .i64 (i:Int)) rfl (by kernel_rfl) (by kernel_rfl) (by kernel_rfl) (fun _ _ _ h=>h) (.inl ⟨by kernel_rfl,fun w'' hS=>?_⟩) hK0 ?_
 ·have b0:w''.cell? ⟨w.heap.size+1,0,none⟩=some (.int .i64 (i:Int)):=hS.2.1.cell 0
  clear ih hv hbr aX zM hmf hK0 hr0 hin0 hS a0 a1 aG;simp only[Act.put,bQ,bW,bU,eH,eY,fC];go_simp
 refine wpAnyH_take (i:=6) (v:=.pointer (some ⟨g,i,none⟩)) rfl (by kernel_rfl) (by kernel_rfl) (by kernel_rfl) (fun _ _ _ h=>h) (.inl ⟨by kernel_rfl,fun w'' hS=>?_⟩) hK0 ?_
 ·clear ih hv hbr aX zM hmf hK0 hr0 hin0 hS a0 a1 aG;simp only[Act.put,bQ,bW,bU,eH,eY,fC];go_simp
 refine wpAnyH_take (i:=7) (v:=.int .i64 (q:Int)) rfl (by kernel_rfl) (by kernel_rfl) (by kernel_rfl) (fun _ _ _ h=>h) (.inl ⟨by kernel_rfl,fun w'' hS=>?_⟩) hK0 ?_
 ·have b0:=hS.2.2.2;clear ih hv hbr aX zM hmf hK0 hr0 hin0 hS a0 a1 aG;simp only[Act.put,bQ,bW,bU,eH,eY,fC];go_simp
 obtain⟨Y,hY⟩:∃Y,Y=U.drew.alloc (.cells #[.int .i64 0] 3):=⟨_,rfl⟩;have rG:Nw U Y:=by rw[hY];exact((Fr.refl _ U).drew).alloc _
 have zW:af Y U.heap.size #[.int .i64 0] 3:=by rw[hY];exact af.new _ _ _
 have hgU:g<U.heap.size:=by have:=uq.out;have:=Yw.out;omega
 have hGU:G<U.heap.size:=by have:=uq.out;have:=Yw.out;omega
 refine wpAnyH_all (rs:=[8]) (by kernel_rfl) (by simp) (fun j hj=>?_)
 obtain rfl:j=8:=by simpa using hj
 refine aA (v:=.pointer (some ⟨U.heap.size,0,none⟩)) (w':=Y) rfl (by kernel_rfl) ?_ ⟨⟨(DU.out.b0.nw iR).nw rG,(DU.out.b1.nw iR).nw rG,(rG.cell hGU (fun h=>h)).trans hK0.2.2.1,(rG.cell hgU (fun h=>h)).trans Kv⟩,?_⟩
 ·rw[hY];kernel_rfl
 clear hY;have cY:Y.cell? ⟨U.heap.size,0,none⟩=some (.int .i64 0):=zW.cell 0
 have fY:=zW.free 0;obtain⟨Z,hZ⟩:∃Z,Z=Y.setCell ⟨U.heap.size,0,none⟩ (.int .i64 (q:Int)):=⟨_,rfl⟩;have qm:Nw U Z:=by rw[hZ];exact rG.setCell _ _ (.inr (Nat.le_refl _))
 have uw:af Z U.heap.size #[.int .i64 (q:Int)] 3:=by rw[hZ];exact zW.set 0 _
 refine wpAnyH_all (rs:=[9]) (by kernel_rfl) (by simp) (fun j hj=>?_)
 obtain rfl:j=9:=by simpa using hj
 refine dw (w':=Z) rfl (by kernel_rfl) ?_ ⟨⟨(DU.out.b0.nw iR).nw qm,(DU.out.b1.nw iR).nw qm,(qm.cell hGU (fun h=>h)).trans hK0.2.2.1,(qm.cell hgU (fun h=>h)).trans Kv⟩,wpAnyH_done (by kernel_rfl) (NoPanic.normal ?_) _⟩
 ·rw[hZ];clear ih hv hbr aX zM hmf hK0 hr0 hin0 a0 a1 aG hZ qm uw;simp only[Act.put,bQ,bW,bU,eH,eY,fC];go_simp
 simp only[Act.put,bQ,bW,bU,eH,eY,fC];have Yx:Nw w Z:=(dM.trans iR (fun i h=>h.elim)).trans qm (fun i h=>h.elim)
 have V6:Nw W Z:=iR.trans qm (fun i h=>h.elim)
 have hI0:Ar w Z G g cap Dm Sp i rows W.heap.size U.heap.size nt br live vars dn q (false,sp):=
  ⟨Yx.mono (fun i h=>h.elim),HG.out.nw V6,zV.out.nw V6,HD.out.nw V6,HS.out.nw V6,DU.out.fr V6 (fun k _ _ x=>x),xO.nw qm,uw⟩
 have hsZ:=uw.lt;clear hZ qm uw cY fY zW rG Yx V6 hK0 Kv a0 a1 aG;simp only[Exit.then]
 gi_wp2_with fail
 have a3:Z.cell? ⟨w.heap.size+1+1+1,0,none⟩=some (.pointer (some ⟨Dm,0,none⟩)):=hI0.bx.b3.cell 0
 have aV:Z.cell? ⟨U.heap.size,0,none⟩=some (.int .i64 (q:Int)):=hI0.bV.cell 0
 have aD:Z.cell? ⟨Dm,q,none⟩=some (.int .u8 (sx:Int)):=by rw[<-Ku.out];exact(hI0.bD.cell q).trans (dh dn q (by omega))
 have Sv:w.heap.size<=Z.heap.size:=hI0.fr.size;have HI0:=hd hI0;have hFl:W.heap.size<U.heap.size:=by have:=Yw.out;omega
 have hWl:w.heap.size+5<=W.heap.size:=by have:=uq.out;omega
 clear hI0;refine wpIn_wide.2 ?_
 go_still (by kernel_rfl)
 go_wp2
 gi_wp2_with fail
 show Code.wpIn _ _ _ _ _ _ Z.drew
 refine pX (show sx<256 by omega) rfl (by simp) (fun pre A=>Ar w A G g cap Dm Sp i rows W.heap.size U.heap.size nt br live vars dn q (pre.foldl (jm (vN br vars dn m (i+1)) br i rows q) (false,sp)))
  (fun pre A B h hb=>h.bk hb Sv) HI0.out.drew ?body ?done
 case body=>
  rintro l pre v A hpre hI
  have hmem:v∈vals sx:=hpre.subset (List.mem_append_right pre (List.mem_singleton.2 rfl));have hv6:v<6:=fE hsx hmem;obtain⟨st,hst⟩:∃st,pre.foldl (jm (vN br vars dn m (i+1)) br i rows q) (false,sp)=st:=⟨_,rfl⟩;rw[hst] at hI;have hstep:(pre++[v]).foldl (jm (vN br vars dn m (i+1)) br i rows q) (false,sp)=jm (vN br vars dn m (i+1)) br i rows q st v:=by rw[List.foldl_append,hst];rfl
  rw[hstep];have ND:st.2.length=8/\∀p,st.2.getD p 0<64:=by
   rw[<-hst];refine lu (fun st:Bool×List Nat=>st.2.length=8/\∀q,st.2.getD q 0<64) _ _ _ (fun st x hx hs=>?_) ⟨hs8,zM⟩
   have hx6:x<6:=fE hsx (hpre.subset (List.mem_append_left _ hx));have h1:=ET br vars dn aX m (i+1) (rows &&& br.getD (6*i+x) 0) st.2 hs.2;unfold jm;split
   ·refine⟨by rw[List.length_set];exact h1.1.trans hs.1,oh h1.2 ?_⟩
    exact Nat.or_lt_two_pow (n:=6) (h1.2 _) (Nat.pow_lt_pow_right (by omega) hx6)
   ·exact⟨h1.1.trans hs.1,h1.2⟩
  clear hst hstep hpre hmem;have yf:A.cell? ⟨G,2+(6*i+v),none⟩=some (.int .u64 (br.getD (6*i+v) 0:Nat)):=(hI.bG.cell _).trans (nH _ _ _ _ _ (by omega))
  rw[show 2+(6*i+v)=2+i*6+v from by omega] at yf
  have hbl:=hbr (6*i+v);have b0:A.cell? ⟨w.heap.size,0,none⟩=some (.pointer (some ⟨G,0,none⟩)):=hI.bx.b0.cell 0
  have b1:A.cell? ⟨w.heap.size+1,0,none⟩=some (.int .i64 (i:Int)):=hI.bx.b1.cell 0
  have b2:A.cell? ⟨w.heap.size+1+1,0,none⟩=some (.int .u64 (rows:Int)):=hI.bx.b2.cell 0
  have b3:A.cell? ⟨w.heap.size+1+1+1,0,none⟩=some (.pointer (some ⟨Dm,0,none⟩)):=hI.bx.b3.cell 0
  have b4:A.cell? ⟨w.heap.size+1+1+1+1,0,none⟩=some (.pointer (some ⟨Sp,0,none⟩)):=hI.bx.b4.cell 0
  obtain⟨x,hx⟩:∃x,br.getD (6*i+v) 0=x:=⟨_,rfl⟩;rw[hx] at yf hbl;have hand:=u64_and_nat rows x Su hbl;have Zr:rows &&& x<18446744073709551616:=Nat.lt_of_le_of_lt Nat.and_le_left Su;obtain⟨r,hre⟩:∃r,vN br vars dn m (i+1) (rows &&& x) st.2=r:=⟨_,rfl⟩;have qp:=ET br vars dn aX m (i+1) (rows &&& x) st.2 ND.2;rw[hre] at qp;have hus:jm (vN br vars dn m (i+1)) br i rows q st v=if r.1 then (true,r.2.set q (r.2.getD q 0 ||| 2^v)) else (st.1,r.2):=by
   unfold jm;rw[hx,hre]
  obtain⟨st',hst'⟩:∃st',jm (vN br vars dn m (i+1)) br i rows q st v=st':=⟨_,rfl⟩;rw[hst'] at hus ⊢;have yV:=hd hus;clear hst' hus;have Hc:=hd (ih (rows &&& x) st.2 A.drew Zr ND.1 ND.2 hI.bG.drew hI.rv.drew hI.bD.drew hI.bS.drew);have hi0:(0:Int)<=(i:Int):=by omega
  have hi4:(i:Int)<4:=by omega
  have hv0':(0:Int)<=(v:Int):=by omega
  have RP:(v:Int)<6:=by omega
  have abG:(0:Int)<=(q:Int):=by omega
  have abH:(q:Int)<8:=by omega
  have HI:=hd hI;have Zt:=hd hre;clear hI hx hre ih hbr hv aX a3 aV aD HI0;gi_wp2_with fail
  refine lq 15 (by kernel_rfl) (by kernel_rfl) (fun a w h=>h) ?_
  simp only[List.take_succ_cons,List.take_zero,List.drop_succ_cons,List.drop_zero];repeat still_step
  refine wpStill_nil ?_
  go_wp2_with fail
  rw[show ((i:Int)+1)=((i+1:Nat):Int) from by omega]
  refine Hc.out.mono ?_
  rw[Zt.out];rintro e A1 ⟨rfl,hf1,hS1⟩
  have dQ:Fr (fun k=>k=Sp) A A1:=hf1.gW
  have WQ:w.heap.size+5<=A.heap.size:=by have:=HI.out.bF.lt;omega
  have hI1:Ar w A1 G g cap Dm Sp i rows W.heap.size U.heap.size nt br live vars dn q (st.1,r.2):=
   ⟨HI.out.fr.trans dQ (fun i h=>.inl h),HI.out.bG.fr dQ (fun e=>hSG e.symm),HI.out.rv.fr dQ (fun k hk e=>hSg (by cases hk;exact e.symm)),HI.out.bD.fr dQ (fun e=>hne e.symm),hS1,HI.out.bx.fr dQ (fun k h1 h2=>by omega),HI.out.bF.fr dQ (by omega),HI.out.bV.fr dQ (by omega)⟩
  have abI:jV A A1:=dQ.keeps (fun k hk=>by subst hk;exact⟨_,_,HI.out.bS⟩)
  have HI1:=hd hI1;have Yy:=hd abI;have Hf1:=hd dQ;clear hI1 abI hf1 dQ hS1 b0 b1 b2 b3 yf;cases hr1:r.1 with
  | false=>
   have Hr1:=hd hr1;clear hr1;go_wp2
   gi_wp2
   refine⟨Yy.out,?_⟩
   show Ar ..
   rw[yV.out,Hr1.out];exact HI1.out
  | true=>
   have Hr1:=hd hr1;clear hr1;have b4':A1.cell? ⟨w.heap.size+1+1+1+1,0,none⟩=some (.pointer (some ⟨Sp,0,none⟩)):=HI1.out.bx.b4.cell 0
   have bV':A1.cell? ⟨U.heap.size,0,none⟩=some (.int .i64 (q:Int)):=HI1.out.bV.cell 0
   have bS':A1.cell? ⟨Sp,q,none⟩=some (.int .u8 (r.2.getD q 0:Nat)):=(HI1.out.bS.cell q).trans (dh _ _ (by have:=qp.1;have:=ND.1;show q<r.2.length;omega))
   have fS':=HI1.out.bS.free q;have bF':A1.cell? ⟨W.heap.size,0,none⟩=some (.bool st.1):=HI1.out.bF.cell 0
   have fF':=HI1.out.bF.free 0;have hacc:=qp.2 q;obtain⟨acc,Au⟩:∃acc,r.2.getD q 0=acc:=⟨_,rfl⟩;rw[Au] at bS' hacc;have hpv:2^v<64:=Nat.pow_lt_pow_right (m:=v) (n:=6) (by omega) hv6
   have hor:=u8_or_nat acc (2^v) (by omega) (by omega)
   have hone:=one_any v A1.drew (by omega)
   obtain⟨pv,CZ⟩:∃pv,2^v=pv:=⟨_,rfl⟩;rw[CZ] at hpv hor hone;have RV:=hd hone;have Zu:=hd CZ;have Sz:=hd Au;clear CZ hone Au b4;go_wp2
   gi_wp2_with fail
   refine lq 10 (by kernel_rfl) (by kernel_rfl) (fun a w h=>h) ?_
   simp only[List.take_succ_cons,List.take_zero,List.drop_succ_cons,List.drop_zero];still_step
   still_step
   still_step
   still_step
   still_step
   still_step
   still_call RV.out
   repeat still_step
   refine wpStill_nil ?_
   go_wp2
   gi_wp2
   have hSF:Sp≠W.heap.size:=by omega
   have hF:Fr (fun k=>k=Sp\/k=W.heap.size) A1 ((A1.setCell ⟨Sp,q,none⟩ (.int .u8 ((acc ||| pv:Nat):Int))).setCell ⟨W.heap.size,0,none⟩ (.bool true)).drew:=
    (((Fr.refl _ A1).setCell ⟨Sp,q,none⟩ _ (.inl (.inl rfl))).setCell ⟨W.heap.size,0,none⟩ _ (.inl (.inr rfl))).drew
   have hFA:=(Hf1.out.mono (S':=fun k=>k=Sp\/k=W.heap.size) (fun i h=>.inl (.inl h))).trans hF (fun i h=>.inl h)
   refine⟨hFA.keeps (fun k hk=>by
    rcases hk with rfl | rfl
    ·exact⟨_,_,HI.out.bS⟩
    ·exact⟨_,_,HI.out.bF⟩),?_⟩
   show Ar ..
   rw[yV.out,Hr1.out,if_pos rfl,Sz.out,Zu.out];have hA1:w.heap.size+5<=A1.heap.size:=by have:=Hf1.out.size;omega
   refine⟨HI1.out.fr.trans hF (fun k h=>h.elim .inl (fun e=>.inr (by omega))),HI1.out.bG.fr hF (fun e=>e.elim (fun e=>hSG e.symm) (fun e=>by omega)),HI1.out.rv.fr hF (fun k hk e=>by
     have e2:g=k:=by cases hk;rfl
     rcases e with e | e
     ·exact hSg (by omega)
     ·omega),HI1.out.bD.fr hF (fun e=>e.elim (fun e=>hne e.symm) (fun e=>by omega)),?_,HI1.out.bx.fr hF (fun k h1 h2=>by omega),?_,HI1.out.bV.fr hF (by omega)⟩
   ·have h5:=(HI1.out.bS.set q (.int .u8 ((acc ||| pv:Nat):Int))).other ⟨W.heap.size,0,none⟩ (.bool true) hSF
    rw[ry] at h5;exact h5.drew
   ·have h5:=((HI1.out.bF.other ⟨Sp,q,none⟩ (.int .u8 ((acc ||| pv:Nat):Int)) (fun e=>hSF e.symm)).set 0 (.bool true)).drew
    exact h5
 case done=>
  rintro D A hD hI hK
  have bF':A.cell? ⟨W.heap.size,0,none⟩=some (.bool ((vals sx).foldl (jm (vN br vars dn m (i+1)) br i rows q) (false,sp)).1):=hI.bF.cell 0
  have HI:=hd hI;clear hI ih HI0;gi_wp2
  have vT:w.heap.size<=D:=Nat.le_trans Sv hD;refine⟨by simp,.inl ⟨_,_,rfl,run_takeDeferred hK,?_⟩⟩
  exact⟨_,results_tmp rfl _ _ _,rfl,HI.out.fr.bk (Bk.put (.deferred none) vT hK rfl) (Nat.le_refl _),HI.out.bS.bk (Bk.put (.deferred none) vT hK rfl)⟩
theorem NF (G g cap Dm Sp:Nat) (nt:Bool) (br:List Nat) (live:Nat) (vars:List Int) (dn:List Nat) (hne:Sp≠Dm)
  (h8:dn.length=8) (sN:br.length=24) (hbr:∀j,br.getD j 0<18446744073709551616) (h4:vars.length<=4) (hcap:vars.length<=cap) (hv:∀i,i<vars.length->0<=vars.getD i 0/\vars.getD i 0<8) (aX:∀q,dn.getD q 0<64):
  ∀m i,i+m=vars.length->Yt G g cap Dm Sp nt br live vars dn m i
 | 0,i,hm,rows,sp,w,Su,hs8,zM,hG,hvs,yg,hSp=>by
  by_cases hr:rows=0
  ·subst hr;have:=GU G g cap Dm Sp nt br live vars dn sp i w hG hvs yg hSp hne h8 hs8 h4 hv (by omega) hcap
   simpa[vN] using this
  ·obtain rfl:i=vars.length:=by omega
   refine(WO G g cap Dm Sp nt br live rows vars w hG hr).mono ?_
   rintro e w' ⟨rfl,hf⟩
   rw[vN,if_neg hr];exact⟨rfl,hf.mono (fun i h=>h.elim),hSp.nw hf⟩
 | m+1,i,hm,rows,sp,w,Su,hs8,zM,hG,hvs,yg,hSp=>by
  by_cases hr:rows=0
  ·subst hr;have:=GU G g cap Dm Sp nt br live vars dn sp i w hG hvs yg hSp hne h8 hs8 h4 hv (by omega) hcap
   simpa[vN] using this
  ·exact Zq G g cap Dm Sp nt br live vars dn m i hne h8 sN hbr h4 hv aX (by omega) (NF G g cap Dm Sp nt br live vars dn hne h8 sN hbr h4 hcap hv aX m (i+1) (by omega)) rows sp w hr Su hs8 zM hG hvs yg hSp
end Go.Proofs.YtkjfpdfkcfgfkaaGreat
namespace Go.Proofs.YtkjfpdfkcfgfkaaGreat
open Go.RowKit
def Aw (br:List Nat) (live:Nat) (vars:List Int) (dn:List Nat):List Nat:=eu vars dn (vN br vars dn vars.length 0 (jy br live vars dn) aQ).2 vars.length
set_option maxRecDepth 1000000 in
theorem GV (G g cap:Nat) (br:List Nat) (live:Nat) (vars:List Int) (dn:List Nat) (w:World) (hG:af w G (bf (.slice (some ⟨g,0,none⟩) vars.length cap) true br live) 131)
  (hvs:Row w (.slice (some ⟨g,0,none⟩) vars.length cap) 3 (vars.map (Value.int .i64)))
  (h8:dn.length=8) (sN:br.length=24) (hbr:∀j,br.getD j 0<18446744073709551616) (hlive:live<18446744073709551616)
  (h4:vars.length<=4) (hcap:vars.length<=cap) (hv:∀i,i<vars.length->0<=vars.getD i 0/\vars.getD i 0<8) (aX:∀q,dn.getD q 0<64):
  Calls Tryz.prog 124 #[.pointer (some ⟨G,0,none⟩),.agg (ay dn)] w fun e w'=>e= .returned (.agg (ay (Aw br live vars dn)))/\Fr (fun k=>k=G) w w' /\
   af w' G (bf (.slice (some ⟨g,0,none⟩) vars.length cap) true br (jy br live vars dn)) 131:=by
 obtain⟨v0,v1,v2,v3,v4,v5,v6,v7,hdv⟩:=iV h8;have uI:=hG.lt;have OZ:g<w.heap.size:=hvs.lt rfl;have Nv:g≠G:=fun e=>by subst e;exact hvs.ne hG (by decide) rfl
 obtain⟨W,hW⟩:∃W,W=(w.alloc (.cells (ay dn) 60)).alloc (.cells (ay aQ) 60):=⟨_,rfl⟩;have dM:Nw w W:=by rw[hW];exact((Fr.refl _ w).alloc _).alloc _
 have hbD:af W w.heap.size (ay dn) 60:=by rw[hW];exact(af.new _ _ _).alloc _
 have hbR:af W (w.heap.size+1) (ay aQ) 60:=by
  rw[hW];have:=af.new (w.alloc (.cells (ay dn) 60)) (ay aQ) 60
  simpa using this
 have hsW:W.heap.size=w.heap.size+2:=by rw[hW];simp
 have JU:=hG.nw dM;have Nu:=hvs.nw dM;obtain⟨c0,c1,c2,c3,c4,c5,c6,c7⟩:=cZ (hdv▸hbD);have tX:=hd hbD;have NC:=hd hbR;have HW:=hd hW;have uq:=hd hsW;have Hdv:=hd hdv;have HGW:=hd JU;have HvW:=hd Nu;clear hW hsW hbD hbR hdv hG hvs JU Nu;go_enter Tryz.func124,Tryz.ntmps124
 go_upto_region 1 with fail
 rw[show (w.alloc (Obj.cells (ay dn) 60)).alloc (Obj.cells #[Value.int .u8 0,.int .u8 0,.int .u8 0,.int .u8 0,.int .u8 0,.int .u8 0,.int .u8 0,.int .u8 0] 60)=W from HW.out.symm]
 go_wp2_with fail
 rw[<-Hdv.out];refine(GL G g cap true br live vars dn W HGW.out HvW.out h8 sN hbr hlive h4 hv aX).mono ?_
 rintro e w1 ⟨rfl,hf1,hb1⟩
 have hs1:w.heap.size+2<=w1.heap.size:=by have:=hf1.size;have:=uq.out;omega
 have RX:af w1 w.heap.size (ay dn) 60:=tX.out.fr hf1 (by omega)
 have RY:af w1 (w.heap.size+1) (ay aQ) 60:=NC.out.fr hf1 (by omega)
 have RZ:=HvW.out.fr hf1 (fun k hk e=>Nv (by cases hk;exact e))
 have hnt:w1.cell? ⟨G,1,none⟩=some (.bool true):=hb1.cell 1
 have hb1':af w1 G (bf (.slice (some ⟨g,0,none⟩) vars.length cap) true br (jy br live vars dn)) 131:=hb1;have hlv:jy br live vars dn<18446744073709551616:=o9 br vars dn live hlive _;obtain⟨X,hX⟩:∃X,X=w1.alloc (.cells (ay aQ) 60):=⟨_,rfl⟩;have hfX:Nw w1 X:=by rw[hX];exact(Fr.refl _ w1).alloc _
 have hbS:af X w1.heap.size (ay aQ) 60:=by rw[hX];exact af.new _ _ _
 have ael:X.cell? ⟨G,1,none⟩=some (.bool true):=(hb1.nw hfX).cell 1
 have HX:=hd hX;have HbS:=hd hbS;have Hb1:=hd (hb1'.nw hfX);have Si:=hd (RX.nw hfX);have Zo:=hd (RY.nw hfX);have Sj:=hd (RZ.nw hfX);clear hb1 hb1' RX RY RZ hX hbS c0 c1 c2 c3 c4 c5 c6 c7 hnt;go_upto_region 3 with fail
 rw[show w1.alloc (Obj.cells #[Value.int .u8 0,.int .u8 0,.int .u8 0,.int .u8 0,.int .u8 0,.int .u8 0,.int .u8 0,.int .u8 0] 60)=X from HX.out.symm]
 obtain⟨m,hm⟩:∃m,(vN br vars dn vars.length 0 (jy br live vars dn) aQ).2=m:=⟨_,rfl⟩;have GN:m.length=8:=by rw[<-hm];exact(ET br vars dn aX vars.length 0 (jy br live vars dn) aQ rC).1
 have hcL:X.cell? ⟨G,26,none⟩=some (.int .u64 (jy br live vars dn:Nat)):=(Hb1.out.cell 26).trans (jH _ _ _ _ sN)
 have hfin:Aw br live vars dn=eu vars dn m vars.length:=by simp only[Aw];rw[hm]
 have Hm:=hd hm;have fQ:=hd hfin;clear hm hfin;go_wp2_with (go_at_call 127;refine(NF G g cap w.heap.size w1.heap.size true br (jy br live vars dn) vars dn (by omega) h8 sN hbr h4 hcap hv aX vars.length 0 (by omega) (jy br live vars dn) aQ X hlv rfl rC Hb1.out Sj.out Si.out HbS.out).mono ?_;rintro e w2 ⟨rfl,hf2,hb2⟩)
 have hs2:=hf2.size;have aem:=hfX.size;have hb2':af w2 w1.heap.size (ay m) 60:=by rw[<-Hm.out];exact hb2
 have hG2:=Hb1.out.fr hf2 (by omega)
 have hD2:=Si.out.fr hf2 (by omega)
 have hR2:=Zo.out.fr hf2 (by omega)
 have hv2:=Sj.out.fr hf2 (fun k hk e=>by
  have e':g=w1.heap.size:=by cases hk;exact e
  omega)
 have yf:w2.cell? ⟨G,0,none⟩=some (.slice (some ⟨g,0,none⟩) vars.length cap):=hG2.cell 0
 obtain⟨m0,m1,m2,m3,m4,m5,m6,m7,hmv⟩:=iV GN;obtain⟨c0,c1,c2,c3,c4,c5,c6,c7⟩:=cZ (Hdv.out▸hD2);obtain⟨s0,s1,s2,s3,s4,s5,s6,s7⟩:=cZ (hmv▸hb2');have Hv2:=hd (hv2.drew.ints);have HG2:=hd hG2;have HR2:=hd hR2;have C9:=hd hmv;have HF2:Hid (Fr (fun k=>k=G) w w2):=((dM.mono (fun i h=>h.elim)).trans hf1 (fun i h=>.inl h)).trans (hfX.mono (fun i h=>h.elim)) (fun i h=>.inl h) |>.trans hf2 (fun i h=>.inr (by omega))
 clear hb2 hb2' hG2 hD2 hR2 hv2 hmv;go_still_tail 6,(by kernel_rfl)
 go_wp2_with fail
 rw[<-Hdv.out,<-C9.out];refine(qi (some ⟨g,0,none⟩) cap vars dn m _ h4 hv Hv2.out h8 GN).mono ?_
 rintro e w3 ⟨rfl,hf3⟩
 have hrl:(eu vars dn m vars.length).length=8:=by rw[gy];exact h8
 obtain⟨r0,r1,r2,r3,r4,r5,r6,r7,yT⟩:=iV hrl;obtain⟨a0,a1,a2,a3,a4,a5,a6,a7,hav⟩:=iV (d:=aQ) rfl;have Dc:af w3 (w.heap.size+1) #[a0,a1,a2,a3,a4,a5,a6,a7] 60:=hav▸(HR2.out.drew.nw hf3);obtain⟨t0,t1,t2,t3,t4,t5,t6,t7⟩:=cZ Dc;have hfz:∀i,w3.frozen? ⟨w.heap.size+1,i,none⟩=false:=Dc.free
 have o0:∀i,i<8->(#[r0,r1,r2,r3,r4,r5,r6,r7]:Array Value).size=8:=fun _ _=>rfl
 rw[yT];have V5:=hd yT;have HR3:=hd Dc;have HF3:Hid (Fr (fun k=>k=G) w w3):=(HF2.out.drew).trans hf3 (fun i h=>h.elim)
 have Zp:=hd (HG2.out.drew.nw hf3);have ho:=iO (eu vars dn m vars.length) yT;clear yT hav Dc c0 c1 c2 c3 c4 c5 c6 c7 s0 s1 s2 s3 s4 s5 s6 s7 o0;obtain⟨⟨y0,rfl⟩,⟨y1,rfl⟩,⟨y2,rfl⟩,⟨y3,rfl⟩,⟨y4,rfl⟩,⟨y5,rfl⟩,⟨y6,rfl⟩,⟨y7,rfl⟩⟩:=ho;go_wp2
 have hB:=HR3.out.mJ 0 1 2 3 4 5 6 7 (.int .u8 y0) (.int .u8 y1) (.int .u8 y2) (.int .u8 y3) (.int .u8 y4) (.int .u8 y5) (.int .u8 y6) (.int .u8 y7);have tV:=HF3.out.mJ (w.heap.size+1) 0 1 2 3 4 5 6 7 (.int .u8 y0) (.int .u8 y1) (.int .u8 y2) (.int .u8 y3) (.int .u8 y4) (.int .u8 y5) (.int .u8 y6) (.int .u8 y7) (.inr (by omega))
 have hFg:=(Fr.refl (fun k=>k=w.heap.size+1) w3).mJ (w.heap.size+1) 0 1 2 3 4 5 6 7 (.int .u8 y0) (.int .u8 y1) (.int .u8 y2) (.int .u8 y3) (.int .u8 y4) (.int .u8 y5) (.int .u8 y6) (.int .u8 y7) (.inl rfl)
 have hG8:=Zp.out.fr hFg (by omega)
 rw[J6] at hB;generalize hX8:((((((((w3.setCell ⟨w.heap.size+1,0,none⟩ (Value.int .u8 y0)).setCell ⟨w.heap.size+1,1,none⟩ (Value.int .u8 y1)).setCell ⟨w.heap.size+1,2,none⟩ (Value.int .u8 y2)).setCell ⟨w.heap.size+1,3,none⟩ (Value.int .u8 y3)).setCell ⟨w.heap.size+1,4,none⟩ (Value.int .u8 y4)).setCell ⟨w.heap.size+1,5,none⟩ (Value.int .u8 y5)).setCell ⟨w.heap.size+1,6,none⟩ (Value.int .u8 y6)).setCell ⟨w.heap.size+1,7,none⟩ (Value.int .u8 y7))=X8 at hB tV hG8 ⊢
 obtain⟨q0,q1,q2,q3,q4,q5,q6,q7⟩:=cZ hB;refine bodyPost_ret (v:=.agg (ay (Aw br live vars dn))) ?_ rfl ⟨rfl,tV,hG8⟩
 rw[fQ.out,V5.out];simp[results,Tryz.results124,go_sem,q0,q1,q2,q3,q4,q5,q6,q7]
end Go.Proofs.YtkjfpdfkcfgfkaaGreat
namespace Go.Proofs.YtkjfpdfkcfgfkaaGreat
open Go.RowKit Go.Maps
def aT (n:List Nat):List Value:=n.map (fun (x:Nat)=>Value.int .i64 (x:Int))
abbrev jo (n:List Nat):Value:=.agg (aT n).toArray
def jP (n:List Nat):Prop:=n.length=6/\∀x∈n,x<4294967296
theorem Tryz.laidOutB':laidOutB Tryz.prog=true:=by kernel_rfl
theorem sQ:Keyed Tryz.prog 151:=Keyed.of_law (deep_law_laid Tryz.laidOutB' (m:=3) (by omega) (of_decide_eq_true (by kernel_rfl)) (by kernel_rfl) (by kernel_rfl))
theorem vZ:Keyed Tryz.prog 3:=int_keyed Tryz.underlying3
theorem DV {n:List Nat} (h:n.length=6):∃a b c d e f,n=[a,b,c,d,e,f]:=by
 match n,h with
 | [a,b,c,d,e,f],_=>exact⟨a,b,c,d,e,f,rfl⟩
theorem wf64 (x:Nat) (h:x<4294967296):(Lit.int .i64 (x:Int)).wf=true:=WalkArith.wf_i64 (by omega)
theorem SA (n:List Nat) (h:jP n):∃kl,keyOf Tryz.prog 151 (jo n)=some kl:=by
 obtain⟨a,b,c,d,e,f,rfl⟩:=DV h.1;have hx:=h.2;have ha:=wf64 a (hx a (by simp))
 have hb:=wf64 b (hx b (by simp))
 have hc:=wf64 c (hx c (by simp))
 have hd:=wf64 d (hx d (by simp))
 have he:=wf64 e (hx e (by simp))
 have hf:=wf64 f (hx f (by simp))
 have u1:=Tryz.underlying151;have u2:=Tryz.underlying149;have u3:=Tryz.underlying3;have c1:Tryz.prog.cellsOf 151=6:=by kernel_rfl
 have c2:Tryz.prog.cellsOf 149=6:=by kernel_rfl
 have c3:Tryz.prog.cellsOf 3=1:=by kernel_rfl
 have kt:Tryz.prog.keyType 151=true:=by kernel_rfl
 have hn:Tryz.prog.types.size+1=(Tryz.prog.types.size-2)+1+1+1:=by
  have:2<=Tryz.prog.types.size:=of_decide_eq_true (by kernel_rfl)
  omega
 unfold keyOf;rw[u1];dsimp only
 rw[kt,hn];generalize Tryz.prog.types.size-2=dd
 simp[Value.formed,u1,c1,aT,Program.keyLits,u2,u3,c2,c3,Value.cells,List.range,List.range.loop,ha,hb,hc,hd,he,hf]
def bg (w:World) (k:TypeId) (B n:Nat) (f:Value->Option Nat):Prop:=
 ∃D:DataW Unit,w.ownsMap Tryz.prog k (plainElem Tryz.prog 3) B n D/\∀key kl,keyOf Tryz.prog k key=some kl->has D kl=(f key).isSome/\D.atKey kl (.lit (.int .i64 0))= .lit (.int .i64 ((f key).getD 0:Nat))
theorem bg.made (w:World) (k:TypeId):bg (w.alloc (.map #[] 0)) k w.heap.size 0 (fun _=>none):=
 ⟨.map [],World.ownsMap_made w _ _ _,fun _ _ _=>⟨rfl,rfl⟩⟩
theorem bg.block {w w':World} {k:TypeId} {B n:Nat} {f:Value->Option Nat} (h:bg w k B n f) (hb:w'.heap[B]? = w.heap[B]?):bg w' k B n f:=by
 obtain⟨D,⟨es,clock,hh,r⟩,hD⟩:=h;exact⟨D,⟨es,clock,hb.trans hh,r⟩,hD⟩
theorem bg.lt {w:World} {k:TypeId} {B n:Nat} {f:Value->Option Nat} (h:bg w k B n f):B<w.heap.size:=by
 obtain⟨D,h,_⟩:=h;exact h.lt
theorem bg.fr {S:Nat->Prop} {w w':World} {k:TypeId} {B n:Nat} {f:Value->Option Nat} (h:bg w k B n f) (hf:Fr S w w') (hn:¬S B):bg w' k B n f:=h.block (hf.block B h.lt hn)
theorem bg.nw {w w':World} {k:TypeId} {B n:Nat} {f:Value->Option Nat} (h:bg w k B n f) (hf:Nw w w'):bg w' k B n f:=h.fr hf (fun x=>x)
theorem bg.bk {lo:Nat} {w w':World} {k:TypeId} {B n:Nat} {f:Value->Option Nat} (h:bg w k B n f) (hb:Bk lo w w') (hl:B<lo):bg w' k B n f:=by
 obtain⟨row,hg,hr⟩:=hb;exact h.block (hg.block B h.lt (fun e=>by have:=(hr B e.symm).1;omega))
theorem bg.mono {w:World} {k:TypeId} {B n n':Nat} {f:Value->Option Nat} (h:bg w k B n f) (hn:n<=n'):bg w k B n' f:=by
 obtain⟨D,h,hD⟩:=h;exact⟨D,h.mono hn,hD⟩
theorem bg.map {w:World} {k:TypeId} {B n:Nat} {f:Value->Option Nat} (h:bg w k B n f):∃o,w.heap[B]? = some o/\kV o=false:=by
 obtain⟨D,⟨es,clock,hh,_⟩,_⟩:=h;exact⟨_,hh,rfl⟩
theorem NG (w:World):(zeroValue 3).run Tryz.prog w= .ok (.int .i64 0) w:=by kernel_rfl
theorem EU {v:Value} {z:DataW Unit×List MemPlace} (h:plainElem Tryz.prog 3 v=some z):∃a,v= .int .i64 a/\z.1= .lit (.int .i64 a):=by
 obtain⟨a,h1,h2,_⟩:=plainElem_int_inv Tryz.underlying3 h;exact⟨a,h1,by rw[h2]⟩
theorem bg.look_ok {w:World} {t k:TypeId} {B n:Nat} {f:Value->Option Nat} (h:bg w k B n f) (K:Keyed Tryz.prog k) (ht:Tryz.prog.underlying t=some (.map k 3)) {key:Value} {kl:Lit} (hkey:keyOf Tryz.prog k key=some kl):
  (Instr.lookup t (.map (some B)) key true).run Tryz.prog w= .ok (.tuple #[.int .i64 ((f key).getD 0:Nat),.bool (f key).isSome]) w:=by
 obtain⟨D,h,hD⟩:=h;obtain⟨v,ps,hrun,hv⟩:=h.look_ok K ht (NG w) (plainElem_int Tryz.underlying3 (by decide)) hkey
 obtain⟨a,rfl,ha⟩:=EU hv;obtain⟨h1,h2⟩:=hD key kl hkey;rw[hrun,h1];rw[h2] at ha;simp only[DataW.lit.injEq,Lit.int.injEq,true_and] at ha;rw[<-ha]
theorem bg.look {w:World} {t k:TypeId} {B n:Nat} {f:Value->Option Nat} (h:bg w k B n f) (K:Keyed Tryz.prog k) (ht:Tryz.prog.underlying t=some (.map k 3)) {key:Value} {kl:Lit} (hkey:keyOf Tryz.prog k key=some kl):
  (Instr.lookup t (.map (some B)) key false).run Tryz.prog w= .ok (.int .i64 ((f key).getD 0:Nat)) w:=by
 obtain⟨D,h,hD⟩:=h;obtain⟨c,hrun,hat,_⟩:=h.lookup_int K ht Tryz.underlying3 (NG w) hkey;obtain⟨_,h2⟩:=hD key kl hkey;rw[h2] at hat;simp only[DataW.lit.injEq,Lit.int.injEq,true_and] at hat;rw[hrun,<-hat]
open Classical in
theorem bg.store {w:World} {t k:TypeId} {B n:Nat} {f:Value->Option Nat} (h:bg w k B n f) (K:Keyed Tryz.prog k) (ht:Tryz.prog.underlying t=some (.map k 3)) (hn:n<maxLen) {key:Value} {kl:Lit} (hkey:keyOf Tryz.prog k key=some kl) (x:Nat) (hx:x<4294967296):
  ∃w',(Instr.mapUpdate t (.map (some B)) key (.int .i64 (x:Int))).run Tryz.prog w= .ok () w'/\bg w' k B (n+1) (fun v=>if v=key then some x else f v)/\Fr (fun j=>j=B) w w':=by
 obtain⟨D,h,hD⟩:=h;obtain⟨w',hrun,hown,hg⟩:=h.update K ht hn hkey (plainElem_int Tryz.underlying3 (wf64 x hx));refine⟨w',hrun,⟨_,hown,fun key' kl' hk'=>?_⟩,(Fr.refl _ w).grown hg (fun j hj=>.inl (by cases hj;rfl))⟩
 by_cases he:kl'=kl
 ·subst he;have:key'=key:=K.inj hk' hkey
  subst this;dsimp only
  rw[if_pos rfl];exact⟨has_put_same h.isMap (K.key hkey) _,atKey_put_same h.isMap (K.key hkey) _ _⟩
 ·have:key'≠key:=fun e=>by subst e;rw[hk'] at hkey;exact he (Option.some.inj hkey)
  dsimp only
  rw[if_neg this,has_put_other he,atKey_put_other he];exact hD key' kl' hk'
end Go.Proofs.YtkjfpdfkcfgfkaaGreat
namespace Go.Proofs.YtkjfpdfkcfgfkaaGreat
open Go.RowKit Go.Maps
theorem DW (dd:Nat) (n:List Nat) (h:jP n):Tryz.prog.keyLits (dd+1+1+1) 151 (aT n)=some (n.map (fun (x:Nat)=>Lit.int .i64 (x:Int))):=by
 obtain⟨a,b,c,d,e,f,rfl⟩:=DV h.1;have hx:=h.2;have ha:=wf64 a (hx a (by simp))
 have hb:=wf64 b (hx b (by simp))
 have hc:=wf64 c (hx c (by simp))
 have hd:=wf64 d (hx d (by simp))
 have he:=wf64 e (hx e (by simp))
 have hf:=wf64 f (hx f (by simp))
 have u1:=Tryz.underlying151;have u2:=Tryz.underlying149;have u3:=Tryz.underlying3;have c1:Tryz.prog.cellsOf 151=6:=by kernel_rfl
 have c2:Tryz.prog.cellsOf 149=6:=by kernel_rfl
 have c3:Tryz.prog.cellsOf 3=1:=by kernel_rfl
 simp[u1,c1,aT,Program.keyLits,u2,u3,c2,c3,List.range,List.range.loop,ha,hb,hc,hd,he,hf]
theorem yX (n:List Nat) (h:n.length=6):(jo n).formed Tryz.prog 151=true:=by
 have u1:=Tryz.underlying151;have c1:Tryz.prog.cellsOf 151=6:=by kernel_rfl
 simp[Value.formed,u1,c1,aT,h]
theorem GX:∀(a b:List Nat),a.map (fun (x:Nat)=>Lit.int .i64 (x:Int))=b.map (fun (x:Nat)=>Lit.int .i64 (x:Int))->a=b
 | [],[],_=>rfl
 | [],_::_,h=>by simp at h
 | _::_,[],h=>by simp at h
 | x::a,y::b,h=>by
  simp only[List.map_cons,List.cons.injEq,Lit.int.injEq,true_and] at h;rw[GX a b h.2,show x=y by omega]
theorem O3 {a b:List Nat} (h:jo a=jo b):a=b:=by
 have h1:(aT a)=aT b:=by
  injection h with h
  simpa using congrArg Array.toList h
 clear h;induction a generalizing b with
 | nil=>cases b with
  | nil=>rfl
  | cons y b=>simp[aT] at h1
 | cons x a ih=>cases b with
  | nil=>simp[aT] at h1
  | cons y b=>
   simp only[aT,List.map_cons,List.cons.injEq,Value.int.injEq,true_and] at h1;rw[ih h1.2,show x=y by omega]
theorem SB (a b:List Nat) (ha:jP a) (hb:jP b) (w:World):(binOp .eql 151 (jo a) (jo b)).run Tryz.prog w= .ok (.bool (decide (a=b))) w:=by
 obtain⟨r,hr,hiff⟩:=run_equalIn_deep (P:=Tryz.prog) 9997 3 151 (by kernel_rfl) w 3 3 (jo a) (jo b) _ _ (yX a ha.1) (yX b hb.1) (DW 0 a ha) (DW 0 b hb)
 have hr':(Op.equalIn 10000 151 (jo a) (jo b)).run Tryz.prog w= .ok r w:=hr;have e:r=decide (a=b):=by
  rw[Bool.eq_iff_iff,decide_eq_true_iff,hiff];exact⟨GX a b,fun h=>by rw[h]⟩
 rw[run_eql_struct,hr',e,Result.andThen_ok]
def zero6:List Nat:=[0,0,0,0,0,0]
theorem GY:jP zero6:=⟨rfl,by decide⟩
def idx (n:List Nat):List (List Nat)->Nat->Option Nat
 | [],_=>none
 | x::r,k=>if x=n then some k else idx n r (k+1)
theorem GZ (n m:List Nat):∀(l:List (List Nat)) (k:Nat),idx n (l++[m]) k=match idx n l k with
  | some j=>some j
  | none=>if m=n then some (k+l.length) else none
 | [],k=>by simp[idx]
 | x::r,k=>by
  simp only[List.cons_append,idx];split
  ·rfl
  ·rw[GZ n m r (k+1)];simp only[List.length_cons,Nat.add_assoc,Nat.add_comm 1]
def numOf (ns:List (List Nat)) (n:List Nat):Option Nat:=idx n (ns.drop 2) 2
theorem Kw (ns:List (List Nat)) (h2:2<=ns.length) (n m:List Nat):numOf (ns++[m]) n=match numOf ns n with
  | some j=>some j
  | none=>if m=n then some ns.length else none:=by
 unfold numOf;rw[List.drop_append_of_le_length h2,GZ];rw[show 2+(ns.drop 2).length=ns.length by simp;omega]
def aB (ns:List (List Nat)) (n:List Nat):List (List Nat)×Nat:=if n=zero6 then (ns,0) else match numOf ns n with
 | some k=>(ns,k)
 | none=>(ns++[n],ns.length)
structure sS (w:World) (b M:Nat) (nv:Value) (ns:List (List Nat)):Prop where
 blk:af w b #[nv,.map (some M)] 123
 row:w.ownsRow 0 151 6 nv ns.length (ns.flatMap aT)
 map:∃f,bg w 151 M ns.length f/\∀n,jP n->f (jo n)=numOf ns n
 ok:∀n∈ns,jP n
 two:2<=ns.length
 few:ns.length<=100000
theorem Az {P:Program} {ops:Array Oper} {Q:Exit->Act->World->Prop} {o:Oper} {rest:List Oper} {a:Act} {w w':World} {v:Value} (hg:o.guard=none) (hr:(execOp a.eval o).run P w= .ok (.value v) w')
  (h:wpList P ops Q rest (a.put o.dst v) w'):wpList P ops Q (o::rest) a w:=wpList_plain hg fun K hK=>by
 unfold Oper.wp;rw[hr];exact hK _ _ h
theorem rH {P:Program} {ev:Operand->Value} {o:Oper} {w:World} {r:Value} (x y:Operand) (t tb:TypeId) (ho:o.op= .binOp .eql t x y tb) (hg:(eqGuard .eql t x y (ev x) (ev y)).run P w= .ok () w) (h:(binOp .eql t (ev x) (ev y)).run P w= .ok r w):(execOp ev o).run P w= .ok (.value r) w:=by
 unfold execOp;simp[ho,hg,h,Result.andThen]
theorem O4 {P:Program} {ops:Array Oper} {Q:Exit->Act->World->Prop} {o:Oper} {rest:List Oper} {a:Act} {w w':World} (hg:o.guard=none) (hr:(execOp a.eval o).run P w= .ok .skip w')
  (h:wpList P ops Q rest (a.put o.dst undef) w'):wpList P ops Q (o::rest) a w:=wpList_plain hg fun K hK=>by
 unfold Oper.wp;rw[hr];exact hK _ _ h
theorem rJ {P:Program} {ev:Operand->Value} {o:Oper} {w w':World} (m x v:Operand) (t:TypeId) (ho:o.op= .mapUpdate t m x v) (h:(Instr.mapUpdate t (ev m) (ev x) (ev v)).run P w= .ok () w'):(execOp ev o).run P w= .ok .skip w':=by
 unfold execOp;simp[ho,h,Result.andThen]
theorem bg.ne {w:World} {k:TypeId} {M n g:Nat} {f:Value->Option Nat} {cur:Array Value} {e:TypeId} (h:bg w k M n f) (hb:af w g cur e):g≠M:=fun heq=>by
 subst heq;obtain⟨D,⟨es,clock,hh,_⟩,_⟩:=h;have h':w.heap[g]? = some (.cells cur e (0,0)):=hb
 rw[h'] at hh;cases hh
theorem Tryz.SC:(Tryz.prog.info? 151).map (fun i=>(i.zero,i.size,i.bytes))=some (some (jo zero6),6,48):=by kernel_rfl
theorem aep {w w1:World} {e:TypeId} {v v':Value} {k:Nat} {xs news:List Value} (h1:w1.ownsRow 0 e 6 v' (k+1) (xs++news))
  (hg:(w.alloc (.cells news.toArray e)).grownBy w1 v.ownBlock) (hat:v'.ownBlock=v.ownBlock\/v'.ownBlock=some (w.alloc (.cells news.toArray e)).heap.size):
  ∃g cap,v'= .slice (some ⟨g,0,none⟩) (k+1) cap/\Fr (fun j=>v.ownBlock=some j) w w1/\(v.ownBlock=some g\/w.heap.size<=g)/\g<w1.heap.size:=by
 have hfr:Fr (fun j=>v.ownBlock=some j) w w1:=((Fr.refl (fun j=>v.ownBlock=some j) w).alloc (.cells news.toArray e)).grown hg (fun k hk=>.inl hk)
 rcases h1.2 with ⟨_,hn⟩ | ⟨g,cap,cur,rfl,_,hgg,_⟩
 ·omega
 ·refine⟨g,cap,rfl,hfr,?_,lt_of_block hgg⟩
  rcases hat with hat | hat
  ·exact .inl hat.symm
  ·right
   have:g=w.heap.size+1:=by simpa[Value.ownBlock] using hat
   omega
theorem ownsRow.fr {S:Nat->Prop} {w w':World} {v:Value} {e:TypeId} {size n:Nat} {xs:List Value} (h:w.ownsRow 0 e size v n xs) (f:Fr S w w') (hn:∀k,v.ownBlock=some k->¬S k):w'.ownsRow 0 e size v n xs:=by
 refine⟨h.1,?_⟩
 rcases h.2 with h2 | ⟨g,cap,cur,rfl,hb,hg,r⟩
 ·exact .inl h2
 ·exact .inr ⟨g,cap,cur,rfl,hb,(f.block g (lt_of_block hg) (hn g rfl)).trans hg,r⟩
theorem sS.fr {S:Nat->Prop} {w w':World} {b M:Nat} {nv:Value} {ns:List (List Nat)} (h:sS w b M nv ns) (f:Fr S w w') (h1:¬S b) (h2:¬S M) (h3:∀k,nv.ownBlock=some k->¬S k):sS w' b M nv ns:=by
 obtain⟨g,hm,hg⟩:=h.map;exact⟨h.blk.fr f h1,ownsRow.fr h.row f h3,⟨g,hm.fr f h2,hg⟩,h.ok,h.two,h.few⟩
theorem sS.nw {w w':World} {b M:Nat} {nv:Value} {ns:List (List Nat)} (h:sS w b M nv ns) (f:Nw w w'):sS w' b M nv ns:=h.fr f (fun x=>x) (fun x=>x) (fun _ _ x=>x)
set_option maxRecDepth 1000000 in
theorem uJ (b M:Nat) (nv:Value) (ns:List (List Nat)) (n:List Nat) (w:World) (hB:sS w b M nv ns) (hn:jP n) (hlen:ns.length<100000):
  Calls Tryz.prog 87 #[.pointer (some ⟨b,0,none⟩),jo n] w fun e w'=>e= .returned (.int .i64 ((aB ns n).2:Nat)) /\
   ∃uy,sS w' b M uy (aB ns n).1/\Fr (fun k=>k=b\/k=M\/nv.ownBlock=some k) w w'/\(∀k,uy.ownBlock=some k->nv.ownBlock=some k\/w.heap.size<=k):=by
 obtain⟨g,cap,CU⟩:∃g cap,nv= .slice (some ⟨g,0,none⟩) ns.length cap:=by
  rcases hB.row.2 with ⟨_,h0⟩ | ⟨g,cap,cur,h,_⟩
  ·have:=hB.two;omega
  ·exact⟨g,cap,h⟩
 subst CU;obtain⟨kl,hkl⟩:=SA n hn;obtain⟨v0,v1,v2,v3,v4,v5,G5⟩:=DV hn.1;obtain⟨W,hW⟩:∃W,W=w.alloc (.cells (aT n).toArray 151):=⟨_,rfl⟩;have dM:Nw w W:=by rw[hW];exact(Fr.refl _ w).alloc _
 have hbN:af W w.heap.size (aT n).toArray 151:=by rw[hW];exact af.new _ _ _
 obtain⟨f,hmap,hf⟩:=hB.map;have hmW:=hmap.nw dM;have hbW:=hB.blk.nw dM;have c0:W.cell? ⟨w.heap.size,0,none⟩=some (.int .i64 (v0:Int)):=by rw[hbN.cell,G5];rfl
 have c1:W.cell? ⟨w.heap.size,1,none⟩=some (.int .i64 (v1:Int)):=by rw[hbN.cell,G5];rfl
 have c2:W.cell? ⟨w.heap.size,2,none⟩=some (.int .i64 (v2:Int)):=by rw[hbN.cell,G5];rfl
 have c3:W.cell? ⟨w.heap.size,3,none⟩=some (.int .i64 (v3:Int)):=by rw[hbN.cell,G5];rfl
 have c4:W.cell? ⟨w.heap.size,4,none⟩=some (.int .i64 (v4:Int)):=by rw[hbN.cell,G5];rfl
 have c5:W.cell? ⟨w.heap.size,5,none⟩=some (.int .i64 (v5:Int)):=by rw[hbN.cell,G5];rfl
 have HW:=hd hW;have CV:=hd G5;have hz6:jo [v0,v1,v2,v3,v4,v5]= .agg #[.int .i64 (v0:Int),.int .i64 (v1:Int),.int .i64 (v2:Int),.int .i64 (v3:Int),.int .i64 (v4:Int),.int .i64 (v5:Int)]:=rfl;have hz0:jo zero6= .agg #[.int .i64 0,.int .i64 0,.int .i64 0,.int .i64 0,.int .i64 0,.int .i64 0]:=rfl;have heq:=SB n zero6 hn GY W;have hnum:aB ns n=aB ns n:=rfl;clear hW;by_cases hz:n=zero6
 ·rw[decide_eq_true hz,G5,hz6,hz0] at heq;have Hz:=hd hz;clear G5 hz6 hz0 hz;go_enter Tryz.func87,Tryz.ntmps87
  go_upto_region 1 with fail
  rw[<-HW.out];go_wp2_with (refine Az rfl (rH (.tmp 7) (.tmp 8) 151 151 rfl (by kernel_rfl) heq) ?_)
  go_ret
  have e:aB ns n=(ns,0):=by rw[aB,if_pos Hz.out]
  rw[e];exact⟨rfl,_,hB.nw dM,dM.mono (fun i h=>h.elim),fun k hk=>.inl hk⟩
 ·rw[decide_eq_false hz,G5,hz6,hz0] at heq;have Hz:=hd hz;clear hz;have hb0:W.cell? ⟨b,0,none⟩=some (.slice (some ⟨g,0,none⟩) ns.length cap):=hbW.cell 0
  have hb1:W.cell? ⟨b,1,none⟩=some (.map (some M)):=hbW.cell 1
  have hlook:∀W',bg W' 151 M ns.length f->(Instr.lookup 121 (.map (some M)) (.agg #[.int .i64 (v0:Int),.int .i64 (v1:Int),.int .i64 (v2:Int),.int .i64 (v3:Int),.int .i64 (v4:Int),.int .i64 (v5:Int)]) true).run Tryz.prog W'= .ok (.tuple #[.int .i64 ((numOf ns n).getD 0:Nat),.bool (numOf ns n).isSome]) W':=fun W' h=>by
   have h1:=h.look_ok sQ Tryz.underlying121 hkl;rw[hf n hn,G5] at h1;rw[G5];exact h1
  have hl1:=hlook W.drew hmW;have NH:=hd hlook;clear hlook G5 hz6 hz0;go_enter Tryz.func87,Tryz.ntmps87
  go_upto_region 1 with fail
  rw[<-HW.out];go_upto_region 3 with (refine Az rfl (rH (.tmp 7) (.tmp 8) 151 151 rfl (by kernel_rfl) heq) ?_)
  simp only[Act.put,bQ,bW,bU];cases hnm:numOf ns n with
  | some k=>
   rw[hnm] at hl1;have Hnm:=hd hnm;clear hnm;go_still (by kernel_rfl)
   go_wp2
   go_ret
   have e:aB ns n=(ns,k):=by rw[aB,if_neg Hz.out,Hnm.out]
   rw[e];exact⟨rfl,_,(hB.nw dM).fr ((Fr.refl (fun _=>False) W).drew) (fun x=>x) (fun x=>x) (fun _ _ x=>x),(dM.mono (fun i h=>h.elim)).drew,fun k hk=>.inl hk⟩
  | none=>
   rw[hnm] at hl1;have Hnm:=hd hnm;clear hnm;go_still (by kernel_rfl)
   go_upto_region 6 with fail
   show Code.wp _ _ _ _ W.drew
   obtain⟨V,hV⟩:∃V,V=W.drew:=⟨_,rfl⟩;have fA:Nw w V:=by rw[hV];exact dM.drew
   have SE:=hB.nw fA;have hmV:bg V 151 M ns.length f:=by rw[hV];exact hmW
   have Gs:af V w.heap.size (aT n).toArray 151:=by rw[hV];exact hbN
   rw[<-hV];clear hV c0 c1 c2 c3 c4 c5 hb0 hb1 hl1 heq;have c0:V.cell? ⟨w.heap.size,0,none⟩=some (.int .i64 (v0:Int)):=by rw[Gs.cell,CV.out];rfl
   have c1:V.cell? ⟨w.heap.size,1,none⟩=some (.int .i64 (v1:Int)):=by rw[Gs.cell,CV.out];rfl
   have c2:V.cell? ⟨w.heap.size,2,none⟩=some (.int .i64 (v2:Int)):=by rw[Gs.cell,CV.out];rfl
   have c3:V.cell? ⟨w.heap.size,3,none⟩=some (.int .i64 (v3:Int)):=by rw[Gs.cell,CV.out];rfl
   have c4:V.cell? ⟨w.heap.size,4,none⟩=some (.int .i64 (v4:Int)):=by rw[Gs.cell,CV.out];rfl
   have c5:V.cell? ⟨w.heap.size,5,none⟩=some (.int .i64 (v5:Int)):=by rw[Gs.cell,CV.out];rfl
   have hb0:V.cell? ⟨b,0,none⟩=some (.slice (some ⟨g,0,none⟩) ns.length cap):=SE.blk.cell 0
   have hb1:V.cell? ⟨b,1,none⟩=some (.map (some M)):=SE.blk.cell 1
   obtain⟨w1,hst,hm1,hf1⟩:=bg.store (w:=V.drew) (t:=121) hmV sQ Tryz.underlying121 (by unfold maxLen;omega) hkl ns.length (by omega)
   rw[show jo n= .agg #[.int .i64 (v0:Int),.int .i64 (v1:Int),.int .i64 (v2:Int),.int .i64 (v3:Int),.int .i64 (v4:Int),.int .i64 (v5:Int)] by rw[CV.out];rfl] at hst
   have HB:=hd hB;have Yz:=hd hmV;have zX:=hd Gs;have SG:=hd SE;have Hm1:=hd hm1;clear hB hmV Gs SE hm1 hmap hmW hbW hbN;go_still_tail 10,(by kernel_rfl)
   go_wp2_with (refine O4 rfl (rJ (.tmp 24) (.tmp 25) (.tmp 30) 121 rfl hst) ?_)
   have dQ:Fr (fun j=>j=M) V w1:=hf1.gW
   have hMb:b≠M:=Yz.out.ne SG.out.blk;have hMN:w.heap.size≠M:=Yz.out.ne zX.out;have hb1':=SG.out.blk.fr dQ hMb;have hN1:=zX.out.fr dQ hMN;have hr1:=ownsRow.fr SG.out.row dQ (fun j hj e=>by
    rcases SG.out.row.2 with ⟨h,_⟩ | ⟨g',cap',cur',h,_,hg',_⟩
    ·cases h
    ·cases h;cases hj;exact Yz.out.ne (show af V g cur' _ from hg') e)
   have hK0:af w1.drew b #[.slice (some ⟨g,0,none⟩) ns.length cap,.map (some M)] 123/\af w1.drew w.heap.size (aT n).toArray 151:=⟨hb1'.drew,hN1.drew⟩;refine vY (S:=fun w''=>af w'' b #[.slice (some ⟨g,0,none⟩) ns.length cap,.map (some M)] 123/\af w'' w.heap.size (aT n).toArray 151) 10 (by kernel_rfl) ?_
   refine bH (i:=0) (v:=.pointer (some ⟨b,0,none⟩)) (by kernel_rfl) rfl (by kernel_rfl) (by kernel_rfl) (by kernel_rfl) (fun _ _ _ h=>h) (.inl ⟨by kernel_rfl,fun w'' hS=>by kernel_rfl⟩) hK0 ?_
   refine bH (i:=1) (v:=.pointer (some ⟨b,0,none⟩)) (by kernel_rfl) rfl (by kernel_rfl) (by kernel_rfl) (by kernel_rfl) (fun _ _ _ h=>h) (.inl ⟨by kernel_rfl,fun w'' hS=>by kernel_rfl⟩) hK0 ?_
   refine bH (i:=2) (v:=.pointer (some ⟨b,0,none⟩)) (by kernel_rfl) rfl (by kernel_rfl) (by kernel_rfl) (by kernel_rfl) (fun _ _ _ h=>h) (.inl ⟨by kernel_rfl,fun w'' hS=>by kernel_rfl⟩) hK0 ?_
   refine bH (i:=3) (v:=.pointer (some ⟨b,0,none⟩)) (by kernel_rfl) rfl (by kernel_rfl) (by kernel_rfl) (by kernel_rfl) (fun _ _ _ h=>h) (.inl ⟨by kernel_rfl,fun w'' hS=>by kernel_rfl⟩) hK0 ?_
   refine bH (i:=4) (v:=.slice (some ⟨g,0,none⟩) ns.length cap) (by kernel_rfl) rfl (by kernel_rfl) (by kernel_rfl) (by kernel_rfl) (fun _ _ _ h=>h) (.inl ⟨by kernel_rfl,fun w'' hS=>?_⟩) hK0 ?_
   ·have q0:w''.cell? ⟨b,0,none⟩=some (.slice (some ⟨g,0,none⟩) ns.length cap):=hS.1.cell 0
    clear hK0 hf hS HB Yz zX SG Hm1 NH hst c0 c1 c2 c3 c4 c5 hb0 hb1 hlen;simp only[Act.put,bQ,bW,bU,eH,eY,fC];go_simp
   refine bH (i:=5) (v:=.agg #[.int .i64 (v0:Int),.int .i64 (v1:Int),.int .i64 (v2:Int),.int .i64 (v3:Int),.int .i64 (v4:Int),.int .i64 (v5:Int)]) (by kernel_rfl) rfl (by kernel_rfl) (by kernel_rfl) (by kernel_rfl) (fun _ _ _ h=>h) (.inl ⟨by kernel_rfl,fun w'' hS=>?_⟩) hK0 ?_
   ·have q0:w''.cell? ⟨w.heap.size,0,none⟩=some (.int .i64 (v0:Int)):=by rw[hS.2.cell,CV.out];rfl
    have q1:w''.cell? ⟨w.heap.size,1,none⟩=some (.int .i64 (v1:Int)):=by rw[hS.2.cell,CV.out];rfl
    have q2:w''.cell? ⟨w.heap.size,2,none⟩=some (.int .i64 (v2:Int)):=by rw[hS.2.cell,CV.out];rfl
    have q3:w''.cell? ⟨w.heap.size,3,none⟩=some (.int .i64 (v3:Int)):=by rw[hS.2.cell,CV.out];rfl
    have q4:w''.cell? ⟨w.heap.size,4,none⟩=some (.int .i64 (v4:Int)):=by rw[hS.2.cell,CV.out];rfl
    have q5:w''.cell? ⟨w.heap.size,5,none⟩=some (.int .i64 (v5:Int)):=by rw[hS.2.cell,CV.out];rfl
    clear hK0 hf hS HB Yz zX SG Hm1 NH hst c0 c1 c2 c3 c4 c5 hb0 hb1 hlen;simp only[Act.put,bQ,bW,bU,eH,eY,fC];go_simp
   refine fF (i:=6) (by kernel_rfl) ?_
   refine aA (v:=.slice (some ⟨w1.heap.size,0,none⟩) 1 1) (w':=w1.drew.alloc (.cells (aT n).toArray 151)) rfl (by kernel_rfl) ?_ ⟨fun _=>⟨hK0.1.alloc _,hK0.2.alloc _⟩,?_⟩
   ·rw[CV.out];kernel_rfl
   obtain⟨i0,hi0,hz0,hz1,hz2⟩:=info_parts Tryz.SC;have hnb:af (w1.drew.alloc (.cells (aT n).toArray 151)) w1.heap.size (aT n).toArray 151:=af.new w1.drew _ _;obtain⟨v',w3,hr,hown,hgrow,_,hat⟩:=run_append_own_at (P:=Tryz.prog) (w1.drew.alloc (.cells (aT n).toArray 151)) 0 120 120 151 i0 (jo zero6) 6 48 Tryz.underlying120 hi0 hz0 hz1 hz2 rfl (by decide) (.slice (some ⟨g,0,none⟩) ns.length cap) ns.length (ns.flatMap aT) (ownsRow.fr hr1 (((Fr.refl (fun _=>False) w1).drew).alloc _) (fun _ _ x=>x)) ⟨w1.heap.size,0,none⟩ 1 1 (aT n) (by simp[aT,hn.1])
    (fun j u hj=>by
     rw[show (⟨w1.heap.size,0,none⟩:Addr).add j=⟨w1.heap.size,j,none⟩ from by by_cases h:j=0 <;> simp[Addr.add,h],hnb.cell]
     simpa using hj) (fun u hu=>by
     simp only[aT,List.mem_map] at hu;obtain⟨x,_,rfl⟩:=hu;rfl) (by unfold maxLen;omega) (by omega) (Nat.zero_le _)
   obtain⟨g2,cap2,rfl,hf3,AA,hlt3⟩:=aep (w:=w1.drew) hown hgrow hat;have nJ:Fr (fun j=>(Value.slice (some ⟨g,0,none⟩) ns.length cap).ownBlock=some j) w1 w3:=hf3.gW
   have hgb:g≠b:=fun e=>by
    rcases SG.out.row.2 with ⟨h,_⟩ | ⟨g',cap',cur',h,_,hg',_⟩
    ·cases h
    ·cases h;subst e;have:=(af.inj (show af V g cur' 151 from hg') SG.out.blk).2
     revert this
     decide
   have hgN:g≠w.heap.size:=fun e=>by
    have:g<w.heap.size:=by
     rcases HB.out.row.2 with ⟨h,_⟩ | ⟨g',cap',cur',h,_,hg',_⟩
     ·cases h
     ·cases h;exact lt_of_block hg'
    omega
   have hb3:=hb1'.fr nJ (fun e=>hgb (by cases e;rfl))
   have hN3:=hN1.fr nJ (fun e=>hgN (by cases e;rfl))
   refine fF (i:=7) (by kernel_rfl) ?_
   refine aA (v:=.slice (some ⟨g2,0,none⟩) (ns.length+1) cap2) (w':=w3) rfl (by kernel_rfl) ?_ ⟨fun _=>⟨hb3,hN3⟩,?_⟩
   ·simp only[Act.put,bQ,bW,bU,eH,eY,fC];unfold execOp;simp only[resolve,invoke,builtin,Sem.run_bind,Sem.run_pure,Result.andThen_ok,List.map_toArray,List.map_cons,List.map_nil,Act.eval];erw [hr]
    rfl
   refine fF (i:=8) (by kernel_rfl) ?_
   refine aA (v:=.pointer (some ⟨b,0,none⟩)) (w':=w3) rfl (by kernel_rfl) (by kernel_rfl) ⟨fun _=>⟨hb3,hN3⟩,?_⟩
   refine fF (i:=9) (by kernel_rfl) ?_
   refine aA (v:=.pointer (some ⟨b,0,none⟩)) (w':=w3) rfl (by kernel_rfl) (by kernel_rfl) ⟨fun _=>⟨hb3,hN3⟩,?_⟩
   refine fF (i:=10) (by kernel_rfl) ?_
   have hc3:w3.cell? ⟨b,0,none⟩=some (.slice (some ⟨g,0,none⟩) ns.length cap):=hb3.cell 0
   have hz3:=hb3.free 0;obtain⟨Z,hZ⟩:∃Z,Z=w3.setCell ⟨b,0,none⟩ (.slice (some ⟨g2,0,none⟩) (ns.length+1) cap2):=⟨_,rfl⟩;refine dw (w':=Z) rfl (by kernel_rfl) ?_ ⟨fun h=>absurd rfl h,pg (by kernel_rfl) ?_ _⟩
   ·rw[hZ];clear hK0 hf HB Yz zX SG Hm1 NH hst c0 c1 c2 c3 c4 c5 hb0 hb1 hlen hr hown hgrow hat hf3 nJ hb3 hN3 hr1 hb1' hN1 hnb hZ;simp only[Act.put,bQ,bW,bU,eH,eY,fC];go_simp
   have qm:Fr (fun j=>j=b) w3 Z:=by rw[hZ];exact(Fr.refl _ w3).setCell _ _ (.inl rfl)
   have uw:af Z b #[.slice (some ⟨g2,0,none⟩) (ns.length+1) cap2,.map (some M)] 123:=by rw[hZ];exact hb3.set 0 _
   simp only[Act.put,bQ,bW,bU,eH,eY,fC];simp only[Exit.then]
   have Gt:M<w.heap.size:=by have:=HB.out.map;obtain⟨_,h,_⟩:=this;exact h.lt
   have hbl:b<w.heap.size:=HB.out.blk.lt;have hgM:g≠M:=fun e=>by
    rcases SG.out.row.2 with ⟨h,_⟩ | ⟨g',cap',cur',h,_,hg',_⟩
    ·cases h
    ·cases h;exact Yz.out.ne (show af V g cur' _ from hg') e
   have hmZ:=(Hm1.out.fr nJ (fun e=>hgM (by cases e;rfl))).fr qm (fun e=>hMb e.symm)
   have SH:=hN3.fr qm (by omega)
   have Ky:=hmZ.look (t:=121) sQ Tryz.underlying121 hkl;rw[if_pos rfl,Option.getD_some] at Ky;have hrZ:Z.ownsRow 0 151 6 (.slice (some ⟨g2,0,none⟩) (ns.length+1) cap2) (ns.length+1) ((ns++[n]).flatMap aT):=by
    rw[List.flatMap_append,List.flatMap_cons,List.flatMap_nil,List.append_nil];refine ownsRow.fr hown qm (fun j hj e=>?_)
    have e2:g2=j:=by cases hj;rfl
    have hs1:=dQ.size;have hs2:=fA.size;rcases AA with ha | ha
    ·have:g=g2:=by cases ha;rfl
     omega
    ·have ha':w1.heap.size<=g2:=ha;omega
   have hFV:Fr (fun k=>k=b\/k=M\/(Value.slice (some ⟨g,0,none⟩) ns.length cap).ownBlock=some k) w Z:=
    (((fA.mono (fun i h=>h.elim)).trans dQ (fun i h=>.inl (.inr (.inl h)))).trans nJ (fun i h=>.inl (.inr (.inr h)))).trans qm (fun i h=>.inl (.inl h))
   have e:aB ns n=(ns++[n],ns.length):=by rw[aB,if_neg Hz.out,Hnm.out]
   have hfin:sS Z b M (.slice (some ⟨g2,0,none⟩) (ns.length+1) cap2) (ns++[n]):=by
    refine⟨uw,by rw[List.length_append];exact hrZ,⟨_,by rw[List.length_append];exact hmZ,fun n' hn'=>?_⟩,fun x hx=>?_,by have:=HB.out.two;simp;omega,by simp;omega⟩
    ·rw[Kw ns HB.out.two];by_cases hnn:n'=n
     ·subst hnn;rw[Hnm.out,if_pos rfl];simp
     ·have hne:jo n'≠jo n:=fun h=>hnn (O3 h)
      rw[if_neg hne,hf n' hn'];cases numOf ns n' with
      | some j=>rfl
      | none=>exact(if_neg (fun h=>hnn (Eq.symm h))).symm
    ·rcases List.mem_append.1 hx with hx | hx
     ·exact HB.out.ok x hx
     ·rw[List.mem_singleton.1 hx];exact hn
   have fQ:=hd hfin;have HFV:=hd hFV;have Ha3:Hid (∀k,(Value.slice (some ⟨g2,0,none⟩) (ns.length+1) cap2).ownBlock=some k->(Value.slice (some ⟨g,0,none⟩) ns.length cap).ownBlock=some k\/w.heap.size<=k):=fun k hk=>by
    have e2:g2=k:=by cases hk;rfl
    subst e2;rcases AA with ha | ha
    ·exact .inl ha
    ·have hs1:=dQ.size;have hs2:=fA.size;have ha':w1.heap.size<=g2:=ha;exact .inr (by omega)
   have d0:Z.cell? ⟨w.heap.size,0,none⟩=some (.int .i64 (v0:Int)):=by rw[SH.cell,CV.out];rfl
   have d1:Z.cell? ⟨w.heap.size,1,none⟩=some (.int .i64 (v1:Int)):=by rw[SH.cell,CV.out];rfl
   have d2:Z.cell? ⟨w.heap.size,2,none⟩=some (.int .i64 (v2:Int)):=by rw[SH.cell,CV.out];rfl
   have d3:Z.cell? ⟨w.heap.size,3,none⟩=some (.int .i64 (v3:Int)):=by rw[SH.cell,CV.out];rfl
   have d4:Z.cell? ⟨w.heap.size,4,none⟩=some (.int .i64 (v4:Int)):=by rw[SH.cell,CV.out];rfl
   have d5:Z.cell? ⟨w.heap.size,5,none⟩=some (.int .i64 (v5:Int)):=by rw[SH.cell,CV.out];rfl
   have dB:Z.cell? ⟨b,1,none⟩=some (.map (some M)):=uw.cell 1
   rw[show jo n= .agg #[.int .i64 (v0:Int),.int .i64 (v1:Int),.int .i64 (v2:Int),.int .i64 (v3:Int),.int .i64 (v4:Int),.int .i64 (v5:Int)] by rw[CV.out];rfl] at Ky
   have hl2:(Instr.lookup 121 (.map (some M)) (.agg #[.int .i64 (v0:Int),.int .i64 (v1:Int),.int .i64 (v2:Int),.int .i64 (v3:Int),.int .i64 (v4:Int),.int .i64 (v5:Int)]) false).run Tryz.prog Z.drew= .ok (.int .i64 (ns.length:Int)) Z.drew:=by
    have:=bg.look (w:=Z.drew) (t:=121) hmZ sQ Tryz.underlying121 hkl
    rw[if_pos rfl,Option.getD_some] at this;rw[show jo n= .agg #[.int .i64 (v0:Int),.int .i64 (v1:Int),.int .i64 (v2:Int),.int .i64 (v3:Int),.int .i64 (v4:Int),.int .i64 (v5:Int)] by rw[CV.out];rfl] at this
    exact this
   clear Ky hrZ hFV hfin SH hmZ uw qm hZ hc3 hz3 hb3 hN3 hgrow hat hown hr hnb hr1 hK0 hb1' hN1 hf1 dQ hf3 nJ hst c0 c1 c2 c3 c4 c5 hb0 hb1 NH Yz zX Hm1 SG AA hf;go_upto_region 8 with fail
   go_still (by kernel_rfl)
   go_wp2
   go_ret
   rw[e];exact⟨rfl,_,fQ.out.fr ((Fr.refl (fun _=>False) Z).drew) (fun x=>x) (fun x=>x) (fun _ _ x=>x),HFV.out.drew,Ha3.out⟩
end Go.Proofs.YtkjfpdfkcfgfkaaGreat
namespace Go.Proofs.YtkjfpdfkcfgfkaaGreat
open Go.RowKit Go.Maps
set_option maxRecDepth 1000000 in
theorem iP (w:World):Calls Tryz.prog 66 #[] w fun e w'=>∃b M nv,e= .returned (.pointer (some ⟨b,0,none⟩))/\sS w' b M nv [zero6,zero6]/\Nw w w'/\w.heap.size<=b/\w.heap.size<=M/\(∀k,nv.ownBlock=some k->w.heap.size<=k):=by
 have hmm:=@run_makeMap Tryz.prog;have hms:∀w:World,(Instr.makeSlice 120 (.int .i64 2) (.int .i64 2)).run Tryz.prog w= .ok (.slice (some ⟨w.heap.size,0,none⟩) 2 2) (w.alloc (.cells ([zero6,zero6].flatMap aT).toArray 151)):=fun w=>by kernel_rfl
 go_enter Tryz.func66,Tryz.ntmps66
 go_wp2
 go_ret
 have hN:=af.new w ([zero6,zero6].flatMap aT).toArray 151;have hF:Nw w (((w.alloc (.cells ([zero6,zero6].flatMap aT).toArray 151)).alloc (.map #[] 0)).alloc (.cells #[.slice (some ⟨w.heap.size,0,none⟩) 2 2,.map (some (w.heap.size+1))] 123)):=(((Fr.refl _ w).alloc _).alloc _).alloc _;have hM:=(bg.made (w.alloc (.cells ([zero6,zero6].flatMap aT).toArray 151)) 151).nw ((Fr.refl _ _).alloc (.cells #[.slice (some ⟨w.heap.size,0,none⟩) 2 2,.map (some (w.heap.size+1))] 123));have hB:=af.new ((w.alloc (.cells ([zero6,zero6].flatMap aT).toArray 151)).alloc (.map #[] 0)) #[.slice (some ⟨w.heap.size,0,none⟩) 2 2,.map (some (w.heap.size+1))] 123;simp only[tY] at hM hB;refine⟨w.heap.size+1+1,w.heap.size+1,.slice (some ⟨w.heap.size,0,none⟩) 2 2,rfl,⟨hB,?_,⟨_,hM.mono (by simp),fun n _=>?_⟩,fun n hn=>?_,by simp,by simp⟩,hF,by omega,by omega,fun k hk=>by cases hk;exact Nat.le_refl _⟩
 ·exact⟨by simp[aT,zero6],.inr ⟨w.heap.size,2,([zero6,zero6].flatMap aT).toArray,rfl,Nat.zero_le _,(hN.alloc _).alloc _,Nat.le_refl _,by unfold maxLen;omega,by simp[aT,zero6],by simp[aT,zero6]⟩⟩
 ·rfl
 ·have:n=zero6:=by simpa using hn
  rw[this];exact GY
def IntsIn (w:World) (N:Nat->Prop) (ao:Option Addr) (zs:List Int):Prop:=∀i,i<zs.length->∃b o,ao=some ⟨b,o,none⟩/\b<w.heap.size/\N b/\w.cell? ⟨b,o+i,none⟩=some (.int .i64 (zs.getD i 0))
def RowsIn (w:World) (N:Nat->Prop) (ao:Option Addr) (rows:List (List Int)):Prop:=∀i,i<rows.length->∃b o ro au,ao=some ⟨b,o,none⟩/\b<w.heap.size/\N b /\
 w.cell? ⟨b,o+i,none⟩=some (.slice ro (rows.getD i []).length au)/\IntsIn w N ro (rows.getD i [])
theorem IntsIn.at_ {w:World} {N:Nat->Prop} {ao:Option Addr} {zs:List Int} (h:IntsIn w N ao zs):ax w ao zs:=fun i hi=>by
 obtain⟨b,o,h1,h2,_,h3⟩:=h i hi;exact⟨b,o,h1,h2,h3⟩
theorem IntsIn.fr {S N N':Nat->Prop} {w w':World} {ao:Option Addr} {zs:List Int} (h:IntsIn w N ao zs) (f:Fr S w w') (hn:∀k,k<w.heap.size->N k->¬S k/\N' k):IntsIn w' N' ao zs:=fun i hi=>by
 obtain⟨b,o,h1,h2,h3,h4⟩:=h i hi;exact⟨b,o,h1,Nat.lt_of_lt_of_le h2 f.size,(hn b h2 h3).2,(f.cell h2 (hn b h2 h3).1).trans h4⟩
theorem RowsIn.fr {S N N':Nat->Prop} {w w':World} {ao:Option Addr} {rows:List (List Int)} (h:RowsIn w N ao rows) (f:Fr S w w') (hn:∀k,k<w.heap.size->N k->¬S k/\N' k):RowsIn w' N' ao rows:=fun i hi=>by
 obtain⟨b,o,ro,rc,h1,h2,h3,h4,h5⟩:=h i hi;exact⟨b,o,ro,rc,h1,Nat.lt_of_lt_of_le h2 f.size,(hn b h2 h3).2,(f.cell h2 (hn b h2 h3).1).trans h4,h5.fr f hn⟩
def jI (w:World) (N:Nat->Prop) (xs:List Value) (rows:List (List Int)):Prop:=xs.length=rows.length/\∀j,j<rows.length->∃ro au,xs[j]? = some (.slice ro (rows.getD j []).length au)/\IntsIn w N ro (rows.getD j [])
theorem jI.nil (w:World) (N:Nat->Prop):jI w N [] []:=⟨rfl,fun j h=>by simp at h⟩
theorem jI.snoc {w:World} {N:Nat->Prop} {xs:List Value} {rows:List (List Int)} (h:jI w N xs rows) {ro:Option Addr} {au:Nat} {row:List Int} (hi:IntsIn w N ro row):jI w N (xs++[.slice ro row.length au]) (rows++[row]):=by
 refine⟨by simp[h.1],fun j hj=>?_⟩
 by_cases hlt:j<rows.length
 ·obtain⟨ro',rc',hx,hi'⟩:=h.2 j hlt;refine⟨ro',rc',?_,?_⟩
  ·rw[List.getElem?_append_left (by rw[h.1];exact hlt),hx]
   simp[List.getD,List.getElem?_append_left hlt]
  ·simpa[List.getD,List.getElem?_append_left hlt] using hi'
 ·obtain rfl:j=rows.length:=by simp at hj;omega
  refine⟨ro,au,?_,?_⟩
  ·rw[List.getElem?_append_right (by rw[h.1];exact Nat.le_refl _),h.1]
   simp[List.getD]
  ·simpa[List.getD] using hi
theorem Tryz.O5:(Tryz.prog.info? 22).map (fun i=>(i.zero,i.size,i.bytes))=some (some (.slice none 0 0),1,24):=by kernel_rfl
def aJ (rows:List (List Int)) (i v:Nat):List (List Int):=rows.filter (fun r=>gJ (r.getD i 0) v)
theorem Dh (rows:List (List Int)) (row:List Int) (i v:Nat):aJ (rows++[row]) i v=aJ rows i v++(if gJ (row.getD i 0) v then [row] else []):=by
 simp[aJ,List.filter_append,List.filter_cons]
set_option maxRecDepth 1000000 in
theorem yY (ro:Option Addr) (au:Nat) (rows:List (List Int)) (i v:Nat) (w:World) (hrl:rows.length<=60) (N:Nat->Prop) (hrs:RowsIn w N ro rows) (hi:∀j,j<rows.length->i<(rows.getD j []).length/\(rows.getD j []).length<=4):
  Calls Tryz.prog 86 #[.slice ro rows.length au,.int .i64 i,.int .i64 v] w fun e w'=>∃ro' abJ,e= .returned (.slice ro' (aJ rows i v).length abJ)/\Nw w w'/\RowsIn w' (fun k=>N k\/w.heap.size<=k) ro' (aJ rows i v):=by
 obtain⟨i0,hi0,hz0,hz1,hz2⟩:=info_parts Tryz.O5;go_enter Tryz.func86,Tryz.ntmps86
 go_wp2_with fail
 go_loopw [7,12] (fun sv p wr=>∃(k:Nat) (xs:List Value),k<=rows.length/\p= .int .i64 k/\Row wr sv 22 xs/\Hid (jI w N xs (aJ (rows.take k) i v))/\xs.length<=k/\Nw w wr/\(∀j,sv.ownBlock=some j->w.heap.size<=j)) (fun _ p _=>rows.length-(intOf p).toNat)
 case atStart=>exact⟨0,[],Nat.zero_le _,rfl,Row.nil _ _,jI.nil w N,by simp,Fr.refl _ _,fun j h=>by cases h⟩
 case round=>
  obtain⟨k,xs,hk,rfl,hr,hS,hxk,hf,hlo⟩:=hrel;by_cases hlt:k<rows.length
  ·obtain⟨b,o,rr,rc,rfl,hb,_,hc,hints⟩:=hrs k hlt;obtain⟨hil,hl4⟩:=hi k hlt;have hc':wr.cell? ⟨b,o+k,none⟩=some (.slice rr (rows.getD k []).length rc):=(hf.cell hb (fun x=>x)).trans hc
   obtain⟨b2,o2,rfl,hb2,_,hc2⟩:=hints i hil;have hc2':wr.cell? ⟨b2,o2+i,none⟩=some (.int .i64 ((rows.getD k []).getD i 0)):=(hf.cell hb2 (fun x=>x)).trans hc2
   have htake:rows.take (k+1)=rows.take k++[rows.getD k []]:=by
    rw[List.take_succ_eq_append_getElem hlt];simp[hlt]
   have hbs:=Dh (rows.take k) (rows.getD k []) i v;rw[<-htake] at hbs;obtain⟨row,hrow⟩:∃row,rows.getD k []=row:=⟨_,rfl⟩;rw[hrow] at hc' hil hl4 hc2' hbs hints;obtain⟨ev,hev⟩:∃ev,row.getD i 0=ev:=⟨_,rfl⟩;rw[hev] at hc2' hbs;have Zm:=hd hbs;have Hints:=hd hints;have hii:(i:Int)<(row.length:Int):=by omega
   clear hbs htake hrow hev hc hc2 hints hrs;cases DX:gJ ev v with
   | false=>
    have hb':(ev == -1 || ev==(v:Int))=false:=DX
    have SI:=hd DX;clear DX;go_wp2_with (go_at_call 88;refine(bears_any ev v _).mono ?_;rw[hb'];rintro e w' ⟨rfl,rfl⟩)
    go_roundw
    case rel=>
     refine⟨k+1,xs,by omega,by go_num,hr,?_,by omega,hf,hlo⟩
     show jI _ _ _ _
     rw[Zm.out,SI.out];simpa using hS.out
    case measure=>simp[intOf];omega
   | true=>
    have hb':(ev == -1 || ev==(v:Int))=true:=DX
    have SI:=hd DX;clear DX;go_wp2_with (first
     | (go_at_call 88;refine(bears_any ev v _).mono ?_;rw[hb'];rintro e w' ⟨rfl,rfl⟩)
     | (at_builtin;refine wpList_append_own_at _ rfl _ _ 26 rfl 0 22 i0 (.slice none 0 0) 1 24 Tryz.underlying26 hi0 hz0 hz1 hz2 rfl (by decide) _ _ _ rfl (hr.alloc _) ⟨_,0,none⟩ 1 1 [.slice (some ⟨b2,o2,none⟩) row.length rc] rfl rfl (cell_one_new _ _ _) (by simp[Value.oneCell']) (by unfold maxLen;omega) (by omega) (Nat.zero_le _) ?_;intro v' w1 hown' hgrow _ hat;obtain⟨g',cap',rfl,hr1,hf1,ha1,hlt1⟩:=app1 hown' hgrow hat;clear hown' hgrow hat))
    refine⟨⟨k+1,xs++[.slice (some ⟨b2,o2,none⟩) row.length rc],by omega,by go_num,hr1,?_,by simp;omega,hf.trans hf1 (fun j hj=>.inr (hlo j hj)),fun j hj=>?_⟩,by simp[intOf];omega⟩
    ·show jI _ _ _ _
     rw[Zm.out,SI.out];exact hS.out.snoc Hints.out
    ·have e2:g'=j:=by cases hj;rfl
     rcases ha1 with h | h
     ·exact hlo j (by rw[<-e2];exact h)
     ·have:=hf.size
      omega
  ·obtain rfl:k=rows.length:=by omega
   go_wp2
   have hS':=hS.out;rw[List.take_length] at hS';obtain⟨ao,cap,hform,hao⟩:=hr.form;rw[hS'.1] at hform;subst hform;go_ret
   refine⟨ao,cap,rfl,hf,fun j hj=>?_⟩
   have hjx:j<xs.length:=by rw[hS'.1];exact hj
   obtain⟨g,c,he,hown,hcell,_⟩:=hr.cell j hjx;have hag:ao=some ⟨g,0,none⟩:=by injection he
   subst hag;obtain⟨ro',rc',hx,hI⟩:=hS'.2 j hj;refine⟨g,0,ro',rc',rfl,hr.lt hown,.inr (hlo g hown),?_,hI.fr hf (fun k _ hk=>⟨fun x=>x,.inl hk⟩)⟩
   rw[Nat.zero_add,hcell];rw[List.getElem?_eq_getElem hjx] at hx
   exact hx
end Go.Proofs.YtkjfpdfkcfgfkaaGreat
namespace Go.Proofs.YtkjfpdfkcfgfkaaGreat
open Go.RowKit Go.Maps Go.Shelf
attribute [local go_sem] Oper.semAt_some
def dA (f:List (List Int)->List (List Nat)->List (List Nat)×Nat) (rows:List (List Int)) (i:Nat) (st:List (List Nat)×List Nat) (v:Nat):List (List Nat)×List Nat:=
 ((f (aJ rows i v) st.1).1,st.2.set v (f (aJ rows i v) st.1).2)
def aY (vars:List Int) (nt:Bool) (dn:List Nat):Nat->Nat->List (List Int)->List (List Nat)->List (List Nat)×Nat
 | 0,_,rows,ns=>if rows.isEmpty && !nt then (ns,0) else if nt && !rows.isEmpty then (ns,0) else (ns,1)
 | m+1,i,rows,ns=>if rows.isEmpty && !nt then (ns,0) else
   aB ((vals (dn.getD (vars.getD i 0).toNat 0)).foldl (dA (aY vars nt dn m (i+1)) rows i) (ns,zero6)).1 ((vals (dn.getD (vars.getD i 0).toNat 0)).foldl (dA (aY vars nt dn m (i+1)) rows i) (ns,zero6)).2
structure oM (A:World) (T b:Nat) (tv:Array Value) (rv:Value) (i Dm:Nat):Prop where
 b0:af A T #[.pointer (some ⟨b,0,none⟩)] 113
 b1:af A (T+1) tv 41
 b2:af A (T+1+1) #[rv] 26
 b3:af A (T+1+1+1) #[.int .i64 (i:Int)] 3
 b4:af A (T+1+1+1+1) #[.pointer (some ⟨Dm,0,none⟩)] 116
theorem oM.fr {S:Nat->Prop} {A B:World} {T b:Nat} {tv:Array Value} {rv:Value} {i Dm:Nat} (h:oM A T b tv rv i Dm) (f:Fr S A B) (hn:∀k,T<=k->k<=T+4->¬S k):oM B T b tv rv i Dm:=
 ⟨h.b0.fr f (hn _ (by omega) (by omega)),h.b1.fr f (hn _ (by omega) (by omega)),h.b2.fr f (hn _ (by omega) (by omega)),h.b3.fr f (hn _ (by omega) (by omega)),h.b4.fr f (hn _ (by omega) (by omega))⟩
theorem oM.bk {lo:Nat} {A B:World} {T b:Nat} {tv:Array Value} {rv:Value} {i Dm:Nat} (h:oM A T b tv rv i Dm) (hb:Bk lo A B):oM B T b tv rv i Dm:=⟨h.b0.bk hb,h.b1.bk hb,h.b2.bk hb,h.b3.bk hb,h.b4.bk hb⟩
def boxedB (w:World) (b:Nat) (tv:Array Value) (rv:Value) (i Dm:Nat):World:=((((w.alloc (.cells #[.pointer (some ⟨b,0,none⟩)] 113)).alloc (.cells tv 41)).alloc (.cells #[rv] 26)).alloc (.cells #[.int .i64 (i:Int)] 3)).alloc (.cells #[.pointer (some ⟨Dm,0,none⟩)] 116)
theorem yj (w:World) (b:Nat) (tv:Array Value) (rv:Value) (i Dm:Nat):Nw w (boxedB w b tv rv i Dm):=(((((Fr.refl _ w).alloc _).alloc _).alloc _).alloc _).alloc _
theorem uK (w:World) (b:Nat) (tv:Array Value) (rv:Value) (i Dm:Nat):oM (boxedB w b tv rv i Dm) w.heap.size b tv rv i Dm:=by
 refine⟨((((af.new w _ _).alloc _).alloc _).alloc _).alloc _,?_,?_,?_,?_⟩
 ·have:=(((af.new (w.alloc (.cells #[.pointer (some ⟨b,0,none⟩)] 113)) tv 41).alloc (.cells #[rv] 26)).alloc (.cells #[.int .i64 (i:Int)] 3)).alloc (.cells #[.pointer (some ⟨Dm,0,none⟩)] 116)
  simp only[tY] at this;exact this
 ·have:=((af.new ((w.alloc (.cells #[.pointer (some ⟨b,0,none⟩)] 113)).alloc (.cells tv 41)) #[rv] 26).alloc (.cells #[.int .i64 (i:Int)] 3)).alloc (.cells #[.pointer (some ⟨Dm,0,none⟩)] 116)
  simp only[tY] at this;exact this
 ·have:=(af.new (((w.alloc (.cells #[.pointer (some ⟨b,0,none⟩)] 113)).alloc (.cells tv 41)).alloc (.cells #[rv] 26)) #[.int .i64 (i:Int)] 3).alloc (.cells #[.pointer (some ⟨Dm,0,none⟩)] 116)
  simp only[tY] at this;exact this
 ·have:=af.new ((((w.alloc (.cells #[.pointer (some ⟨b,0,none⟩)] 113)).alloc (.cells tv 41)).alloc (.cells #[rv] 26)).alloc (.cells #[.int .i64 (i:Int)] 3)) #[.pointer (some ⟨Dm,0,none⟩)] 116
  simp only[tY] at this;exact this
set_option maxRecDepth 1000000 in
theorem DY (b Dm i n:Nat) (vo ro:Option Addr) (ak au:Nat) (mW:Value) (nt:Bool) (way:Int) (rl:Nat) (w:World) (hn:n<=4) (hrl:rl<=60) (h:(rl=0/\nt=false)\/i=n):
  Calls Tryz.prog 67 #[.pointer (some ⟨b,0,none⟩),.agg #[.slice vo n ak,mW,.bool nt,.int .i64 way],.slice ro rl au,.int .i64 i,.pointer (some ⟨Dm,0,none⟩)] w fun e w'=>
   e= .returned (.int .i64 (if rl=0/\nt=false then 0 else if nt=true/\rl≠0 then 0 else 1))/\Nw w w':=by
 obtain⟨W,hW⟩:∃W,W=boxedB w b #[.slice vo n ak,mW,.bool nt,.int .i64 way] (.slice ro rl au) i Dm:=⟨_,rfl⟩;have dM:Nw w W:=by rw[hW];exact yj ..
 have hbx:oM W w.heap.size b #[.slice vo n ak,mW,.bool nt,.int .i64 way] (.slice ro rl au) i Dm:=by rw[hW];exact uK ..
 have a1:W.cell? ⟨w.heap.size+1,0,none⟩=some (.slice vo n ak):=hbx.b1.cell 0
 have a2:W.cell? ⟨w.heap.size+1,2,none⟩=some (.bool nt):=hbx.b1.cell 2
 have a3:W.cell? ⟨w.heap.size+1+1,0,none⟩=some (.slice ro rl au):=hbx.b2.cell 0
 have a4:W.cell? ⟨w.heap.size+1+1+1,0,none⟩=some (.int .i64 (i:Int)):=hbx.b3.cell 0
 have HW:=hd hW;clear hW hbx;by_cases hz:rl=0
 ·subst hz;cases nt with
  | false=>
   go_enter Tryz.func67,Tryz.ntmps67
   go_upto_region 1 with fail
   rw[show ((((w.alloc (.cells #[.pointer (some ⟨b,0,none⟩)] 113)).alloc (.cells #[.slice vo n ak,mW,.bool false,.int .i64 way] 41)).alloc (.cells #[.slice ro 0 au] 26)).alloc (.cells #[.int .i64 (i:Int)] 3)).alloc (.cells #[.pointer (some ⟨Dm,0,none⟩)] 116)=W from HW.out.symm]
   go_wp2
   go_ret
   exact⟨by simp,dM⟩
  | true=>
   have hin:i=n:=by simpa using h
   subst hin;go_enter Tryz.func67,Tryz.ntmps67
   go_upto_region 1 with fail
   rw[show ((((w.alloc (.cells #[.pointer (some ⟨b,0,none⟩)] 113)).alloc (.cells #[.slice vo i ak,mW,.bool true,.int .i64 way] 41)).alloc (.cells #[.slice ro 0 au] 26)).alloc (.cells #[.int .i64 (i:Int)] 3)).alloc (.cells #[.pointer (some ⟨Dm,0,none⟩)] 116)=W from HW.out.symm]
   go_wp2
   go_ret
   exact⟨by simp,dM⟩
 ·have hin:i=n:=by simpa[hz] using h
  subst hin;have hz':((rl:Int)==0)=false:=by simp;omega
  have hz2:(0:Int)<(rl:Int):=by omega
  cases nt with
  | false=>
   go_enter Tryz.func67,Tryz.ntmps67
   go_upto_region 1 with fail
   rw[show ((((w.alloc (.cells #[.pointer (some ⟨b,0,none⟩)] 113)).alloc (.cells #[.slice vo i ak,mW,.bool false,.int .i64 way] 41)).alloc (.cells #[.slice ro rl au] 26)).alloc (.cells #[.int .i64 (i:Int)] 3)).alloc (.cells #[.pointer (some ⟨Dm,0,none⟩)] 116)=W from HW.out.symm]
   go_wp2
   go_ret
   exact⟨by simp,dM⟩
  | true=>
   go_enter Tryz.func67,Tryz.ntmps67
   go_upto_region 1 with fail
   rw[show ((((w.alloc (.cells #[.pointer (some ⟨b,0,none⟩)] 113)).alloc (.cells #[.slice vo i ak,mW,.bool true,.int .i64 way] 41)).alloc (.cells #[.slice ro rl au] 26)).alloc (.cells #[.int .i64 (i:Int)] 3)).alloc (.cells #[.pointer (some ⟨Dm,0,none⟩)] 116)=W from HW.out.symm]
   go_wp2
   go_ret
   exact⟨by simp,dM⟩
def cnt:Nat->Nat
 | 0=>0
 | m+1=>6*cnt m+1
theorem oq {α β:Type} (R:Nat->β->Prop) (f:β->α->β):∀(l:List α) (k:Nat) (b:β),(∀k b a,a∈l->R k b->R (k+1) (f b a))->R k b->R (k+l.length) (l.foldl f b)
 | [],k,b,_,hb=>hb
 | a::l,k,b,h,hb=>by
  have:=oq R f l (k+1) (f b a) (fun k' b' a' ha=>h k' b' a' (List.mem_cons_of_mem _ ha)) (h k b a (List.mem_cons_self ..) hb)
  rw[List.length_cons,show k+(l.length+1)=k+1+l.length by omega]
  exact this
theorem Kz (n:List Nat):∀(l:List (List Nat)) (k j:Nat),idx n l k=some j->j<k+l.length
 | [],k,j,h=>by simp[idx] at h
 | x::r,k,j,h=>by
  simp only[idx] at h;split at h
  ·cases h;simp
  ·have:=Kz n r (k+1) j h
   simp
   omega
theorem qw (ns:List (List Nat)) (h2:2<=ns.length) (n:List Nat):ns.length<=(aB ns n).1.length/\(aB ns n).1.length<=ns.length+1/\(aB ns n).2<=ns.length:=by
 unfold aB;split
 ·exact⟨Nat.le_refl _,Nat.le_succ _,Nat.zero_le _⟩
 ·split
  ·rename_i k hk;have:=Kz n (ns.drop 2) 2 k hk
   simp only[List.length_drop] at this;exact⟨Nat.le_refl _,Nat.le_succ _,by show k<=ns.length;omega⟩
  ·simp
theorem lX {s:Nat} (h:s<64):(vals s).length<=6:=by
 have:∀s:Fin 64,(vals s.val).length<=6:=by decide +kernel
 exact this ⟨s,h⟩
theorem SK {l:List Nat} {B:Nat} (h:l.length=6/\∀x∈l,x<=B) (v x:Nat) (hx:x<=B):(l.set v x).length=6/\∀y∈l.set v x,y<=B:=
 ⟨by simpa using h.1,fun y hy=>by
  rcases List.mem_or_eq_of_mem_set hy with h1 | h1
  ·exact h.2 y h1
  ·rw[h1];exact hx⟩
theorem pq (vars:List Int) (nt:Bool) (dn:List Nat) (hd:∀q,dn.getD q 0<64):∀(m i:Nat) (rows:List (List Int)) (ns:List (List Nat)),2<=ns.length ->
  ns.length<=(aY vars nt dn m i rows ns).1.length/\(aY vars nt dn m i rows ns).1.length<=ns.length+cnt m/\(aY vars nt dn m i rows ns).2<=ns.length+cnt m
 | 0,i,rows,ns,h2=>by
  unfold aY;split
  ·exact⟨Nat.le_refl _,by simp[cnt],by simp⟩
  ·split
   ·exact⟨Nat.le_refl _,by simp[cnt],by simp⟩
   ·exact⟨Nat.le_refl _,by simp[cnt],by simp[cnt];omega⟩
 | m+1,i,rows,ns,h2=>by
  unfold aY;split
  ·exact⟨Nat.le_refl _,by simp,by simp⟩
  ·have hv:=lX (hd (vars.getD i 0).toNat);have key:=oq (fun (k:Nat) (st:List (List Nat)×List Nat)=>ns.length<=st.1.length/\st.1.length<=ns.length+k*cnt m) (dA (aY vars nt dn m (i+1)) rows i) (vals (dn.getD (vars.getD i 0).toNat 0)) 0 (ns,zero6)
    (fun k st v _ hst=>by
     have ih:=pq vars nt dn hd m (i+1) (aJ rows i v) st.1 (by omega)
     have:(k+1)*cnt m=k*cnt m+cnt m:=Nat.succ_mul k (cnt m)
     exact⟨by show ns.length<=(aY vars nt dn m (i+1) (aJ rows i v) st.1).1.length;omega,by show (aY vars nt dn m (i+1) (aJ rows i v) st.1).1.length<=_;omega⟩) ⟨Nat.le_refl _,by simp⟩
   rw[Nat.zero_add] at key;generalize (vals (dn.getD (vars.getD i 0).toNat 0)).foldl (dA (aY vars nt dn m (i+1)) rows i) (ns,zero6)=st at key
   have hm:(vals (dn.getD (vars.getD i 0).toNat 0)).length*cnt m<=6*cnt m:=Nat.mul_le_mul_right _ hv;have hn:=qw st.1 (by omega) st.2
   simp only[cnt];omega
def FP (b M:Nat) (nv:Value) (k:Nat):Prop:=k=b\/k=M\/nv.ownBlock=some k
theorem ownsRow.bk {lo:Nat} {A B:World} {v:Value} {e:TypeId} {size n:Nat} {xs:List Value} (h:A.ownsRow 0 e size v n xs) (hb:Bk lo A B):B.ownsRow 0 e size v n xs:=by
 refine⟨h.1,?_⟩
 rcases h.2 with h2 | ⟨g,cap,cur,rfl,hbb,hg,r⟩
 ·exact .inl h2
 ·exact .inr ⟨g,cap,cur,rfl,hbb,af.bk (lo:=lo) hg hb,r⟩
theorem sS.bk {lo:Nat} {A B:World} {b M:Nat} {nv:Value} {ns:List (List Nat)} (h:sS A b M nv ns) (hb:Bk lo A B) (hl:M<lo):sS B b M nv ns:=by
 obtain⟨g,hm,hg⟩:=h.map;exact⟨h.blk.bk hb,ownsRow.bk h.row hb,⟨g,hm.bk hb hl,hg⟩,h.ok,h.two,h.few⟩
theorem sS.drew {A:World} {b M:Nat} {nv:Value} {ns:List (List Nat)} (h:sS A b M nv ns):sS A.drew b M nv ns:=h.nw ((Fr.refl _ A).drew)
theorem sS.lt {w:World} {b M:Nat} {nv:Value} {ns:List (List Nat)} (h:sS w b M nv ns) {k:Nat} (hk:FP b M nv k):k<w.heap.size:=by
 rcases hk with rfl | rfl | hk
 ·exact h.blk.lt
 ·obtain⟨f,hm,_⟩:=h.map;exact hm.lt
 ·exact(World.ownsRow.lt h.row k hk).2
theorem sS.other {w:World} {b M:Nat} {nv:Value} {ns:List (List Nat)} (h:sS w b M nv ns) {k:Nat} {cur:Array Value} {e:TypeId} (hb:af w k cur e) (h1:e≠123) (h2:e≠151):¬FP b M nv k:=by
 rintro(rfl | rfl | hk)
 ·exact h1 (hb.inj h.blk).2
 ·obtain⟨f,hm,_⟩:=h.map;exact hm.ne hb rfl
 ·rcases h.row.2 with ⟨rfl,_⟩ | ⟨g,cap,c2,rfl,_,hg,_⟩
  ·cases hk
  ·cases hk;exact h2 (hb.inj (show af w g c2 151 from hg)).2
theorem sS.kV {w:World} {b M:Nat} {nv:Value} {ns:List (List Nat)} (h:sS w b M nv ns):∀k,FP b M nv k->∃o,w.heap[k]? = some o/\kV o=false:=by
 rintro k (rfl | rfl | hk)
 ·exact⟨_,h.blk,rfl⟩
 ·obtain⟨f,hm,_⟩:=h.map;exact hm.map
 ·rcases h.row.2 with ⟨rfl,_⟩ | ⟨g,cap,c2,rfl,_,hg,_⟩
  ·cases hk
  ·cases hk;exact⟨_,hg,rfl⟩
end Go.Proofs.YtkjfpdfkcfgfkaaGreat
namespace Go.Proofs.YtkjfpdfkcfgfkaaGreat
open Go.RowKit Go.Maps Go.Shelf
attribute [local go_sem] Oper.semAt_some
theorem Zv {Q:Exit->Act->World->Prop} {a:Act} {w:World} {l:List Oper} {id lp k:Nat} {S:World->Prop} (z:Nat) (hnd:sO l=true) (hQ:∀a w,¬Q .outgrown a w)
  (h:gK Tryz.prog .any l.toArray Q S z l.toArray.size (Array.replicate l.toArray.size false) a w.drew):(Code.region id l.toArray true).wpIn (Fence.wide.inRound lp) k Tryz.prog Q a w:=by
 refine wpIn_region_any (by kernel_rfl) (x8 lp k hQ (fun j o ho c hc=>?_) _ _ _ _ (Am _ _ _ _ h))
 have hmem:o∈l:=List.mem_of_getElem? (l:=l) (i:=j) (a:=o) (by simpa using ho)
 have:=List.all_eq_true.1 hnd o hmem
 rw[hc] at this;cases this
theorem EW {Q:Exit->Act->World->Prop} {a:Act} {w:World} {l:List Oper} {id lp k:Nat} {S:World->Prop} (hnd:sO l=true) (hQ:∀a w,¬Q .outgrown a w)
  (h:wpAnyH Tryz.prog .any l.toArray Q S l.toArray.size (Array.replicate l.toArray.size false) a w.drew):(Code.region id l.toArray true).wpIn (Fence.wide.inRound lp) k Tryz.prog Q a w:=by
 refine wpIn_region_any (by kernel_rfl) (x8 lp k hQ (fun j o ho c hc=>?_) _ _ _ _ (wpAny_of_held _ _ _ _ h))
 have hmem:o∈l:=List.mem_of_getElem? (l:=l) (i:=j) (a:=o) (by simpa using ho)
 have:=List.all_eq_true.1 hnd o hmem
 rw[hc] at this;cases this
def EX (b M Dm:Nat) (vo:Option Addr) (ak:Nat) (mW:Value) (nt:Bool) (way:Int) (vars:List Int) (dn:List Nat) (m i:Nat):Prop:=∀(rows:List (List Int)) (ns:List (List Nat)) (nv:Value) (ro:Option Addr) (au:Nat) (w:World),
 rows.length<=60->(∀j,j<rows.length->(rows.getD j []).length=vars.length)->ns.length+cnt m<100000->sS w b M nv ns->IntsIn w (fun k=>¬FP b M nv k) vo vars->RowsIn w (fun k=>¬FP b M nv k) ro rows->af w Dm (ay dn) 60 ->
 Calls Tryz.prog 67 #[.pointer (some ⟨b,0,none⟩),.agg #[.slice vo vars.length ak,mW,.bool nt,.int .i64 way],.slice ro rows.length au,.int .i64 i,.pointer (some ⟨Dm,0,none⟩)] w fun e w'=>
  e= .returned (.int .i64 ((aY vars nt dn m i rows ns).2:Nat))/\∃uy,sS w' b M uy (aY vars nt dn m i rows ns).1/\Fr (FP b M nv) w w'/\(∀k,uy.ownBlock=some k->nv.ownBlock=some k\/w.heap.size<=k)
structure wo (w wr:World) (b M Dm:Nat) (nv:Value) (tv:Array Value) (rv:Value) (i Nn:Nat) (st:List (List Nat)×List Nat):Prop where
 fr:Fr (FP b M nv) w wr
 bx:oM wr w.heap.size b tv rv i Dm
 bN:af wr Nn (aT st.2).toArray 151
 vO:∃kE,sS wr b M kE st.1/\(∀k,kE.ownBlock=some k->nv.ownBlock=some k\/w.heap.size<=k)/\kE.ownBlock≠some Nn
theorem wo.bk {w wr wx:World} {b M Dm lo:Nat} {nv:Value} {tv:Array Value} {rv:Value} {i Nn:Nat} {st:List (List Nat)×List Nat} (h:wo w wr b M Dm nv tv rv i Nn st) (hb:Bk lo wr wx) (hl:w.heap.size<=lo) (hM:M<lo):wo w wx b M Dm nv tv rv i Nn st:=by
 obtain⟨kE,h1,h2,h3⟩:=h.vO;exact⟨h.fr.bk hb hl,h.bx.bk hb,h.bN.bk hb,⟨kE,h1.bk hb hM,h2,h3⟩⟩
theorem wo.drew {w wr:World} {b M Dm:Nat} {nv:Value} {tv:Array Value} {rv:Value} {i Nn:Nat} {st:List (List Nat)×List Nat} (h:wo w wr b M Dm nv tv rv i Nn st):wo w wr.drew b M Dm nv tv rv i Nn st:=by
 obtain⟨kE,h1,h2,h3⟩:=h.vO;exact⟨h.fr.drew,⟨h.bx.b0,h.bx.b1,h.bx.b2,h.bx.b3,h.bx.b4⟩,h.bN,⟨kE,h1.drew,h2,h3⟩⟩
theorem zY (vars:List Int) (nt:Bool) (dn:List Nat) (aX:∀q,dn.getD q 0<64) (m i:Nat) (rows:List (List Int)) (ns:List (List Nat)) (h2:2<=ns.length) (l:List Nat) (st:List (List Nat)×List Nat)
  (hst:l.foldl (dA (aY vars nt dn m (i+1)) rows i) (ns,zero6)=st):
  (ns.length<=st.1.length/\st.1.length<=ns.length+l.length*cnt m)/\st.2.length=6/\∀x∈st.2,x<=ns.length+l.length*cnt m:=by
 have:=oq (fun (k:Nat) (st:List (List Nat)×List Nat)=>(ns.length<=st.1.length/\st.1.length<=ns.length+k*cnt m)/\st.2.length=6/\∀x∈st.2,x<=ns.length+k*cnt m) (dA (aY vars nt dn m (i+1)) rows i) l 0 (ns,zero6)
  (fun k st v _ hst=>by
   have ih:=pq vars nt dn aX m (i+1) (aJ rows i v) st.1 (by omega)
   have hk:(k+1)*cnt m=k*cnt m+cnt m:=Nat.succ_mul k (cnt m);refine⟨⟨by show ns.length<=(aY vars nt dn m (i+1) (aJ rows i v) st.1).1.length;omega,by show (aY vars nt dn m (i+1) (aJ rows i v) st.1).1.length<=_;omega⟩,?_⟩
   refine SK ⟨hst.2.1,fun x hx=>?_⟩ v _ (by omega)
   have:=hst.2.2 x hx
   omega) ⟨⟨Nat.le_refl _,by simp⟩,rfl,by simp[zero6]⟩
 rw[Nat.zero_add,hst] at this;exact this
set_option maxRecDepth 1000000 in
theorem O6 (b M Dm:Nat) (vo:Option Addr) (ak:Nat) (mW:Value) (nt:Bool) (way:Int) (vars:List Int) (dn:List Nat) (m i:Nat)
  (h8:dn.length=8) (h4:vars.length<=4) (hv:∀i,i<vars.length->0<=vars.getD i 0/\vars.getD i 0<8) (aX:∀q,dn.getD q 0<64)
  (hi:i<vars.length) (ih:EX b M Dm vo ak mW nt way vars dn m (i+1)) (rows:List (List Int)) (ns:List (List Nat)) (nv:Value) (ro:Option Addr) (au:Nat) (w:World)
  (hrl:rows.length<=60) (hrow:∀j,j<rows.length->(rows.getD j []).length=vars.length) (hne:rows≠[]) (hcnt:ns.length+cnt (m+1)<100000) (hB:sS w b M nv ns) (hvs:IntsIn w (fun k=>¬FP b M nv k) vo vars) (hrs:RowsIn w (fun k=>¬FP b M nv k) ro rows) (yg:af w Dm (ay dn) 60):
  Calls Tryz.prog 67 #[.pointer (some ⟨b,0,none⟩),.agg #[.slice vo vars.length ak,mW,.bool nt,.int .i64 way],.slice ro rows.length au,.int .i64 i,.pointer (some ⟨Dm,0,none⟩)] w fun e w'=>
   e= .returned (.int .i64 ((aY vars nt dn (m+1) i rows ns).2:Nat))/\∃uy,sS w' b M uy (aY vars nt dn (m+1) i rows ns).1/\Fr (FP b M nv) w w'/\(∀k,uy.ownBlock=some k->nv.ownBlock=some k\/w.heap.size<=k):=by
 have hmf:∀(fn:Fn) (first cap:Array Value) (w:World),(Instr.makeFunc fn first cap).run Tryz.prog w= .ok (.func fn first cap) w:=fun _ _ _ _=>rfl
 obtain⟨hv0,jv⟩:=hv i hi;obtain⟨q,hq⟩:∃q:Nat,vars.getD i 0=(q:Int):=⟨(vars.getD i 0).toNat,by omega⟩
 obtain⟨vb,iT,hvo,Zw,aeq,CW⟩:=hvs i hi;subst hvo;rw[hq] at hv0 jv CW;have hq8:q<8:=by omega
 have hDN:¬FP b M nv Dm:=hB.other yg (by decide) (by decide)
 obtain⟨sx,mM⟩:∃sx,dn.getD q 0=sx:=⟨_,rfl⟩;have hsx:=aX q;rw[mM] at hsx;obtain⟨fin,hfin⟩:∃fin,(vals sx).foldl (dA (aY vars nt dn m (i+1)) rows i) (ns,zero6)=fin:=⟨_,rfl⟩;have hbt:aY vars nt dn (m+1) i rows ns=aB fin.1 fin.2:=by
  have hne':(rows.isEmpty && !nt)=false:=by simp[hne]
  rw[aY,hne',hq,Int.toNat_natCast,mM,hfin];simp
 rw[hbt];have hg1:((rows.length:Int)==0)=false:=by
  have:rows.length≠0:=fun h=>hne (List.length_eq_zero_iff.1 h)
  simp;omega
 have hin0:((i:Int)==(vars.length:Int))=false:=by simp;omega
 obtain⟨W,hW⟩:∃W,W=boxedB w b #[.slice (some ⟨vb,iT,none⟩) vars.length ak,mW,.bool nt,.int .i64 way] (.slice ro rows.length au) i Dm:=⟨_,rfl⟩;have dM:Nw w W:=by rw[hW];exact yj ..
 have hbx:oM W w.heap.size b #[.slice (some ⟨vb,iT,none⟩) vars.length ak,mW,.bool nt,.int .i64 way] (.slice ro rows.length au) i Dm:=by rw[hW];exact uK ..
 have hsW:W.heap.size=w.heap.size+5:=by rw[hW];simp[boxedB]
 have a1:W.cell? ⟨w.heap.size+1,0,none⟩=some (.slice (some ⟨vb,iT,none⟩) vars.length ak):=hbx.b1.cell 0
 have a2:W.cell? ⟨w.heap.size+1,2,none⟩=some (.bool nt):=hbx.b1.cell 2
 have a3:W.cell? ⟨w.heap.size+1+1,0,none⟩=some (.slice ro rows.length au):=hbx.b2.cell 0
 have a4:W.cell? ⟨w.heap.size+1+1+1,0,none⟩=some (.int .i64 (i:Int)):=hbx.b3.cell 0
 have HW:=hd hW;have DU:=hd hbx;have uq:=hd hsW;have HB:=hd hB;have zV:=hd hvs;have DZ:=hd hrs;have HDm:=hd yg;have fQ:=hd hfin;have Ku:=hd mM;have Hq:=hd hq;have JV:=hd ih;clear hW hbx hsW hB hvs hrs yg hfin mM hq hbt ih;refine(callsIn_wide (n:=9)).1 ?_
 refine callsIn_of_wp_marks Tryz.func67 rfl trivial ?_ rfl
 simp only[Tryz.ntmps67,List.size_toArray,List.length_cons,List.length_nil,Nat.reduceAdd,Nat.reduceSub,Array.replicate_succ,Array.replicate_zero,List.push_toArray,List.append_toArray,List.nil_append,List.cons_append];gi_upto_region 1 with fail
 rw[show ((((w.alloc (.cells #[.pointer (some ⟨b,0,none⟩)] 113)).alloc (.cells #[.slice (some ⟨vb,iT,none⟩) vars.length ak,mW,.bool nt,.int .i64 way] 41)).alloc (.cells #[.slice ro rows.length au] 26)).alloc (.cells #[.int .i64 (i:Int)] 3)).alloc (.cells #[.pointer (some ⟨Dm,0,none⟩)] 116)=W from HW.out.symm]
 clear HW;gi_upto_region 7 with fail
 gi_upto_region 8 with fail
 obtain⟨Z,hZ⟩:∃Z,Z=W.alloc (.cells (aT zero6).toArray 151):=⟨_,rfl⟩;have qm:Nw W Z:=by rw[hZ];exact(Fr.refl _ W).alloc _
 have uw:af Z W.heap.size (aT zero6).toArray 151:=by rw[hZ];exact af.new _ _ _
 rw[show W.alloc (Obj.cells #[Value.int .i64 0,.int .i64 0,.int .i64 0,.int .i64 0,.int .i64 0,.int .i64 0] 151)=Z from hZ.symm]
 have G6:Nw w Z:=dM.trans qm (fun i h=>h.elim)
 have Gt:M<w.heap.size:=HB.out.lt (.inr (.inl rfl));have hbl:b<w.heap.size:=HB.out.lt (.inl rfl);have hI0:wo w Z b M Dm nv #[.slice (some ⟨vb,iT,none⟩) vars.length ak,mW,.bool nt,.int .i64 way] (.slice ro rows.length au) i W.heap.size (ns,zero6):=
  ⟨G6.mono (fun i h=>h.elim),DU.out.fr qm (fun k _ _ x=>x),uw,⟨nv,HB.out.nw G6,fun k hk=>.inl hk,fun e=>by have:=HB.out.lt (.inr (.inr e));have:=uq.out;omega⟩⟩
 have a1':Z.cell? ⟨w.heap.size+1,0,none⟩=some (.slice (some ⟨vb,iT,none⟩) vars.length ak):=hI0.bx.b1.cell 0
 have a4':Z.cell? ⟨w.heap.size+1+1+1,0,none⟩=some (.int .i64 (i:Int)):=hI0.bx.b3.cell 0
 have a5':Z.cell? ⟨w.heap.size+1+1+1+1,0,none⟩=some (.pointer (some ⟨Dm,0,none⟩)):=hI0.bx.b4.cell 0
 have aV:Z.cell? ⟨vb,iT+i,none⟩=some (.int .i64 (q:Int)):=(G6.cell Zw (fun x=>x)).trans CW
 have aD:Z.cell? ⟨Dm,q,none⟩=some (.int .u8 (sx:Int)):=by rw[<-Ku.out];exact((HDm.out.nw G6).cell q).trans (dh dn q (by omega))
 have Sv:w.heap.size+6<=Z.heap.size:=by have:=uw.lt;have:=uq.out;omega
 have HI0:=hd hI0;have hiV:(i:Int)<(vars.length:Int):=by omega
 clear hI0 hZ uw a1 a2 a3 a4 CW;refine wpIn_wide.2 ?_
 go_still (by kernel_rfl)
 go_wp2
 gi_wp2_with fail
 show Code.wpIn _ _ _ _ _ _ Z.drew
 have wu:Z.drew.heap.size=Z.heap.size:=rfl;refine pX (show sx<256 by omega) rfl (by simp) (fun pre A=>wo w A b M Dm nv #[.slice (some ⟨vb,iT,none⟩) vars.length ak,mW,.bool nt,.int .i64 way] (.slice ro rows.length au) i W.heap.size (pre.foldl (dA (aY vars nt dn m (i+1)) rows i) (ns,zero6)))
  (fun pre A B h hb=>h.bk hb (by rw[wu];omega) (by rw[wu];omega)) HI0.out.drew ?body ?done
 case body=>
  rintro l pre v A hpre hI
  have hmem:v∈vals sx:=hpre.subset (List.mem_append_right pre (List.mem_singleton.2 rfl));have hv6:v<6:=fE hsx hmem;have gz:pre.length+1<=6:=by
   have h1:=hpre.length_le;have h2:=lX hsx;simp at h1
   omega
  obtain⟨st,hst⟩:∃st,pre.foldl (dA (aY vars nt dn m (i+1)) rows i) (ns,zero6)=st:=⟨_,rfl⟩;rw[hst] at hI;have hstep:(pre++[v]).foldl (dA (aY vars nt dn m (i+1)) rows i) (ns,zero6)=dA (aY vars nt dn m (i+1)) rows i st v:=by rw[List.foldl_append,hst];rfl
  rw[hstep];obtain⟨hlen,hs6,jY⟩:=zY vars nt dn aX m i rows ns HB.out.two pre st hst;have hcm:st.1.length+cnt m<100000:=by
   have h1:pre.length*cnt m<=5*cnt m:=Nat.mul_le_mul_right _ (by omega)
   simp only[cnt] at hcnt;omega
  obtain⟨kE,O7,hnk,mD⟩:=hI.vO;obtain⟨r,hre⟩:∃r,aY vars nt dn m (i+1) (aJ rows i v) st.1=r:=⟨_,rfl⟩;have hrl2:=pq vars nt dn aX m (i+1) (aJ rows i v) st.1 (by have:=HB.out.two;omega)
  rw[hre] at hrl2;obtain⟨st',hst'⟩:∃st',dA (aY vars nt dn m (i+1)) rows i st v=st':=⟨_,rfl⟩;have hst2:st'=(r.1,st.2.set v r.2):=by rw[<-hst'];unfold dA;rw[hre]
  rw[hst'];have O8:=hd hst2;clear hst hstep hst' hst2 hpre hmem a1' a4' a5' aV aD HI0;have HI:=hd hI;have uM:=hd O7;have Zt:=hd hre;clear hI O7 hre;gi_wp2_with fail
  have hK0:oM A.drew w.heap.size b #[.slice (some ⟨vb,iT,none⟩) vars.length ak,mW,.bool nt,.int .i64 way] (.slice ro rows.length au) i Dm:=⟨HI.out.bx.b0,HI.out.bx.b1,HI.out.bx.b2,HI.out.bx.b3,HI.out.bx.b4⟩;refine EW (S:=fun w''=>oM w'' w.heap.size b #[.slice (some ⟨vb,iT,none⟩) vars.length ak,mW,.bool nt,.int .i64 way] (.slice ro rows.length au) i Dm) (by kernel_rfl) (fun a w h=>h) ?_
  refine wpAnyH_take (i:=0) (v:=.int .i64 (v:Int)) rfl (by kernel_rfl) (by kernel_rfl) (by kernel_rfl) (fun _ _ _ h=>h) (.inl ⟨by kernel_rfl,fun w'' hS=>by kernel_rfl⟩) hK0 ?_
  refine wpAnyH_take (i:=1) (v:=.pointer (some ⟨b,0,none⟩)) rfl (by kernel_rfl) (by kernel_rfl) (by kernel_rfl) (fun _ _ _ h=>h) (.inl ⟨by kernel_rfl,fun w'' hS=>?_⟩) hK0 ?_
  ·have q0:w''.cell? ⟨w.heap.size,0,none⟩=some (.pointer (some ⟨b,0,none⟩)):=hS.b0.cell 0
   clear hK0 hS hg1 hin0 hcnt hv0 jv hcm hlen hrl2 gz hnk mD hrow hv aX hmf;simp only[Act.put,bQ,bW,bU,eH,eY,fC];go_simp
  refine wpAnyH_take (i:=2) (v:=.agg #[.slice (some ⟨vb,iT,none⟩) vars.length ak,mW,.bool nt,.int .i64 way]) rfl (by kernel_rfl) (by kernel_rfl) (by kernel_rfl) (fun _ _ _ h=>h) (.inl ⟨by kernel_rfl,fun w'' hS=>?_⟩) hK0 ?_
  ·have q0:w''.cell? ⟨w.heap.size+1,0,none⟩=some (.slice (some ⟨vb,iT,none⟩) vars.length ak):=hS.b1.cell 0
   have q1:w''.cell? ⟨w.heap.size+1,1,none⟩=some mW:=hS.b1.cell 1
   have q2:w''.cell? ⟨w.heap.size+1,2,none⟩=some (.bool nt):=hS.b1.cell 2
   have q3:w''.cell? ⟨w.heap.size+1,3,none⟩=some (.int .i64 way):=hS.b1.cell 3
   clear hK0 hS hg1 hin0 hcnt hv0 jv hcm hlen hrl2 gz hnk mD hrow hv aX hmf;simp only[Act.put,bQ,bW,bU,eH,eY,fC];go_simp
  refine wpAnyH_take (i:=3) (v:=.slice ro rows.length au) rfl (by kernel_rfl) (by kernel_rfl) (by kernel_rfl) (fun _ _ _ h=>h) (.inl ⟨by kernel_rfl,fun w'' hS=>?_⟩) hK0 ?_
  ·have q0:w''.cell? ⟨w.heap.size+1+1,0,none⟩=some (.slice ro rows.length au):=hS.b2.cell 0
   clear hK0 hS hg1 hin0 hcnt hv0 jv hcm hlen hrl2 gz hnk mD hrow hv aX hmf;simp only[Act.put,bQ,bW,bU,eH,eY,fC];go_simp
  refine wpAnyH_take (i:=4) (v:=.int .i64 (i:Int)) rfl (by kernel_rfl) (by kernel_rfl) (by kernel_rfl) (fun _ _ _ h=>h) (.inl ⟨by kernel_rfl,fun w'' hS=>?_⟩) hK0 ?_
  ·have q0:w''.cell? ⟨w.heap.size+1+1+1,0,none⟩=some (.int .i64 (i:Int)):=hS.b3.cell 0
   clear hK0 hS hg1 hin0 hcnt hv0 jv hcm hlen hrl2 gz hnk mD hrow hv aX hmf;simp only[Act.put,bQ,bW,bU,eH,eY,fC];go_simp
  refine wpAnyH_take (i:=5) (v:=.int .i64 (v:Int)) rfl (by kernel_rfl) (by kernel_rfl) (by kernel_rfl) (fun _ _ _ h=>h) (.inl ⟨by kernel_rfl,fun w'' hS=>by kernel_rfl⟩) hK0 ?_
  refine wpAnyH_take (i:=7) (v:=.int .i64 (i:Int)) rfl (by kernel_rfl) (by kernel_rfl) (by kernel_rfl) (fun _ _ _ h=>h) (.inl ⟨by kernel_rfl,fun w'' hS=>?_⟩) hK0 ?_
  ·have q0:w''.cell? ⟨w.heap.size+1+1+1,0,none⟩=some (.int .i64 (i:Int)):=hS.b3.cell 0
   clear hK0 hS hg1 hin0 hcnt hv0 jv hcm hlen hrl2 gz hnk mD hrow hv aX hmf;simp only[Act.put,bQ,bW,bU,eH,eY,fC];go_simp
  refine wpAnyH_take (i:=8) (v:=.int .i64 ((i+1:Nat):Int)) rfl (by kernel_rfl) (by kernel_rfl) (by kernel_rfl) (fun _ _ _ h=>h) (.inl ⟨by kernel_rfl,fun w'' hS=>?_⟩) hK0 ?_
  ·clear hK0 hS hg1 hin0 hcnt hv0 jv hcm hlen hrl2 gz hnk mD hrow hv aX hmf;simp only[Act.put,bQ,bW,bU,eH,eY,fC];go_simp
   rw[IntKind.wrap_i64];omega
  refine wpAnyH_take (i:=9) (v:=.pointer (some ⟨Dm,0,none⟩)) rfl (by kernel_rfl) (by kernel_rfl) (by kernel_rfl) (fun _ _ _ h=>h) (.inl ⟨by kernel_rfl,fun w'' hS=>?_⟩) hK0 ?_
  ·have q0:w''.cell? ⟨w.heap.size+1+1+1+1,0,none⟩=some (.pointer (some ⟨Dm,0,none⟩)):=hS.b4.cell 0
   clear hK0 hS hg1 hin0 hcnt hv0 jv hcm hlen hrl2 gz hnk mD hrow hv aX hmf;simp only[Act.put,bQ,bW,bU,eH,eY,fC];go_simp
  refine wpAnyH_take (i:=11) (v:=.pointer (some ⟨W.heap.size,0,none⟩)) rfl (by kernel_rfl) (by kernel_rfl) (by kernel_rfl) (fun _ _ _ h=>h) (.inl ⟨by kernel_rfl,fun w'' hS=>by kernel_rfl⟩) hK0 ?_
  refine wpAnyH_all (rs:=[6]) (by kernel_rfl) (by simp) (fun j hj=>?_)
  obtain rfl:j=6:=by simpa using hj
  have qx:∀k,k<w.heap.size->¬FP b M nv k->¬FP b M nv k/\¬FP b M kE k:=fun k hk hn=>⟨hn,fun h=>by
   rcases h with h | h | h
   ·exact hn (.inl h)
   ·exact hn (.inr (.inl h))
   ·rcases hnk k h with h1 | h1
    ·exact hn (.inr (.inr h1))
    ·omega⟩
  have EY:RowsIn A (fun k=>¬FP b M kE k) ro rows:=DZ.out.fr HI.out.fr qx
  have EZ:IntsIn A (fun k=>¬FP b M kE k) (some ⟨vb,iT,none⟩) vars:=zV.out.fr HI.out.fr qx
  have AB:af A Dm (ay dn) 60:=HDm.out.fr HI.out.fr hDN;refine dF (f:=86) (args:=#[.slice ro rows.length au,.int .i64 (i:Int),.int .i64 (v:Int)]) (w':=A.drew) rfl (by kernel_rfl) (by kernel_rfl) ?_
  refine(yY ro au rows i v A.drew hrl (fun k=>¬FP b M kE k) (EY.fr ((Fr.refl (fun _=>False) A).drew) (fun k _ hk=>⟨fun x=>x,hk⟩)) (fun j hj=>by rw[hrow j hj];exact⟨hi,h4⟩)).mono ?_
  rintro e A1 ⟨ro',rc',rfl,hf1,yl⟩
  have dQ:Nw A A1:=hf1.gW;have uN:oM A1 w.heap.size b #[.slice (some ⟨vb,iT,none⟩) vars.length ak,mW,.bool nt,.int .i64 way] (.slice ro rows.length au) i Dm:=HI.out.bx.fr dQ (fun k _ _ x=>x)
  refine⟨_,rfl,uN,?_⟩
  refine wpAnyH_all (rs:=[10]) (by kernel_rfl) (by simp) (fun j hj=>?_)
  obtain rfl:j=10:=by simpa using hj
  have hB1:=uM.out.nw dQ;have wB:RowsIn A1 (fun k=>¬FP b M kE k) ro' (aJ rows i v):=yl.fr (Fr.refl (fun _=>False) A1) (fun k _ hk=>⟨fun x=>x,by
   rcases hk with h | h
   ·exact h
   ·intro hF;have:=uM.out.lt hF
    have h':A.heap.size<=k:=h;omega⟩)
  have KA:(aJ rows i v).length<=60:=Nat.le_trans (List.length_filter_le _ _) hrl;have AL:∀j,j<(aJ rows i v).length->((aJ rows i v).getD j []).length=vars.length:=fun j hj=>by
   have hmem:(aJ rows i v)[j]∈rows:=(List.mem_filter.1 (List.getElem_mem hj)).1;obtain⟨t,ht,he⟩:=List.getElem_of_mem hmem;have h1:=hrow t ht;simp only[List.getD,List.getElem?_eq_getElem ht,Option.getD_some,he] at h1
   simpa[List.getD,hj] using h1
  refine dF (f:=67) (args:=#[.pointer (some ⟨b,0,none⟩),.agg #[.slice (some ⟨vb,iT,none⟩) vars.length ak,mW,.bool nt,.int .i64 way],.slice ro' (aJ rows i v).length rc',.int .i64 ((i+1:Nat):Int),.pointer (some ⟨Dm,0,none⟩)]) (w':=A1) rfl (by kernel_rfl) (by kernel_rfl) ?_
  refine(JV.out (aJ rows i v) st.1 kE ro' rc' A1 KA AL hcm hB1 (EZ.fr dQ (fun k _ hk=>⟨fun x=>x,hk⟩)) wB (AB.nw dQ)).mono ?_
  rw[Zt.out];rintro e A2 ⟨rfl,xP,hB2,hf2,hn2⟩
  have hs1:=dQ.size;have hAs:W.heap.size<A.heap.size:=HI.out.bN.lt;have hWs:=uq.out;have SL:∀k,FP b M kE k->k<A.heap.size:=fun k hk=>uM.out.lt hk
  have zN:∀k,w.heap.size<=k->k<=w.heap.size+4->¬FP b M kE k:=fun k h1 h2=>by
   have hk:k=w.heap.size\/k=w.heap.size+1\/k=w.heap.size+1+1\/k=w.heap.size+1+1+1\/k=w.heap.size+1+1+1+1:=by omega
   rcases hk with rfl | rfl | rfl | rfl | rfl
   ·exact uM.out.other HI.out.bx.b0 (by decide) (by decide)
   ·exact uM.out.other HI.out.bx.b1 (by decide) (by decide)
   ·exact uM.out.other HI.out.bx.b2 (by decide) (by decide)
   ·exact uM.out.other HI.out.bx.b3 (by decide) (by decide)
   ·exact uM.out.other HI.out.bx.b4 (by decide) (by decide)
  have zO:¬FP b M kE W.heap.size:=by
   rintro(h | h | h)
   ·omega
   ·omega
   ·exact mD h
  have hbx2:oM A2 w.heap.size b #[.slice (some ⟨vb,iT,none⟩) vars.length ak,mW,.bool nt,.int .i64 way] (.slice ro rows.length au) i Dm:=uN.fr hf2 zN;have AO:af A2 W.heap.size (aT st.2).toArray 151:=(HI.out.bN.nw dQ).fr hf2 zO;refine⟨_,rfl,hbx2,?_⟩
  refine wpAnyH_all (rs:=[12]) (by kernel_rfl) (by simp) (fun j hj=>?_)
  obtain rfl:j=12:=by simpa using hj
  refine aA (v:=.pointer (some ⟨W.heap.size,v,none⟩)) (w':=A2) rfl (by kernel_rfl) ?_ ⟨hbx2,?_⟩
  ·have hv0':(0:Int)<=(v:Int):=by omega
   have RP:(v:Int)<6:=by omega
   clear hK0 hg1 hin0 hcnt hv0 jv hcm hlen hrl2 gz hnk mD hrow hv aX hmf EY EZ AB hf1 yl dQ uN hB1 wB KA AL hB2 hf2 hn2 hs1 hAs hWs SL zN zO hbx2 AO qx;simp only[Act.put,bQ,bW,bU,eH,eY,fC];go_simp
  refine wpAnyH_all (rs:=[13]) (by kernel_rfl) (by simp) (fun j hj=>?_)
  obtain rfl:j=13:=by simpa using hj
  have hvl:v<(aT st.2).toArray.size:=by simp[aT,hs6];omega
  obtain⟨ov,hcN⟩:∃ov,A2.cell? ⟨W.heap.size,v,none⟩=some ov:=⟨_,(AO.cell v).trans (Array.getElem?_eq_getElem hvl)⟩
  have hfN:=AO.free v;obtain⟨A3,hA3⟩:∃A3,A3=A2.setCell ⟨W.heap.size,v,none⟩ (.int .i64 (r.2:Int)):=⟨_,rfl⟩;have hf3:Fr (fun k=>k=W.heap.size) A2 A3:=by rw[hA3];exact(Fr.refl _ A2).setCell _ _ (.inl rfl)
  have nV:oM A3 w.heap.size b #[.slice (some ⟨vb,iT,none⟩) vars.length ak,mW,.bool nt,.int .i64 way] (.slice ro rows.length au) i Dm:=hbx2.fr hf3 (fun k h1 h2 e=>by omega)
  have hN3:af A3 W.heap.size (aT (st.2.set v r.2)).toArray 151:=by
   rw[hA3];have h5:=AO.set v (.int .i64 (r.2:Int));have e5:(aT st.2).toArray.setIfInBounds v (.int .i64 (r.2:Int))=(aT (st.2.set v r.2)).toArray:=by simp[aT,List.map_set]
   rw[e5] at h5;exact h5
  refine dw (w':=A3) rfl (by kernel_rfl) ?_ ⟨nV,wpAnyH_done (by kernel_rfl) ?_ _⟩
  ·rw[hA3];clear hK0 hg1 hin0 hcnt hv0 jv hcm hlen hrl2 gz hnk mD hrow hv aX hmf EY EZ AB hf1 yl dQ uN hB1 wB KA AL hB2 hf2 hn2 hs1 hAs hWs SL zN zO hbx2 AO qx hA3 hf3 nV hN3 hvl hs6 jY;simp only[Act.put,bQ,bW,bU,eH,eY,fC];go_simp
  simp only[Act.put,bQ,bW,bU,eH,eY,fC];have SN:Fr (FP b M kE) A A2:=(dQ.mono (fun i h=>h.elim)).trans hf2 (fun k h=>.inl h)
  have AP:Fr (fun k=>FP b M kE k\/k=W.heap.size) A A3:=(SN.mono (fun k h=>.inl (.inl h))).trans hf3 (fun k h=>.inl (.inr h))
  have hB3:sS A3 b M xP r.1:=hB2.fr hf3 (by omega) (by omega) (fun k hk e=>by
   rcases hn2 k hk with h | h
   ·exact mD (by rw[<-e];exact h)
   ·omega)
  have O1:wo w A3 b M Dm nv #[.slice (some ⟨vb,iT,none⟩) vars.length ak,mW,.bool nt,.int .i64 way] (.slice ro rows.length au) i W.heap.size (r.1,st.2.set v r.2):=by
   refine⟨HI.out.fr.trans AP (fun k h=>?_),nV,hN3,⟨xP,hB3,fun k hk=>?_,fun e=>?_⟩⟩
   ·rcases h with h | h
    ·rcases h with h | h | h
     ·exact .inl (.inl h)
     ·exact .inl (.inr (.inl h))
     ·rcases hnk k h with h1 | h1
      ·exact .inl (.inr (.inr h1))
      ·exact .inr h1
    ·exact .inr (by omega)
   ·rcases hn2 k hk with h | h
    ·exact hnk k h
    ·exact .inr (by omega)
   ·rcases hn2 _ e with h | h
    ·exact mD h
    ·omega
  have hkp:jV A A3:=AP.rq (fun k hk=>by
   rcases hk with hk | rfl
   ·exact uM.out.kV k hk
   ·exact⟨_,HI.out.bN,rfl⟩)
  have HI3:=hd O1;have Yy:=hd hkp;clear O1 hkp hB3 AP SN hN3 nV hf3 hA3 AO hbx2 hB2 hf2 uN hB1 wB yl hf1 dQ EY EZ AB;simp only[Exit.inBlock];gi_wp2
  refine⟨Yy.out,?_⟩
  show wo ..
  rw[O8.out];exact HI3.out
 case done=>
  rintro D A hD hI hK
  rw[fQ.out] at hI;obtain⟨hlen,hs6,jY⟩:=zY vars nt dn aX m i rows ns HB.out.two (vals sx) fin fQ.out;have hvl:=lX hsx;have JS:(vals sx).length*cnt m<=6*cnt m:=Nat.mul_le_mul_right _ hvl;simp only[cnt] at hcnt;have hok:jP fin.2:=⟨hs6,fun x hx=>by have:=jY x hx;omega⟩
  obtain⟨n0,n1,n2,n3,n4,n5,nI⟩:=DV hs6;obtain⟨kE,O7,hnk,mD⟩:=hI.vO;have b0:A.cell? ⟨w.heap.size,0,none⟩=some (.pointer (some ⟨b,0,none⟩)):=hI.bx.b0.cell 0
  have KC:=hI.bN;have c0:A.cell? ⟨W.heap.size,0,none⟩=some (.int .i64 (n0:Int)):=by rw[KC.cell,nI];rfl
  have c1:A.cell? ⟨W.heap.size,1,none⟩=some (.int .i64 (n1:Int)):=by rw[KC.cell,nI];rfl
  have c2:A.cell? ⟨W.heap.size,2,none⟩=some (.int .i64 (n2:Int)):=by rw[KC.cell,nI];rfl
  have c3:A.cell? ⟨W.heap.size,3,none⟩=some (.int .i64 (n3:Int)):=by rw[KC.cell,nI];rfl
  have c4:A.cell? ⟨W.heap.size,4,none⟩=some (.int .i64 (n4:Int)):=by rw[KC.cell,nI];rfl
  have c5:A.cell? ⟨W.heap.size,5,none⟩=some (.int .i64 (n5:Int)):=by rw[KC.cell,nI];rfl
  have G7:jo fin.2= .agg #[.int .i64 (n0:Int),.int .i64 (n1:Int),.int .i64 (n2:Int),.int .i64 (n3:Int),.int .i64 (n4:Int),.int .i64 (n5:Int)]:=by rw[nI];rfl
  have SQ:=hd (uJ b M kE fin.1 fin.2 A O7 hok (by omega))
  rw[G7] at SQ;have vT:w.heap.size<=D:=by
   have:Z.heap.size<=D:=hD
   omega
  have HI:=hd hI;have uM:=hd O7;clear hI O7 KC nI G7 hok hs6 jY HI0 JV a1' a4' a5' aV aD hlen;gi_wp2_with (refine⟨trivial,?_⟩;gi_at_call 87;refine(callsIn_wide.2 SQ.out).mono ?_;rintro e A1 ⟨rfl,xP,hB2,hf2,hn2⟩)
  have hK1:=(Fr.rq hf2 uM.out.kV).same D _ hK rfl;have hAs:w.heap.size<=A.heap.size:=HI.out.fr.size;refine⟨by simp,.inl ⟨_,_,rfl,run_takeDeferred hK1,?_⟩⟩
  refine⟨_,results_tmp rfl _ _ _,rfl,xP,hB2.bk (Bk.put (.deferred none) vT hK1 rfl) Gt,?_,fun k hk=>?_⟩
  ·refine(HI.out.fr.trans hf2 (fun k h=>?_)).bk (Bk.put (.deferred none) vT hK1 rfl) (Nat.le_refl _)
   rcases h with h | h | h
   ·exact .inl (.inl h)
   ·exact .inl (.inr (.inl h))
   ·rcases hnk k h with h1 | h1
    ·exact .inl (.inr (.inr h1))
    ·exact .inr h1
  ·rcases hn2 k hk with h | h
   ·exact hnk k h
   ·exact .inr (by omega)
end Go.Proofs.YtkjfpdfkcfgfkaaGreat
