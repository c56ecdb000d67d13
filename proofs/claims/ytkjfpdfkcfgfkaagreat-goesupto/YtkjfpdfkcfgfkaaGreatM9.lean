/- Parts of the proof, number 9: contracts of the functions that the statement calls. -/
import Derived.Test.YtkjfpdfkcfgfkaaGreatM8
import Derived.Test.YtkjfpdfkcfgfkaaGreatM7
import Derived.Test.YtkjfpdfkcfgfkaaGreatRows
import Derived.ProofKit
import Derived.OpenShut
import Derived.ShutString
import Derived.ChangeOld
import Derived.SizedLaws
import Derived.Deep.Slices
set_option maxHeartbeats 6400000
namespace Go.Proofs.YtkjfpdfkcfgfkaaGreat
open Go.RowKit
def jE (g:Nat) (l:List Int):Value:=.slice (some ⟨g,0,none⟩) (l.length+1) (l.length+1)
def cutV (g:Nat) (l:List Int):Value:=.slice (some ⟨g,0,none⟩) l.length (l.length+1)
def iI (rows:List (List Int)) (gs:List Nat):List Value:=(List.range gs.length).map (fun j=>jE (gs.getD j 0) (rows.getD j []))
def F8 (rows:List (List Int)) (gs:List Nat):List Value:=(List.range gs.length).map (fun j=>cutV (gs.getD j 0) (rows.getD j []))
theorem iy (rows:List (List Int)) (gs:List Nat):(iI rows gs).length=gs.length:=by simp[iI]
theorem l9 (rows:List (List Int)) (gs:List Nat):(F8 rows gs).length=gs.length:=by simp[F8]
theorem qJ {α:Type} (l:List α) (x d:α) (j:Nat) (h:j<l.length):(l++[x]).getD j d=l.getD j d:=by simp only[List.getD];rw[List.getElem?_append_left h]
theorem qK {α:Type} (l:List α) (x d:α):(l++[x]).getD l.length d=x:=by simp[List.getD]
theorem MX (rows:List (List Int)) (gs:List Nat) (g:Nat):iI rows (gs++[g])=iI rows gs++[jE g (rows.getD gs.length [])]:=by
 unfold iI;rw[List.length_append,List.length_singleton,List.range_succ,List.map_append];congr 1
 ·refine List.map_congr_left fun j hj=>?_
  rw[qJ _ _ _ _ (List.mem_range.1 hj)]
 ·rw[List.map_singleton,qK]
theorem QL (rows:List (List Int)) (gs:List Nat) (g:Nat):F8 rows (gs++[g])=F8 rows gs++[cutV g (rows.getD gs.length [])]:=by
 unfold F8;rw[List.length_append,List.length_singleton,List.range_succ,List.map_append];congr 1
 ·refine List.map_congr_left fun j hj=>?_
  rw[qJ _ _ _ _ (List.mem_range.1 hj)]
 ·rw[List.map_singleton,qK]
theorem ED (rows:List (List Int)) (gs:List Nat) (j:Nat) (h:j<gs.length):(iI rows gs)[j]? = some (jE (gs.getD j 0) (rows.getD j [])):=by simp[iI,h]
theorem Vh (rows:List (List Int)) (gs:List Nat) (j:Nat) (h:j<gs.length):(F8 rows gs)[j]? = some (cutV (gs.getD j 0) (rows.getD j [])):=by simp[F8,h]
def mg (rows:List (List Int)) (gs:List Nat):List Value:=F8 rows gs++List.replicate (rows.length+1-gs.length) aZ
theorem QM (rows:List (List Int)) (gs:List Nat) (h:gs.length<=rows.length):(mg rows gs).length=rows.length+1:=by
 unfold mg;rw[List.length_append,l9,List.length_replicate];omega
theorem QN (rows:List (List Int)) (gs:List Nat) (g:Nat) (h:gs.length<rows.length):(mg rows gs).set gs.length (cutV g (rows.getD gs.length []))=mg rows (gs++[g]):=by
 unfold mg;rw[QL,List.length_append,List.length_singleton,List.set_append,if_neg (by rw[l9];omega),l9,Nat.sub_self,List.append_assoc]
 congr 1
 rw[show rows.length+1-gs.length=(rows.length+1-(gs.length+1))+1 by omega,List.replicate_succ]
 rfl
theorem EE (rows:List (List Int)) (gs:List Nat) (j:Nat) (h:j<gs.length):(mg rows gs)[j]? = some (cutV (gs.getD j 0) (rows.getD j [])):=by
 unfold mg;rw[List.getElem?_append_left (by rw[l9];exact h),Vh _ _ _ h]
theorem QO (rows:List (List Int)) (gs:List Nat) (h:gs.length=rows.length):(mg rows gs)[rows.length]? = some aZ:=by
 unfold mg;rw[List.getElem?_append_right (by rw[l9];omega),l9,h,Nat.sub_self,Nat.add_sub_cancel_left]
 rfl
def Jw (l:List Int):Array Value:=((l++[78]).map (Value.int .i64)).toArray
structure Copies (w:World) (lo1 RB:Nat) (rows:List (List Int)) (gs:List Nat):Prop where
 rb:af w RB (mg rows gs).toArray 22
 each:∀j,j<gs.length->af w (gs.getD j 0) (Jw (rows.getD j [])) 3
 lo:∀g∈gs,lo1<=g
 ne:gs.Pairwise (·≠·)
 len:gs.length<=rows.length
theorem Copies.fr {S:Nat->Prop} {w w':World} {lo1 RB:Nat} {rows:List (List Int)} {gs:List Nat} (h:Copies w lo1 RB rows gs) (f:Fr S w w') (h1:¬S RB) (h2:∀g∈gs,¬S g):Copies w' lo1 RB rows gs:=
 ⟨h.rb.fr f h1,fun j hj=>(h.each j hj).fr f (h2 _ (by rw[aN _ _ _ hj];exact List.getElem_mem hj)),h.lo,h.ne,h.len⟩
theorem Copies.nw {w w':World} {lo1 RB:Nat} {rows:List (List Int)} {gs:List Nat} (h:Copies w lo1 RB rows gs) (f:Nw w w'):Copies w' lo1 RB rows gs:=h.fr f (fun x=>x) (fun _ _ x=>x)
theorem Copies.aaN {w:World} {lo1 RB:Nat} {rows:List (List Int)} {gs:List Nat} (h:Copies w lo1 RB rows gs) (hl:gs.length=rows.length):dW w (some ⟨RB,0,none⟩) rows:=fun i hi=>by
 have h1:=h.each i (by omega)
 have h2:=EE rows gs i (by omega)
 refine⟨RB,0,some ⟨gs.getD i 0,0,none⟩,(rows.getD i []).length+1,rfl,h.rb.lt,?_,?_⟩
 ·rw[Nat.zero_add,h.rb.cell];rw[List.getElem?_toArray]
  exact h2
 ·obtain⟨r,hr⟩:∃r,rows.getD i []=r:=⟨_,rfl⟩;rw[hr] at h1 ⊢;exact ax.pW h1 0 _ (fun j hj=>by simp[Jw,List.getElem?_append_left,hj])
theorem Vj {ev:Operand->Value} {o:Oper} {w:World} (a b:Int) (r:Bool) (x y:Operand) (ho:o.op= .binOp .eql 3 x y 3) (hx:ev x= .int .i64 a) (hy:ev y= .int .i64 b) (hr:(a==b)=r):(execOp ev o).run Tryz.prog w= .ok (.value (.bool r)) w:=by
 refine rH x y 3 3 ho ?_ ?_
 ·rw[hx,hy];kernel_rfl
 ·rw[hx,hy,<-hr];kernel_rfl
theorem Tryz.QS:(Tryz.prog.info? 26).map (fun i=>(i.zero,i.size,i.bytes))=some (some (.slice none 0 0),1,24):=by kernel_rfl
theorem Jy (ao:Option Addr) (m cap n:Nat) (hn:n<=cap) (W:World):(Instr.sliceAt 26 (.slice ao m cap) none (some (.int .i64 (n:Int))) none).run Tryz.prog W= .ok (sliced ao 0 n cap 1) W:=by
 have hu:Tryz.prog.underlying 26=some (.slice (Tryz.prog.elem 26)):=by kernel_rfl
 have he:Tryz.prog.elem 26=22:=by kernel_rfl
 have hz:(sizeOf 22).run Tryz.prog W= .ok 1 W:=by kernel_rfl
 rw[run_sliceAt_slice _ _ _ _ _ _ hu];rw[run_slice_h _ _ _ _ _ hu _ _ (by omega) (by omega),he,hz]
 simp[Result.andThen]
theorem Jz (g n cap:Nat):sliced (some ⟨g,0,none⟩) 0 n cap 1= .slice (some ⟨g,0,none⟩) n cap:=by
 unfold sliced;simp[Addr.add]
theorem QT {ev:Operand->Value} {o:Oper} {w:World} {g m cap n:Nat} (x y:Operand) (ho:o.op= .slice 22 x none (some y) none) (hx:ev x= .slice (some ⟨g,0,none⟩) m cap) (hy:ev y= .int .i64 (n:Int)) (hn:n<=cap):(execOp ev o).run Tryz.prog w= .ok (.value (.slice (some ⟨g,0,none⟩) n cap)) w:=by
 have h1:=(rX (some ⟨g,0,none⟩) m cap n hn w).trans (by rw[Jz])
 unfold execOp;simp[ho,hx,hy,h1,Result.andThen]
theorem QU {ev:Operand->Value} {o:Oper} {w:World} {g m cap n:Nat} (x y:Operand) (ho:o.op= .slice 26 x none (some y) none) (hx:ev x= .slice (some ⟨g,0,none⟩) m cap) (hy:ev y= .int .i64 (n:Int)) (hn:n<=cap):(execOp ev o).run Tryz.prog w= .ok (.value (.slice (some ⟨g,0,none⟩) n cap)) w:=by
 have h1:=(Jy (some ⟨g,0,none⟩) m cap n hn w).trans (by rw[Jz])
 unfold execOp;simp[ho,hx,hy,h1,Result.andThen]
noncomputable def aaO:Array Oper:=gU Tryz.f53 10
noncomputable def aaP:Array Oper:=gU Tryz.f53 15
noncomputable def aaQ:Array Oper:=gU Tryz.f53 16
noncomputable def aaR:Array Oper:=gU Tryz.f53 25
structure Dz (w:World) (B0:Nat) (d:Sd) (tc:Array Value):Prop where
 k1:af w d.D d.cells 52
 k2:af w B0 tc 41
theorem Vk (rows:List (List Int)) (gs:List Nat) (h:gs.length<=rows.length):(mg rows gs)[gs.length]? = some aZ:=by
 unfold mg;rw[List.getElem?_append_right (by rw[l9];omega),l9,Nat.sub_self,List.getElem?_replicate,if_pos (by omega)]
theorem Copies.int {w:World} {lo1 RB:Nat} {rows:List (List Int)} {gs:List Nat} (h:Copies w lo1 RB rows gs) {g:Nat} (hg:g∈gs):∃cur,af w g cur 3:=by
 obtain⟨j,hj,e⟩:=List.getElem_of_mem hg;have:=h.each j hj
 rw[aN _ _ _ hj,e] at this;exact⟨_,this⟩
theorem Y1 {w w1:World} {e:TypeId} {v v' x:Value} {xs:List Value} {n:Nat} (hn:xs.length=n) (h1:w1.ownsRow 0 e 1 v' (n+1) (xs++[x])) (hg:(w.alloc (.cells #[x] e)).grownBy w1 v.ownBlock) (hat:v'.ownBlock=v.ownBlock\/v'.ownBlock=some (w.alloc (.cells #[x] e)).heap.size):
  ∃g cap,v'= .slice (some ⟨g,0,none⟩) (n+1) cap/\Row w1 v' e (xs++[x])/\Fr (fun k=>v.ownBlock=some k) w w1/\(v.ownBlock=some g\/g=w.heap.size+1)/\g<w1.heap.size:=by
 subst hn;exact app1 h1 hg hat
theorem afD {w:World} {v:Value} {e:TypeId} {xs:List Value} {n:Nat} (h:Row w v e xs) (hn:xs.length=n):w.ownsRow 0 e 1 v n xs:=by
 subst hn;exact h
theorem Vl (n:Nat):madeCells (Value.slice none 0 0).cells (n*1)=(List.replicate n aZ).toArray:=by
 rw[Nat.mul_one];unfold madeCells;apply Array.ext
 ·simp
 ·intro i h1 h2;simp only[Array.getElem_map,Array.getElem_range,Value.cells,eH,List.getElem_replicate];show #[Value.slice none 0 0][i % 1]! = _
  rw[Nat.mod_one];rfl
theorem QV (rows:List (List Int)):mg rows []=List.replicate (rows.length+1) aZ:=by simp[mg,F8]
structure Y2 (wp wq:World) (B RB VB:Nat) (L:LW) (ow:Value) (rows:List (List Int)) (gs:List Nat) (vars:List Int) (k:Nat) (tv:Value):Prop where
 blk:af wq B #[L.sv,L.nv,tv,L.rv] 29
 row:Row wq tv 22 (L.turned++[jE VB vars]++(iI rows gs).take k)
 rb:af wq RB (mg rows gs).toArray 22
 todo:∀j,k<=j->j<gs.length->af wq (gs.getD j 0) (Jw (rows.getD j [])) 3
 done:∀j,j<k->af wq (gs.getD j 0) (dI (rows.getD j []) ((rows.getD j []).length+1)) 3
 vb:af wq VB (dI vars (vars.length+1)) 3
 own:Row wq ow 22 (iI rows gs)
 fr:Fr (fun q=>q=B\/L.tv.ownBlock=some q\/q=VB\/q∈gs) wp wq
 grow:∀q,tv.ownBlock=some q->L.tv.ownBlock=some q\/wp.heap.size<=q
theorem Y2.first {wp w5:World} {lo lo1 B RB VB:Nat} {L:LW} {ow:Value} {rows:List (List Int)} {gs:List Nat} {vars:List Int} {tv:Value} (hL:gZ wp lo B L) (hC:Copies wp lo1 RB rows gs) (hO:Row wp ow 22 (iI rows gs)) (hV:af wp VB (Jw vars) 3) (hVB:VB∉gs) (Y3:∀q,L.tv.ownBlock=some q->q≠RB/\ow.ownBlock≠some q)
  (hf:Fr (fun q=>q=B\/q=VB\/L.tv.ownBlock=some q) wp w5) (hb:af w5 B #[L.sv,L.nv,tv,L.rv] 29) (hr:Row w5 tv 22 (L.turned++[jE VB vars])) (hg:af w5 VB (dI vars (vars.length+1)) 3) (hgr:∀q,tv.ownBlock=some q->L.tv.ownBlock=some q\/wp.heap.size<=q):
  Y2 wp w5 B RB VB L ow rows gs vars 0 tv:=by
 have hI:∀{q:Nat} {cur:Array Value},af wp q cur 22->L.tv.ownBlock≠some q->¬(q=B\/q=VB\/L.tv.ownBlock=some q):=fun hq hn hs=>by
  rcases hs with hs | hs | hs
  ·rw[hs] at hq;exact absurd (hq.inj hL.blk).2 (by decide)
  ·rw[hs] at hq;exact absurd (hq.inj hV).2 (by decide)
  ·exact hn hs
 refine⟨hb,by rw[List.take_zero,List.append_nil];exact hr,hC.rb.fr hf (hI hC.rb (fun e=>(Y3 RB e).1 rfl)),fun j _ hj=>(hC.each j hj).fr hf (fun hs=>?_),fun j hj=>absurd hj (Nat.not_lt_zero _),hg,hO.fr hf (fun q hq=>?_),hf.mono (fun q hq=>.inl ?_),hgr⟩
 ·have hq:=hC.each j hj;rcases hs with hs | hs | hs
  ·rw[hs] at hq;exact absurd (hq.inj hL.blk).2 (by decide)
  ·refine hVB ?_
   rw[<-hs,aN _ _ _ hj];exact List.getElem_mem hj
  ·obtain⟨cur',hb',_⟩:=hL.keeps.rt.blk hs;exact absurd (hq.inj hb').2 (by decide)
 ·obtain⟨cur,hb',_⟩:=hO.blk hq;exact hI hb' (fun e=>(Y3 q e).2 hq)
 ·rcases hq with hq | hq | hq
  ·exact .inl hq
  ·exact .inr (.inr (.inl hq))
  ·exact .inr (.inl hq)
theorem Y2.next {wp wq w':World} {B RB VB:Nat} {L:LW} {ow:Value} {rows:List (List Int)} {gs:List Nat} {vars:List Int} {k:Nat} {tv tv':Value} (h:Y2 wp wq B RB VB L ow rows gs vars k tv) (hk:k<gs.length) (hne:gs.Pairwise (·≠·)) (hVB:VB∉gs) (Y3:∀q,L.tv.ownBlock=some q->q≠RB/\ow.ownBlock≠some q) (hRl:RB<wp.heap.size) (hol:∀q,ow.ownBlock=some q->q<wp.heap.size)
  (hf:Fr (fun q=>q=B\/q=gs.getD k 0\/tv.ownBlock=some q) wq w') (hb:af w' B #[L.sv,L.nv,tv',L.rv] 29) (hr:Row w' tv' 22 ((L.turned++[jE VB vars]++(iI rows gs).take k)++[jE (gs.getD k 0) (rows.getD k [])])) (hg:af w' (gs.getD k 0) (dI (rows.getD k []) ((rows.getD k []).length+1)) 3) (hgr:∀q,tv'.ownBlock=some q->tv.ownBlock=some q\/wq.heap.size<=q):
  Y2 wp w' B RB VB L ow rows gs vars (k+1) tv':=by
 have hint:∀{q:Nat} {cur:Array Value},af wq q cur 3->q≠gs.getD k 0->¬(q=B\/q=gs.getD k 0\/tv.ownBlock=some q):=fun hq hn hs=>by
  rcases hs with hs | hs | hs
  ·rw[hs] at hq;exact absurd (hq.inj h.blk).2 (by decide)
  ·exact hn hs
  ·obtain⟨cur',hb',_⟩:=h.row.blk hs;exact absurd (hq.inj hb').2 (by decide)
 have hgk:=h.todo k (Nat.le_refl _) hk;have hI:∀{q:Nat} {cur:Array Value},af wq q cur 22->tv.ownBlock≠some q->¬(q=B\/q=gs.getD k 0\/tv.ownBlock=some q):=fun hq hn hs=>by
  rcases hs with hs | hs | hs
  ·rw[hs] at hq;exact absurd (hq.inj h.blk).2 (by decide)
  ·rw[hs] at hq;exact absurd (hq.inj hgk).2 (by decide)
  ·exact hn hs
 have hidx:∀j,j<gs.length->j≠k->gs.getD j 0≠gs.getD k 0:=fun j hj hjk e=>by
  rw[aN _ _ _ hj,aN _ _ _ hk] at e;have hp:=List.pairwise_iff_getElem.1 hne;rcases Nat.lt_or_gt_of_ne hjk with h1 | h1
  ·exact hp j k hj hk h1 e
  ·exact hp k j hk hj h1 e.symm
 refine⟨hb,?_,h.rb.fr hf (hI h.rb (fun e=>?_)),fun j h1 h2=>(h.todo j (by omega) h2).fr hf (hint (h.todo j (by omega) h2) (hidx j h2 (by omega))),fun j hj=>?_,h.vb.fr hf (hint h.vb (fun e=>hVB ?_)),h.own.fr hf (fun q hq=>?_),h.fr.trans hf (fun q hq=>?_),fun q hq=>?_⟩
 ·rw[List.take_add_one,ED _ _ _ hk,<-List.append_assoc];exact hr
 ·rcases h.grow RB e with h1 | h1
  ·exact(Y3 RB h1).1 rfl
  ·omega
 ·by_cases e:j=k
  ·rw[e];exact hg
  ·have:=h.done j (by omega)
   exact this.fr hf (hint this (hidx j (by omega) e))
 ·rw[e,aN _ _ _ hk];exact List.getElem_mem hk
 ·obtain⟨cur,hb',_⟩:=h.own.blk hq;refine hI hb' (fun e=>?_)
  rcases h.grow q e with h1 | h1
  ·exact(Y3 q h1).2 hq
  ·have:=hol q hq
   omega
 ·rcases hq with hq | hq | hq
  ·exact .inl (.inl hq)
  ·exact .inl (.inr (.inr (.inr (by rw[hq,aN _ _ _ hk];exact List.getElem_mem hk))))
  ·rcases h.grow q hq with h1 | h1
   ·exact .inl (.inr (.inl h1))
   ·exact .inr h1
 ·rcases hgr q hq with h1 | h1
  ·exact h.grow q h1
  ·exact .inr (Nat.le_trans h.fr.size h1)
structure F9 (w wp w7:World) (B RB VB hi:Nat) (L:LW) (rows:List (List Int)) (gs:List Nat) (vars:List Int) (tv rv:Value) (cs:List Value):Prop where
 fr:Fr (fun q=>q=B\/L.tv.ownBlock=some q\/L.rv.ownBlock=some q\/q=VB\/q∈gs\/q=RB) wp w7
 blk:af w7 B #[L.sv,L.nv,tv,rv] 29
 rt:Row w7 tv 22 (L.turned++[jE VB vars]++iI rows gs)
 rr:Row w7 rv 26 (L.rows++[.slice (some ⟨RB,0,none⟩) (rows.length+1) (rows.length+1)])
 rb:af w7 RB cs.toArray 22
 cl:cs.length=rows.length+1
 cn:∀j,j<rows.length+1->cs[j]? = some (.slice none 0 0)
 vb:af w7 VB (dI vars (vars.length+1)) 3
 gb:∀j,j<gs.length->af w7 (gs.getD j 0) (dI (rows.getD j []) ((rows.getD j []).length+1)) 3
 gt:∀q,tv.ownBlock=some q->L.tv.ownBlock=some q\/wp.heap.size<=q
 gr:∀q,rv.ownBlock=some q->L.rv.ownBlock=some q\/wp.heap.size<=q
 n1:w.heap.size<=VB/\VB<hi
 n2:w.heap.size<=RB/\RB<hi
 n3:∀g∈gs,w.heap.size<=g/\g<hi
 n4:w.heap.size<=wp.heap.size/\hi<=wp.heap.size
 on:Only wp (fun q=>q=B\/L.tv.ownBlock=some q\/L.rv.ownBlock=some q\/q=VB\/q∈gs\/q=RB) [29,22,3,26]
def LW.post (L:LW) (tv rv:Value) (news:List Value) (r:Value):LW:={L with tv:=tv,rv:=rv,turned:=L.turned++news,rows:=L.rows++[r]}
theorem F9.own {w wp w7:World} {B RB VB hi:Nat} {L:LW} {rows:List (List Int)} {gs:List Nat} {vars:List Int} {tv rv:Value} {cs:List Value} (h:F9 w wp w7 B RB VB hi L rows gs vars tv rv cs) (q:Nat) (hq:(L.post tv rv ([jE VB vars]++iI rows gs) (.slice (some ⟨RB,0,none⟩) (rows.length+1) (rows.length+1))).own B q):
  L.own B q\/(w.heap.size<=q/\q<hi)\/wp.heap.size<=q:=by
 rcases hq with hq | hq | hq | hq | hq | hq | ⟨v,hv,hq⟩ | ⟨v,hv,hq⟩
 ·exact .inl (.inl hq)
 ·exact .inl (.inr (.inl hq))
 ·exact .inl (.inr (.inr (.inl hq)))
 ·rcases h.gt q hq with h1 | h1
  ·exact .inl (.inr (.inr (.inr (.inl h1))))
  ·exact .inr (.inr h1)
 ·rcases h.gr q hq with h1 | h1
  ·exact .inl (.inr (.inr (.inr (.inr (.inl h1)))))
  ·exact .inr (.inr h1)
 ·exact .inl (.inr (.inr (.inr (.inr (.inr (.inl hq))))))
 ·rcases List.mem_append.1 hv with hv | hv
  ·exact .inl (.inr (.inr (.inr (.inr (.inr (.inr (.inl ⟨v,hv,hq⟩)))))))
  ·rcases List.mem_append.1 hv with hv | hv
   ·rw[List.mem_singleton.1 hv] at hq;cases hq;exact .inr (.inl h.n1)
   ·obtain⟨j,hj,rfl⟩:=List.mem_map.1 hv;cases hq;have hjl:=List.mem_range.1 hj;rw[aN _ _ _ hjl];exact .inr (.inl (h.n3 _ (List.getElem_mem hjl)))
 ·rcases List.mem_append.1 hv with hv | hv
  ·exact .inl (.inr (.inr (.inr (.inr (.inr (.inr (.inr ⟨v,hv,hq⟩)))))))
  ·rw[List.mem_singleton.1 hv] at hq;cases hq;exact .inr (.inl h.n2)
theorem F9.law {w wp w7:World} {lo B RB VB hi:Nat} {L:LW} {rows:List (List Int)} {gs:List Nat} {vars:List Int} {tv rv:Value} {cs:List Value} (h:F9 w wp w7 B RB VB hi L rows gs vars tv rv cs) (hL:gZ w lo B L) (hp:gZ wp lo B L) (Qh:lo<=w.heap.size) (hgl:gs.length=rows.length) (hvl:vars.length<=1048576) (hrl:rows.length<=1048576) (hrr:∀r∈rows,r.length<=1048576) (htl:L.turned.length<=8388608) (hrw:L.rows.length<=8388608):
  gZ w7 lo B (L.post tv rv ([jE VB vars]++iI rows gs) (.slice (some ⟨RB,0,none⟩) (rows.length+1) (rows.length+1))):=by
 have hn4:=h.n4;have hn2:=h.n2;have hn1:=h.n1;have hs7:=h.fr.size;have hno:∀q cur e,L.own B q->af wp q cur e->e≠29->L.tv.ownBlock≠some q->L.rv.ownBlock≠some q->¬(q=B\/L.tv.ownBlock=some q\/L.rv.ownBlock=some q\/q=VB\/q∈gs\/q=RB):=fun q cur e hq hb he h2 h3 h4=>by
  have hlt:=hL.lt q hq;rcases h4 with h4 | h4 | h4 | h4 | h4 | h4
  ·rw[h4] at hb;exact he (hb.inj hp.blk).2
  ·exact h2 h4
  ·exact h3 h4
  ·omega
  ·have:=h.n3 q h4
   omega
  ·omega
 have ht:∀q cur e,af wp q cur e->e≠22->L.tv.ownBlock≠some q:=fun q cur e hb he hq=>by
  obtain⟨c2,hb2,_⟩:=hp.keeps.rt.blk hq;exact he (hb.inj hb2).2
 have hr:∀q cur e,af wp q cur e->e≠26->L.rv.ownBlock≠some q:=fun q cur e hb he hq=>by
  obtain⟨c2,hb2,_⟩:=hp.keeps.rr.blk hq;exact he (hb.inj hb2).2
 have k1:=fun q hq=>(by
  obtain⟨cur,hb,_⟩:=hp.sides.blk (k:=q) hq;exact hno q cur _ (.inr (.inl hq)) hb (by decide) (ht q cur _ hb (by decide)) (hr q cur _ hb (by decide)):¬_)
 have k2:=fun q hq=>(by
  obtain⟨cur,hb,_⟩:=hp.keeps.rn.blk (k:=q) hq;exact hno q cur _ (.inr (.inr (.inl hq))) hb (by decide) (hL.nt q hq) (hr q cur _ hb (by decide)):¬_)
 have k4:∀v,v∈L.nums\/v∈L.turned->∀q,v.ownBlock=some q->¬(q=B\/L.tv.ownBlock=some q\/L.rv.ownBlock=some q\/q=VB\/q∈gs\/q=RB):=fun v hv q hq=>by
  obtain⟨cur,hb⟩:=hp.ints v hv q hq;exact hno q cur _ (hv.elim (fun hv=>.inr (.inr (.inr (.inr (.inr (.inl ⟨v,hv,hq⟩)))))) (fun hv=>.inr (.inr (.inr (.inr (.inr (.inr (.inl ⟨v,hv,hq⟩)))))))) hb (by decide) (ht q cur _ hb (by decide)) (hr q cur _ hb (by decide))
 have k6:∀v,v∈L.rows->∀q,v.ownBlock=some q->¬(q=B\/L.tv.ownBlock=some q\/L.rv.ownBlock=some q\/q=VB\/q∈gs\/q=RB):=fun v hv q hq=>by
  obtain⟨cur,hb⟩:=hp.FZ v hv q hq;exact hno q cur _ (.inr (.inr (.inr (.inr (.inr (.inr (.inr ⟨v,hv,hq⟩))))))) hb (by decide) (fun e=>hL.tr q e v hv hq) (hr q cur _ hb (by decide))
 have hlen:(L.turned++([jE VB vars]++iI rows gs)).length=L.turned.length+1+rows.length:=by
  rw[List.length_append,List.length_append,iy,List.length_singleton,hgl];omega
 have Vm:∀v∈[jE VB vars]++iI rows gs,mV w7 v (-7)/\∀q,v.ownBlock=some q->∃cur,af w7 q cur 3:=fun v hv=>by
  rcases List.mem_append.1 hv with hv | hv
  ·rw[List.mem_singleton.1 hv];refine⟨vG h.vb (by omega),fun q hq=>?_⟩
   cases hq;exact⟨_,h.vb⟩
  ·obtain⟨j,hj,rfl⟩:=List.mem_map.1 hv;have hjl:=List.mem_range.1 hj;have hjr:j<rows.length:=by omega
   have hrl:=hrr (rows.getD j []) (by rw[aN _ _ _ hjr];exact List.getElem_mem hjr)
   refine⟨vG (h.gb j hjl) (by omega),fun q hq=>?_⟩
   cases hq;exact⟨_,h.gb j hjl⟩
 have hrb:yO w7 (.slice (some ⟨RB,0,none⟩) (rows.length+1) (rows.length+1)):=⟨_,_,_,rfl,by omega,fun i hi=>⟨RB,0,rfl,h.rb.lt,by rw[Nat.zero_add,h.rb.cell,List.getElem?_toArray];exact h.cn i hi⟩⟩
 have hk:=hp.keeps;have Vo:∀v∈L.turned++([jE VB vars]++iI rows gs),mV w7 v (-7):=fun v hv=>by
  rcases List.mem_append.1 hv with hv | hv
  ·obtain⟨i,hi,rfl⟩:=List.getElem_of_mem hv;exact(hk.at_ i hi).fr h.fr (k4 _ (.inr hv))
  ·exact(Vm v hv).1
 have ado:∀v∈L.rows++[Value.slice (some ⟨RB,0,none⟩) (rows.length+1) (rows.length+1)],yO w7 v:=fun v hv=>by
  rcases List.mem_append.1 hv with hv | hv
  ·obtain⟨i,hi,rfl⟩:=List.getElem_of_mem hv;exact(hk.ar i hi).fr h.fr (k6 _ hv)
  ·rw[List.mem_singleton.1 hv];exact hrb
 refine⟨h.blk,hp.sides.fr h.fr k1,⟨hk.rn.fr h.fr k2,?_,h.rr,hk.ln,?_,?_,fun i hi=>(hk.an i hi).fr h.fr (k4 _ (.inl (List.getElem_mem hi))),fun i hi=>?_,fun i hi=>?_⟩,fun q hq=>?_,fun q hq=>?_,fun v hv q hq=>?_,fun v hv q hq=>?_,fun q hq=>?_,fun q hq v hv=>?_,fun q hq v hv=>?_⟩
 ·show Row w7 tv 22 (L.turned++([jE VB vars]++iI rows gs))
  rw[<-List.append_assoc];exact h.rt
 ·show (L.turned++([jE VB vars]++iI rows gs)).length*24<=_
  omega
 ·show (L.rows++[_]).length*24<=_
  have:(L.rows++[Value.slice (some ⟨RB,0,none⟩) (rows.length+1) (rows.length+1)]).length=L.rows.length+1:=by rw[List.length_append];rfl
  omega
 ·refine Vo _ (List.getElem_mem hi)
 ·refine ado _ (List.getElem_mem hi)
 ·rcases h.own q hq with h1 | h1 | h1
  ·exact hL.lo q h1
  ·omega
  ·omega
 ·rcases hq with hq | hq | hq | hq | hq | ⟨v,hv,hq⟩ | ⟨v,hv,hq⟩ | ⟨v,hv,hq⟩
  ·have:=hp.lt q (.inl hq)
   omega
  ·have:=hp.lt q (.inr (.inl hq))
   omega
  ·have:=hp.lt q (.inr (.inr (.inl hq)))
   omega
  ·exact h.rt.lt hq
  ·exact h.rr.lt hq
  ·have:=hp.lt q (.inr (.inr (.inr (.inr (.inr (.inl ⟨v,hv,hq⟩))))))
   omega
  ·rcases List.mem_append.1 hv with hv | hv
   ·have:=hp.lt q (.inr (.inr (.inr (.inr (.inr (.inr (.inl ⟨v,hv,hq⟩)))))))
    omega
   ·obtain⟨cur,hb⟩:=(Vm v hv).2 q hq;exact hb.lt
  ·rcases List.mem_append.1 hv with hv | hv
   ·have:=hp.lt q (.inr (.inr (.inr (.inr (.inr (.inr (.inr ⟨v,hv,hq⟩)))))))
    omega
   ·rw[List.mem_singleton.1 hv] at hq;cases hq;exact h.rb.lt
 ·rcases hv with hv | hv
  ·obtain⟨cur,hb⟩:=hp.ints v (.inl hv) q hq;exact⟨cur,hb.fr h.fr (k4 v (.inl hv) q hq)⟩
  ·rcases List.mem_append.1 hv with hv | hv
   ·obtain⟨cur,hb⟩:=hp.ints v (.inr hv) q hq;exact⟨cur,hb.fr h.fr (k4 v (.inr hv) q hq)⟩
   ·exact(Vm v hv).2 q hq
 ·rcases List.mem_append.1 hv with hv | hv
  ·obtain⟨cur,hb⟩:=hp.FZ v hv q hq;exact⟨cur,hb.fr h.fr (k6 v hv q hq)⟩
  ·rw[List.mem_singleton.1 hv] at hq;cases hq;exact⟨_,h.rb⟩
 ·intro ht';rcases h.gt q ht' with h1 | h1
  ·exact hL.nt q hq h1
  ·have:=hL.lt q (.inr (.inr (.inl hq)))
   omega
 ·intro ht';rcases List.mem_append.1 hv with hv | hv
  ·exact hL.nr q hq v hv ht'
  ·rw[List.mem_singleton.1 hv] at ht';cases ht';have:=hL.lt RB (.inr (.inr (.inl hq)))
   omega
 ·intro ht';rcases h.gt q hq with h1 | h1
  ·rcases List.mem_append.1 hv with hv | hv
   ·exact hL.tr q h1 v hv ht'
   ·rw[List.mem_singleton.1 hv] at ht';cases ht';have:=hL.lt RB (.inr (.inr (.inr (.inl h1))))
    omega
  ·rcases List.mem_append.1 hv with hv | hv
   ·have:=hL.lt q (.inr (.inr (.inr (.inr (.inr (.inr (.inr ⟨v,hv,ht'⟩)))))))
    omega
   ·rw[List.mem_singleton.1 hv] at ht';cases ht';have h2:wp.heap.size<=RB:=h1;omega
theorem F9.ref {W w wp w7:World} {lo B RB VB hi:Nat} {L:LW} {d:Sd} {rows:List (List Int)} {gs:List Nat} {vars:List Int} {tv rv:Value} {cs:List Value} (h:F9 w wp w7 B RB VB hi L rows gs vars tv rv cs) (H:LS W w lo B L d) (hR:mF W wp lo d.Y d.zs d.R) (hWp:Nw W wp):mF W w7 lo d.Y d.zs d.R/\Nw W w7:=by
 have hn1:=h.n1;have hn2:=h.n2;have Qh:=H.env.le;have hlb:=H.env.base;refine⟨hR.fr h.fr (fun q hq hT=>?_),hWp.trans h.fr (fun q hq=>.inr ?_)⟩
 ·have hd:d.own q:=.inr (.inr hq);have:=H.side.lt hd
  rcases hT with hT | hT | hT | hT | hT | hT
  ·exact H.apart q (.inl hT) hd
  ·exact H.apart q (.inr (.inr (.inr (.inl hT)))) hd
  ·exact H.apart q (.inr (.inr (.inr (.inr (.inl hT))))) hd
  ·omega
  ·have:=h.n3 q hT
   omega
  ·omega
 ·rcases hq with hT | hT | hT | hT | hT | hT
  ·have:=H.law.lo q (.inl hT)
   omega
  ·have:=H.law.lo q (.inr (.inr (.inr (.inl hT))))
   omega
  ·have:=H.law.lo q (.inr (.inr (.inr (.inr (.inl hT)))))
   omega
  ·omega
  ·have:=h.n3 q hT
   omega
  ·omega
theorem F9.fin {W w wd wp w7 w8 w3:World} {lo B RB VB hi:Nat} {L:LW} {d:Sd} {s':WS} {R':RS} {rows:List (List Int)} {gs:List Nat} {vars:List Int} {tv rv:Value} {cs:List Value} (h:F9 w wp w7 B RB VB hi L rows gs vars tv rv cs) (H:LS W w lo B L d) (hwd:w.heap.size<=wd.heap.size) (hhi:hi<=wd.heap.size) (hL7:gZ w7 lo B (L.post tv rv ([jE VB vars]++iI rows gs) (.slice (some ⟨RB,0,none⟩) (rows.length+1) (rows.length+1))))
  (afE:Fr (fun q=>d.s.own d.X q) w wp) (hA:iM wp d.X d.zs s') (hS:gq wd wp d.X d.s s') (hR:mF W wp lo d.Y d.zs d.R) (hD:af wp d.D d.cells 52) (MZ:Nw w7 w8) (Dc:mF W w3 lo d.Y d.zs R') (hf3:Fr (d.R.wr d.Y) w8 w3) (hg3:∀k,R'.own d.Y k->d.R.own d.Y k\/w8.heap.size<=k) (hz3:R'.az=d.R.az) (hn3:kM d.zs.length R'.now s'.d) (ht3:s'.bs=R'.ts.map jO.tb) (hl3:uF d.zs.length R'.ls s'.sk) (hb3:s'.l.busy=d.bz):
  LS W w3 lo B (L.post tv rv ([jE VB vars]++iI rows gs) (.slice (some ⟨RB,0,none⟩) (rows.length+1) (rows.length+1))) {d with s:=s',R:=R'}/\dJ w w3 B L (L.post tv rv ([jE VB vars]++iI rows gs) (.slice (some ⟨RB,0,none⟩) (rows.length+1) (rows.length+1))) d {d with s:=s',R:=R'}:=by
 have hn4:=h.n4;have hn1:=h.n1;have hn2:=h.n2;have hs7:=h.fr.size;have hs8:=MZ.size;have hs3:=hf3.size;have hsp:=hS.fr.size;have Qh:=H.env.le;have hlb:=H.env.base;have Vp:∀q,d.own q->q<w.heap.size:=fun q hq=>H.side.lt hq
 have hTn:∀q,(q=B\/L.tv.ownBlock=some q\/L.rv.ownBlock=some q\/q=VB\/q∈gs\/q=RB)->L.own B q\/(w.heap.size<=q/\q<hi):=fun q hq=>by
  rcases hq with hq | hq | hq | hq | hq | hq
  ·exact .inl (.inl hq)
  ·exact .inl (.inr (.inr (.inr (.inl hq))))
  ·exact .inl (.inr (.inr (.inr (.inr (.inl hq)))))
  ·exact .inr (by rw[hq];exact hn1)
  ·exact .inr (h.n3 q hq)
  ·exact .inr (by rw[hq];exact hn2)
 have hTd:∀q,(q=B\/L.tv.ownBlock=some q\/L.rv.ownBlock=some q\/q=VB\/q∈gs\/q=RB)->¬d.own q:=fun q hq hd=>by
  have:=Vp q hd
  rcases hTn q hq with h1 | h1
  ·exact H.apart q h1 hd
  ·omega
 have hTs:∀q,s'.own d.X q->¬(q=B\/L.tv.ownBlock=some q\/L.rv.ownBlock=some q\/q=VB\/q∈gs\/q=RB):=fun q hq hT=>by
  rcases hS.grow q hq with h1 | h1
  ·exact hTd q hT (.inr (.inl h1))
  ·rcases hTn q hT with h2 | h2
   ·have:=H.law.lt q h2
    omega
   ·omega
 have hA8:=(hA.fr h.fr hTs h.on (by decide)).nw MZ
 have hR8:=(hR.fr h.fr (fun q hq hT=>hTd q hT (.inr (.inr hq)))).nw MZ
 have htot:Fr (fun k=>L.own B k\/d.own k) w w3:=(((afE.mono (fun q hq=>.inl (.inr (.inr (.inl hq))))).trans h.fr (fun q hq=>by
  rcases hTn q hq with h1 | h1
  ·exact .inl (.inl h1)
  ·exact .inr h1.1)).trans MZ (fun _ x=>x.elim)).trans hf3 (fun q hq=>.inl (.inr (.inr (.inr (.inl hq)))))
 have hgD:∀q,Sd.own {d with s:=s',R:=R'} q->d.own q\/(wd.heap.size<=q/\q<wp.heap.size)\/w8.heap.size<=q:=fun q hq=>by
  rcases hq with hq | hq | hq
  ·exact .inl (.inl hq)
  ·rcases hS.grow q hq with h1 | h1
   ·exact .inl (.inr (.inl h1))
   ·exact .inr (.inl ⟨h1,hA.mem.lt hq⟩)
  ·rcases hg3 q hq with h1 | h1
   ·exact .inl (.inr (.inr h1))
   ·exact .inr (.inr h1)
 have hL8:=hL7.nw MZ;have hL3:=hL8.fr hf3 (fun q hq hw=>by
  have hd:d.own q:=.inr (.inr (.inl hw));have:=Vp q hd
  rcases h.own q hq with h1 | h1 | h1
  ·exact H.apart q h1 hd
  ·omega
  ·omega)
 refine⟨⟨⟨hlb,H.env.nw.trans htot (fun q hq=>.inr ?_),by omega⟩,hL3,⟨?_,?_,H.side.Rt⟩,fun q hq hd=>?_⟩,⟨htot,fun q hq=>?_,fun q hq=>?_,rfl,rfl,rfl,rfl,rfl,rfl⟩⟩
 ·rcases hq with hq | hq
  ·have:=H.law.lo q hq
   omega
  ·have:=H.side.lo hq
   omega
 ·refine((hD.fr h.fr (fun hT=>hTd d.D hT (.inl rfl))).nw MZ).fr hf3 (fun hw=>?_)
  obtain⟨cur,e,hb,he⟩:=hR8.Xy hw;rw[(hb.inj ((hD.fr h.fr (fun hT=>hTd d.D hT (.inl rfl))).nw MZ)).2] at he
  exact absurd he (by decide)
 ·refine Pair.fin hA8 hR8 (fun q hq ho=>?_) (fun q hq=>?_) Dc hf3 hz3 hb3 hn3 ht3 hl3
  ·rcases hS.grow q ho with h1 | h1
   ·exact H.side.pair.UE q hq h1
   ·have:=Vp q (.inr (.inr (.inr (.inl hq))))
    omega
  ·rcases hS.grow q hq with h1 | h1
   ·exact H.side.pair.xlo q h1
   ·omega
 ·have h0:=hL8.lt q hq;rcases h.own q hq with h1 | h1 | h1
  ·have h4:=H.law.lt q h1;rcases hgD q hd with h2 | h2 | h2
   ·exact H.apart q h1 h2
   ·omega
   ·omega
  ·rcases hgD q hd with h2 | h2 | h2
   ·have:=Vp q h2
    omega
   ·omega
   ·omega
  ·rcases hgD q hd with h2 | h2 | h2
   ·have:=Vp q h2
    omega
   ·omega
   ·omega
 ·rcases h.own q hq with h1 | h1 | h1
  ·exact .inl h1
  ·exact .inr h1.1
  ·exact .inr (by omega)
 ·rcases hgD q hq with h1 | h1 | h1
  ·exact .inl h1
  ·exact .inr (by omega)
  ·exact .inr (by omega)
set_option maxRecDepth 1000000 in
theorem QW (X:Nat) (v0 v1 v2 v3:Value) (w:World) (hcb:w.cell? ⟨X,12,none⟩=some (.bool true)) (uT:X<w.heap.size):
  Calls Tryz.prog 11 #[.pointer (some ⟨X,0,none⟩),.agg #[v0,v1,v2,v3]] w fun e w'=>e= .returned (.int .i64 5)/\Nw w w':=by
 obtain⟨V,hV⟩:∃V,V=w.alloc (.cells #[v0,v1,v2,v3] 41):=⟨_,rfl⟩;have fA:Nw w V:=by rw[hV];exact(Fr.refl _ w).alloc _
 have c1:V.cell? ⟨X,12,none⟩=some (.bool true):=(fA.cell uT (fun x=>x)).trans hcb
 have afF:=Nat.lt_of_lt_of_le uT fA.size;have lK:=hd fA;clear fA hcb uT;go_enter Tryz.func11,Tryz.ntmps11
 go_upto_region 1 with fail
 rw[<-hV];clear hV;go_wp2_with fail
 go_ret
 exact⟨rfl,lK.out⟩
theorem iM.Y4 {w:World} {X:Nat} {zs:List Int} {s:WS} (h:iM w X zs s) (hbz:s.l.busy=true):w.cell? ⟨X,12,none⟩=some (.bool true)/\X<w.heap.size:=⟨(h.mem.blk.cell 12).trans ((bu _ _ _ _ h.good.dm.len).trans (by rw[hbz])),h.mem.blk.lt⟩
def afG (bz:Bool) (w w':World) (zs:List Int) (s s':WS) (vars:List Int) (rows:List (List Int)) (nt:Bool) (way r:Int):Prop:=(bz=false->Did zs s s' vars rows nt way r)/\(bz=true->r=5/\s'=s/\Nw w w')
theorem Vq {bz:Bool} {W w:World} {lo X Y:Nat} {zs:List Int} {s:WS} {R:RS} {vo ro:Option Addr} {ak au:Nat} {vars:List Int} {rows:List (List Int)} {nt:Bool} {way:Int} (h:Pair bz W w lo X Y zs s R)
  (hl:vars.length*8<=140737488355328) (hrl:rows.length*24<=140737488355328) (nY:vars.length<=ak) (hvs:ax w vo vars) (hrs:dW w ro rows):
  Calls Tryz.prog 11 #[.pointer (some ⟨X,0,none⟩),.agg #[.slice vo vars.length ak,.slice ro rows.length au,.bool nt,.int .i64 way]] w fun e w'=>∃(r:Int) (s':WS),e= .returned (.int .i64 r)/\iM w' X zs s'/\gq w w' X s s'/\afG bz w w' zs s s' vars rows nt way r:=by
 cases bz with
 | false=>
  refine(QE (nt:=nt) (way:=way) h.at_ h.busy hl hrl nY hvs hrs).mono ?_
  rintro e w' ⟨r,s',rfl,h1,h2,h3⟩
  exact⟨r,s',rfl,h1,h2,fun _=>h3,fun h=>(by cases h)⟩
 | true=>
  obtain⟨h1,h2⟩:=h.at_.Y4 h.busy;refine(QW X _ _ _ _ w h1 h2).mono ?_
  rintro e w' ⟨rfl,hf⟩
  exact⟨5,s,rfl,h.at_.nw hf,gq.nw hf X s,fun h=>(by cases h),fun _=>⟨rfl,rfl,hf⟩⟩
set_option maxRecDepth 1000000 in
theorem EF (W:World) (lo B:Nat) (L:LW) (d:Sd) (vo ro:Option Addr) (ak au:Nat) (vars:List Int) (rows:List (List Int)) (nt:Bool) (way:Int) (w:World) (h:LS W w lo B L d) (hvs:ax W vo vars) (hrs:dW W ro rows)
  (hvl:vars.length<=1048576) (hrl:rows.length<=1048576) (hrr:∀r∈rows,r.length<=1048576) (htl:L.turned.length<=8388608) (hrw:L.rows.length<=8388608):
  Calls Tryz.prog 53 #[.pointer (some ⟨B,0,none⟩),.pointer (some ⟨d.D,0,none⟩),.agg #[.slice vo vars.length ak,.slice ro rows.length au,.bool nt,.int .i64 way]] w fun e w'=>e= .returned (.bool true)/\∃L' d',LS W w' lo B L' d'/\dJ w w' B L L' d d'/\L'.nums=L.nums/\L'.turned.length=L.turned.length+1+rows.length/\L'.rows.length=L.rows.length+1/\(d.bz=true->d'=d/\Fr (fun k=>L.own B k) w w'):=by
 obtain⟨i0,hi0,hz0,hz1,hz2⟩:=info_parts Tryz.jU;obtain⟨i1,hi1,I5,hz1b,I7⟩:=info_parts Tryz.xu;obtain⟨i2,hi2,afH,hz2b,afI⟩:=info_parts Tryz.QS;obtain⟨B0,hB0⟩:∃B0,B0=w.heap.size:=⟨_,rfl⟩;obtain⟨V,hV⟩:∃V,V=w.alloc (.cells #[.slice vo vars.length ak,.slice ro rows.length au,.bool nt,.int .i64 way] 41):=⟨_,rfl⟩;have fA:Nw w V:=by rw[hV];exact(Fr.refl _ w).alloc _
 have pU:af V B0 #[.slice vo vars.length ak,.slice ro rows.length au,.bool nt,.int .i64 way] 41:=by rw[hV,hB0];exact af.new _ _ _
 have H:=hd h;have lK:=hd fA;have rM:=hd pU;have HB0:=hd hB0;have hWV:Nw W V:=h.env.nw.trans fA (fun _ x=>x.elim)
 have hvV:=hvs.nw hWV;have hrV:=hrs.nw hWV;have Na:∀w',af w' B0 #[.slice vo vars.length ak,.slice ro rows.length au,.bool nt,.int .i64 way] 41->w'.cell? ⟨B0,0,none⟩=some (.slice vo vars.length ak)/\w'.cell? ⟨B0,1,none⟩=some (.slice ro rows.length au)/\w'.cell? ⟨B0,2,none⟩=some (.bool nt)/\w'.cell? ⟨B0,3,none⟩=some (.int .i64 way)/\B0<w'.heap.size:=fun w' hb=>⟨hb.cell 0,hb.cell 1,hb.cell 2,hb.cell 3,hb.lt⟩
 have HT:=hd Na;obtain⟨t0,t1,_,_,t4⟩:=Na V pU;have HvV:=hd hvV;have HrV:=hd hrV;have zV:=hd hvs;have DZ:=hd hrs;obtain⟨bz,hbz⟩:∃bz,d.bz=bz:=⟨_,rfl⟩;have F6:=hd hbz;have Hrr:=hd hrr;clear h fA pU hWV hvV hrV Na hvs hrs hbz hrr;go_enter Tryz.func53,Tryz.ntmps53
 go_upto_region 1 with fail
 rw[<-hV,<-hB0];clear hV hB0;go_wp2_with (first
  | (go_at_call 14;refine(qY vo ak vars V (by omega) HvV.out).mono ?_;rintro e w1 ⟨rfl,hf1,hb1⟩;have Hf1:=hd hf1;have Hb1:=hd hb1;obtain⟨_,s1,_,_,s4⟩:=HT.out w1 (rM.out.nw hf1);clear hf1 hb1)
  | (at_make;refine wpList_make_full _ rfl _ _ 26 rfl w1.heap.size 22 i1 (.slice none 0 0) 1 Tryz.underlying26 hi1 I5 hz1b .i64 .i64 _ _ (rows.length+1) rfl rfl (by go_num) (by go_num) (by rw[I7];omega) (by unfold maxLen;omega) (Nat.le_refl _) ?_;intro w2 hown2 hgrow2))
 obtain⟨RB,hRB⟩:∃RB,RB=w1.heap.size:=⟨_,rfl⟩;obtain⟨VB,hVB⟩:∃VB,VB=V.heap.size:=⟨_,rfl⟩;have hf2:Nw w1 w2:=(Fr.refl _ w1).grown hgrow2 (fun k e=>by cases e)
 have hC2:Copies w2 w2.heap.size RB rows []:=by
  refine⟨?_,fun j hj=>absurd hj (Nat.not_lt_zero _),fun g hg=>(by cases hg),List.Pairwise.nil,Nat.zero_le _⟩
  rw[QV];have:=qX hown2
  rw[Vl,<-hRB] at this;exact this
 rw[<-hRB,<-hVB];rw[<-hVB] at Hb1;have HC2:=hd hC2;have XN:=hd (Hf1.out.trans hf2 (fun _ x=>x.elim))
 have Hb2:=hd (Hb1.out.nw hf2);have ahg:RB<w2.heap.size:=hC2.rb.lt;have ahh:VB<RB:=by rw[hRB];exact Hb1.out.lt
 have adp:V.heap.size<=VB:=by omega
 have adq:=hd adp;clear hown2 hgrow2 hf2 hC2 hRB hVB adp s1 s4 t0 t1 t4;go_loopw [9,10,11] (fun ow i _ wr=>∃(gs:List Nat),gs.length<=rows.length/\i= .int .i64 (gs.length:Int)/\Hid (Row wr ow 22 (iI rows gs))/\Hid (Copies wr w2.heap.size RB rows gs)/\Hid (Fr (fun k=>k=RB) w2 wr)/\Hid (∀k,ow.ownBlock=some k->w2.heap.size<=k)) (fun _ i _ _=>rows.length-(intOf i).toNat)
 case atStart=>exact⟨[],Nat.zero_le _,rfl,Row.nil _ _,HC2,Fr.refl _ _,hd (fun k hk=>by cases hk)⟩
 case round=>
  clear HC2;obtain⟨gs,hgl,rfl,HO,HC,HF,Y5⟩:=hrel;obtain⟨oo,oc,hof,_⟩:=HO.out.form;rw[iy] at hof;subst hof;have Gs:Nw V wr:=XN.out.trans HF.out (fun i hi=>.inr (by have:=adq.out;omega))
  obtain⟨u0,u1,u2,u3,u4⟩:=HT.out wr (rM.out.nw Gs);by_cases hlt:gs.length<rows.length
  ·have hdl:(gs.length:Int)<(rows.length:Int):=by omega
   obtain⟨rb,Fj,ra,WC,hre,aaS,hrc,hRI⟩:=HrV.out gs.length hlt;have Hrc:=hd (fun (w':World) (f:Nw V w')=>(show w'.cell? ⟨rb,Fj+gs.length,none⟩=_ from(f.cell aaS (fun x=>x)).trans hrc))
   have hRI:=hRI.nw Gs;have hr6:(rows.getD gs.length []).length<=1048576:=Hrr.out _ (by rw[aN _ _ _ hlt];exact List.getElem_mem hlt)
   have hset:=QN rows gs;have zX:=hd Gs;obtain⟨r,hr⟩:∃r,rows.getD gs.length []=r:=⟨_,rfl⟩;rw[hr] at hrc Hrc hRI hr6;have Hr:=hd hr;have afJ:=hd hset;have HRI:=hd hRI;subst hre;have ahi:=Hrc.out wr Gs;have PR:=Nat.lt_of_lt_of_le aaS Gs.size;clear Gs hr hset hRI hrc;have hsz2:=HF.out.size;have HOg:=hd (show ∀g∈gs,¬(Value.slice oo gs.length oc).ownBlock=some g from fun g hg h=>by
    obtain⟨cur,hb⟩:=HC.out.int hg;obtain⟨cur',hb',_⟩:=HO.out.blk h;exact absurd (hb.inj hb').2 (by decide))
   go_wp2_with (first
    | (go_at_call 14;refine(qY ra WC r wr (by omega) HRI.out).mono ?_;rintro e w3 ⟨rfl,hf3,hb3⟩;have HO3:=hd (HO.out.nw hf3);have Jv:=hd hf3;have Hb3:=hd hb3;clear hf3 hb3)
    | (at_builtin;refine wpList_append_own_at _ rfl _ _ 26 rfl 0 22 i1 (.slice none 0 0) 1 24 Tryz.underlying26 hi1 I5 hz1b I7 rfl (by decide) (.slice oo gs.length oc) gs.length _ rfl (afD (HO3.out.alloc _) (iy rows gs)) ⟨w3.heap.size,0,none⟩ 1 1 [.slice (some ⟨wr.heap.size,0,none⟩) (r.length+1) (r.length+1)] rfl rfl (cell_one_new _ _ _) (by simp[Value.oneCell']) (by unfold maxLen;omega) (by omega) (Nat.zero_le _) ?_;intro v' w4 hown' hgrow _ hat;obtain⟨g4,cap4,rfl,hr4,hf4,ha4,hlt4⟩:=Y1 (iy rows gs) hown' hgrow hat;have TU:=hd ((zX.out.trans Jv.out (fun _ x=>x.elim)).trans hf4 (fun i hi=>.inr (by have:=Y5.out i hi;have:=XN.out.size;omega)));obtain⟨q0,q1,q2,q3,q4⟩:=HT.out w4 (rM.out.nw TU.out);have qc:=Hrc.out w4 TU.out;have qrl:=Nat.lt_of_lt_of_le aaS TU.out.size;have YS:=(HC.out.nw Jv.out).fr hf4 (fun h=>by have:=Y5.out RB h;omega) (fun g hg h=>HOg.out g hg h);have hRf:=YS.rb.free gs.length;have hRc:w4.cell? ⟨RB,gs.length,none⟩=some aZ:=(by rw[YS.rb.cell,List.getElem?_toArray];exact Vk rows gs hgl);have HC4:=hd YS;have ahj:=YS.rb.lt;clear YS;have Hr4:=hd hr4;have Hf4:=hd hf4;have Ha4:=hd ha4;clear hown' hgrow hat hr4 hf4 ha4 hlt4))
   have hs3:=Jv.out.size;have afK:w2.heap.size<=g4:=by
    rcases Ha4.out with h | h
    ·exact Y5.out g4 h
    ·omega
   have hfs:Fr (fun k=>k=RB) w4 (w4.setCell ⟨RB,gs.length,none⟩ (.slice (some ⟨wr.heap.size,0,none⟩) r.length (r.length+1))):=(Fr.refl (fun k=>k=RB) w4).setCell _ _ (.inl rfl)
   have hOw:¬(Value.slice oo gs.length oc).ownBlock=some wr.heap.size:=fun h=>by
    have:=HO.out.lt h
    omega
   refine⟨⟨gs++[wr.heap.size],by rw[List.length_append];exact hlt,by simp,?_,⟨?_,fun j hj=>?_,fun g hg=>?_,?_,by rw[List.length_append];exact hlt⟩,?_,hd (fun k hk=>by cases hk;exact afK)⟩,by simp[intOf];omega⟩
   ·rw[MX,Hr.out];exact Hr4.out.fr hfs (fun k hk e=>by cases hk;have:g4=RB:=e;omega)
   ·have h1:=HC4.out.rb.set gs.length (.slice (some ⟨wr.heap.size,0,none⟩) r.length (r.length+1));have h2:=afJ.out wr.heap.size hlt;rw[Hr.out] at h2;rw[<-h2];rw[bQ] at h1;exact h1
   ·rw[List.length_append,List.length_singleton] at hj;by_cases he:j<gs.length
    ·rw[qJ _ _ _ _ he];exact(HC4.out.each j he).fr hfs (fun e=>by
      have h1:=HC4.out.each j he;rw[e] at h1;exact absurd (h1.inj HC4.out.rb).2 (by decide))
    ·obtain rfl:j=gs.length:=by omega
     rw[qK,Hr.out];exact(Hb3.out.fr Hf4.out hOw).fr hfs (fun e=>by omega)
   ·rcases List.mem_append.1 hg with hg | hg
    ·exact HC.out.lo g hg
    ·rw[List.mem_singleton.1 hg];exact hsz2
   ·refine List.pairwise_append.2 ⟨HC.out.ne,List.pairwise_singleton _ _,fun a ha b hb e=>?_⟩
    rw[List.mem_singleton.1 hb] at e;obtain⟨cur,hbl⟩:=HC.out.int ha;have:=hbl.lt
    omega
   ·exact((HF.out.trans Jv.out (fun _ x=>x.elim)).trans Hf4.out (fun i hi=>.inr (Y5.out i hi))).trans hfs (fun i hi=>.inl hi)
  ·have hgn:gs.length=rows.length:=by omega
   have hdl:¬((gs.length:Int)<(rows.length:Int)):=by omega
   have zX:=hd Gs;have XO:=hd hgn;have adr:=HC.out.rb;have ads:=adr.lt;have Xb:=hd (Hb2.out.fr HF.out (fun e=>by omega))
   have hL1:=H.out.nw (lK.out.trans Gs (fun _ x=>x.elim))
   have HL1:=hd hL1;have hVl:=Xb.out.lt;rw[hgn] at HO Y5 ⊢;clear Gs hgn adr hL1;go_wp2_with fail
   have hK0:Dz wr.drew B0 d #[.slice vo vars.length ak,.slice ro rows.length au,.bool nt,.int .i64 way]:=⟨HL1.out.side.blk.drew,(rM.out.nw zX.out).drew⟩;refine eF aaO 21 (fun w''=>Dz w'' B0 d #[.slice vo vars.length ak,.slice ro rows.length au,.bool nt,.int .i64 way]) (by kernel_rfl) (by kernel_rfl) (by kernel_rfl) ?_
   refine take_at (i:=0) (d:=some 54) (v:=.pointer (some ⟨d.D,0,none⟩)) (by kernel_rfl) (by kernel_rfl) (fun _ _ _ h=>h) (fun w'' hS=>by kernel_rfl) hK0 ?_
   refine take_at (i:=1) (d:=some 55) (v:=.pointer (some ⟨d.D,0,none⟩)) (by kernel_rfl) (by kernel_rfl) (fun _ _ _ h=>h) (fun w'' hS=>by kernel_rfl) hK0 ?_
   refine take_at (i:=2) (d:=some 56) (v:=.pointer (some ⟨d.D,0,none⟩)) (by kernel_rfl) (by kernel_rfl) (fun _ _ _ h=>h) (fun w'' hS=>by kernel_rfl) hK0 ?_
   refine take_at (i:=3) (d:=some 57) (v:=.pointer (some ⟨d.X,0,none⟩)) (by kernel_rfl) (by kernel_rfl) (fun _ _ _ h=>h) (fun w'' hS=>aj 35 (.tmp 56) (by kernel_rfl) (by kernel_rfl) (by kernel_rfl) (hS.k1.cell 0)) hK0 ?_
   refine take_at (i:=4) (d:=some 58) (v:=.slice (some ⟨VB,0,none⟩) (vars.length+1) (vars.length+1)) (by kernel_rfl) (by kernel_rfl) (fun _ _ _ h=>h) (fun w'' hS=>by kernel_rfl) hK0 ?_
   refine take_at (i:=5) (d:=some 59) (v:=.pointer (some ⟨B0,0,none⟩)) (by kernel_rfl) (by kernel_rfl) (fun _ _ _ h=>h) (fun w'' hS=>by kernel_rfl) hK0 ?_
   refine take_at (i:=6) (d:=some 60) (v:=.slice vo vars.length ak) (by kernel_rfl) (by kernel_rfl) (fun _ _ _ h=>h) (fun w'' hS=>aj 22 (.tmp 59) (by kernel_rfl) (by kernel_rfl) (by kernel_rfl) (hS.k2.cell 0)) hK0 ?_
   refine take_at (i:=7) (d:=some 61) (v:=.int .i64 (vars.length:Int)) (by kernel_rfl) (by kernel_rfl) (fun _ _ _ h=>h) (fun w'' hS=>by kernel_rfl) hK0 ?_
   refine take_at (i:=8) (d:=some 62) (v:=.slice (some ⟨VB,0,none⟩) vars.length (vars.length+1)) (by kernel_rfl) (by kernel_rfl) (fun _ _ _ h=>h) (fun w'' hS=>QT (m:=vars.length+1) (.tmp 58) (.tmp 61) (by kernel_rfl) (by kernel_rfl) (by kernel_rfl) (by omega)) hK0 ?_
   refine take_at (i:=9) (d:=some 63) (v:=.slice (some ⟨RB,0,none⟩) (rows.length+1) (rows.length+1)) (by kernel_rfl) (by kernel_rfl) (fun _ _ _ h=>h) (fun w'' hS=>by kernel_rfl) hK0 ?_
   refine take_at (i:=10) (d:=some 64) (v:=.pointer (some ⟨B0,1,none⟩)) (by kernel_rfl) (by kernel_rfl) (fun _ _ _ h=>h) (fun w'' hS=>by kernel_rfl) hK0 ?_
   refine take_at (i:=11) (d:=some 65) (v:=.slice ro rows.length au) (by kernel_rfl) (by kernel_rfl) (fun _ _ _ h=>h) (fun w'' hS=>aj 26 (.tmp 64) (by kernel_rfl) (by kernel_rfl) (by kernel_rfl) (hS.k2.cell 1)) hK0 ?_
   refine take_at (i:=12) (d:=some 66) (v:=.int .i64 (rows.length:Int)) (by kernel_rfl) (by kernel_rfl) (fun _ _ _ h=>h) (fun w'' hS=>by kernel_rfl) hK0 ?_
   refine take_at (i:=13) (d:=some 67) (v:=.slice (some ⟨RB,0,none⟩) rows.length (rows.length+1)) (by kernel_rfl) (by kernel_rfl) (fun _ _ _ h=>h) (fun w'' hS=>QU (m:=rows.length+1) (.tmp 63) (.tmp 66) (by kernel_rfl) (by kernel_rfl) (by kernel_rfl) (by omega)) hK0 ?_
   refine take_at (i:=14) (d:=some 68) (v:=.pointer (some ⟨B0,2,none⟩)) (by kernel_rfl) (by kernel_rfl) (fun _ _ _ h=>h) (fun w'' hS=>by kernel_rfl) hK0 ?_
   refine take_at (i:=15) (d:=some 69) (v:=.bool nt) (by kernel_rfl) (by kernel_rfl) (fun _ _ _ h=>h) (fun w'' hS=>aj 4 (.tmp 68) (by kernel_rfl) (by kernel_rfl) (by kernel_rfl) (hS.k2.cell 2)) hK0 ?_
   refine take_at (i:=16) (d:=some 70) (v:=.pointer (some ⟨B0,3,none⟩)) (by kernel_rfl) (by kernel_rfl) (fun _ _ _ h=>h) (fun w'' hS=>by kernel_rfl) hK0 ?_
   refine take_at (i:=17) (d:=some 71) (v:=.int .i64 way) (by kernel_rfl) (by kernel_rfl) (fun _ _ _ h=>h) (fun w'' hS=>aj 3 (.tmp 70) (by kernel_rfl) (by kernel_rfl) (by kernel_rfl) (hS.k2.cell 3)) hK0 ?_
   refine take_at (i:=18) (d:=some 72) (v:=.agg #[.slice (some ⟨VB,0,none⟩) vars.length (vars.length+1),.slice (some ⟨RB,0,none⟩) rows.length (rows.length+1),.bool nt,.int .i64 way]) (by kernel_rfl) (by kernel_rfl) (fun _ _ _ h=>h) (fun w'' hS=>by kernel_rfl) hK0 ?_
   refine enter_at (i:=19) (d:=some 73) (w':=wr.drew) (f:=11) (args:=#[.pointer (some ⟨d.X,0,none⟩),.agg #[.slice (some ⟨VB,0,none⟩) vars.length (vars.length+1),.slice (some ⟨RB,0,none⟩) rows.length (rows.length+1),.bool nt,.int .i64 way]]) (by kernel_rfl) (by kernel_rfl) (by kernel_rfl) ?_
   have hdr:Nw wr wr.drew:=(Fr.refl _ wr).drew;have hp0:=(HL1.out.nw hdr).side.pair;rw[F6.out] at hp0;have hCd:=HC.out.nw hdr;refine(Vq (nt:=nt) (way:=way) hp0 (by omega) (by omega) (by omega) (ax.pW (Xb.out.nw hdr) 0 vars (fun i hi=>by simp[List.getElem?_append_left,hi])) (hCd.aaN XO.out)).mono ?_
   rintro e wp ⟨r,s',rfl,hAp,hSp,adt⟩
   have hon:=hp0.at_.mem.only;have hnt:∀{q:Nat} {cur:Array Value} {e:TypeId},af wr.drew q cur e->e∉yJ->¬d.s.own d.X q:=fun hb he ho=>he (hon _ _ _ ho hb)
   have hK1:Dz wp B0 d #[.slice vo vars.length ak,.slice ro rows.length au,.bool nt,.int .i64 way]:=⟨hK0.k1.fr hSp.fr (hnt hK0.k1 (by decide)),hK0.k2.fr hSp.fr (hnt hK0.k2 (by decide))⟩
   refine⟨_,rfl,hK1,?_⟩
   refine dG (i:=20) (d:=some 12) (v:=.int .i64 r) (w':=wp) (by kernel_rfl) (by kernel_rfl) (by kernel_rfl) hK1 ?_
   refine wpAnyH_done (by kernel_rfl) ?_ _
   simp only[Act.put,bQ,bW,bU];have hsV:=lK.out.size;have hvv:=adq.out;have adu:=XN.out.size;have adv:=HF.out.size;have hfresh:∀q,w.heap.size<=q->¬d.s.own d.X q:=fun q hq ho=>by
    have:=H.out.side.lt (.inr (.inl ho))
    omega
   have hCp:Copies wp w2.heap.size RB rows gs:=hCd.fr hSp.fr (hfresh RB (by omega)) (fun g hg=>hfresh g (by have:=hCd.lo g hg;omega))
   have hVp:af wp VB (Jw vars) 3:=(Xb.out.nw hdr).fr hSp.fr (hfresh VB (by omega))
   have hOp:Row wp (.slice oo rows.length oc) 22 (iI rows gs):=(HO.out.nw hdr).fr hSp.fr (fun q hq=>hfresh q (by have:=Y5.out q hq;omega))
   have hLp:gZ wp lo B L:=(HL1.out.nw hdr).law.fr hSp.fr (fun q hq ho=>H.out.apart q hq (.inr (.inl ho)))
   have hWp:Nw W wp:=(HL1.out.nw hdr).env.nw.trans hSp.fr (fun i hi=>.inr (Nat.le_trans H.out.env.base (H.out.side.pair.xlo i hi)))
   have hRp:=hp0.mid hSp (Fr.refl _ _);have afL:wr.heap.size<=wp.heap.size:=Nat.le_trans hdr.size hSp.fr.size;have HCp:=hd hCp;have HVp:=hd hVp;have HOp:=hd hOp;have XP:=hd hLp;have HWp:=hd hWp;have HRp:=hd hRp;have HAp:=hd hAp;have HSp:=hd hSp;have Vr:=hd adt;have Ru:=hd hK1;have HwN:=hd ((lK.out.trans zX.out (fun _ x=>x.elim)).trans hdr (fun _ x=>x.elim))
   have HwP:=hd (show Fr (fun q=>d.s.own d.X q) w wp from(((lK.out.trans zX.out (fun _ x=>x.elim)).trans hdr (fun _ x=>x.elim)).mono (fun _ x=>x.elim)).trans hSp.fr (fun i hi=>.inl hi))
   have afM:w.heap.size<=VB:=by omega
   have afN:w.heap.size<=RB:=by omega
   have afO:RB<wp.heap.size:=hCp.rb.lt;have Hgs:=hd (show ∀g∈gs,w2.heap.size<=g from hCd.lo)
   have WR:=hd hCd.ne;have afP:=hd (show ∀g∈gs,g<wr.heap.size from fun g hg=>by
    obtain⟨cur,hb⟩:=HC.out.int hg;exact hb.lt)
   have adw:=hd (show ∀q,(Value.slice oo rows.length oc).ownBlock=some q->w2.heap.size<=q/\q<wp.heap.size from fun q hq=>⟨Y5.out q hq,hOp.lt hq⟩)
   obtain⟨u0,u1,u2,u3,u4⟩:=HT.out wp hK1.k2;have afQ:Hid (∀w',af w' RB (mg rows gs).toArray 22->w'.cell? ⟨RB,rows.length,none⟩=some (.slice none 0 0)):=fun w' hb=>by
    rw[hb.cell,List.getElem?_toArray]
    exact QO rows gs XO.out
   clear hCp hVp hOp hLp hWp hRp hAp hSp adt hK1 hfresh hnt hon hCd hp0 hdr hK0 hVl HC HO Y5 HF HL1 XN zX Xb Hb2 Hb1 Hf1 HvV hdl;have afR:(L.turned.length+1)*24<=140737488355328:=by omega
   have adx:VB∉gs:=fun hg=>by
    have:=Hgs.out VB hg
    omega
   have Y3:∀q,L.tv.ownBlock=some q->q≠RB/\(Value.slice oo rows.length oc).ownBlock≠some q:=fun q hq=>by
    have h1:=H.out.law.lt q (.inr (.inr (.inr (.inl hq))));refine⟨by omega,fun h2=>?_⟩
    have:=(adw.out q h2).1
    omega
   have ady:=hd adx;have HRt:=hd Y3;have XQ:Only wp (fun q=>q=B\/L.tv.ownBlock=some q\/q=VB\/q∈gs) [29,22,3]:=fun q cur e hq hb=>by
    rcases hq with rfl | hq | rfl | hq
    ·rw[(hb.inj XP.out.blk).2];decide
    ·obtain⟨c2,hb2,_⟩:=XP.out.keeps.rt.blk hq;rw[(hb.inj hb2).2];decide
    ·rw[(hb.inj HVp.out).2];decide
    ·obtain⟨c2,hb2⟩:=HCp.out.int hq;rw[(hb.inj hb2).2];decide
   have Vs:=hd XQ;have HPB:=hd (show ∀w',Fr (fun q=>q=B\/L.tv.ownBlock=some q\/q=VB\/q∈gs) wp w'->Dz w' B0 d #[.slice vo vars.length ak,.slice ro rows.length au,.bool nt,.int .i64 way] from fun w' f=>⟨Ru.out.k1.fr f (fun hs=>absurd (XQ _ _ _ hs Ru.out.k1) (by decide)),Ru.out.k2.fr f (fun hs=>absurd (XQ _ _ _ hs Ru.out.k2) (by decide))⟩)
   have HWq:=hd (show ∀w',Fr (fun q=>q=B\/L.tv.ownBlock=some q\/q=VB\/q∈gs) wp w'->Nw W w' from fun w' f=>HWp.out.trans f (fun i hi=>.inr (by
    have hb:=H.out.env.base;have he:=H.out.env.le;rcases hi with hi | hi | hi | hi
    ·have:=H.out.law.lo i (.inl hi)
     omega
    ·have:=H.out.law.lo i (.inr (.inr (.inr (.inl hi))))
     omega
    ·omega
    ·have:=Hgs.out i hi
     omega)))
   clear adx Y3 XQ;have aaT:∀w':World,(binOp .eql 22 (.slice none 0 0) (.slice none 0 0)).run Tryz.prog w'= .ok (.bool true) w':=fun w'=>by kernel_rfl
   go_wp2_with (go_at_call 16;refine(kN B VB vo ak vars L.sv L.nv L.tv L.rv L.turned wp (by omega) XP.out.blk XP.out.keeps.rt afR HVp.out (zV.out.nw HWp.out)).mono ?_;rintro e w5 ⟨rfl,tv5,hf5,hB5,hr5,hg5,adz⟩;have HR5:Hid (Y2 wp w5 B RB VB L (.slice oo rows.length oc) rows gs vars 0 tv5):=Y2.first XP.out HCp.out HOp.out HVp.out ady.out HRt.out hf5 hB5 hr5 hg5 adz;have HK5:=hd (HPB.out w5 HR5.out.fr);obtain⟨z0,z1,z2,z3,z4⟩:=HT.out w5 HK5.out.k2;have zR:=afQ.out w5 HR5.out.rb;have zRl:=HR5.out.rb.lt;clear hf5 hB5 hr5 hg5 adz)
   go_loopw [13,14,15,16] (fun ok i _ _ wq=>∃(k:Nat) (tv':Value),k<=rows.length/\ok= .bool true/\i= .int .i64 (k:Int)/\Hid (Y2 wp wq B RB VB L (.slice oo rows.length oc) rows gs vars k tv')) (fun _ i _ _ _=>rows.length-(intOf i).toNat)
   case atStart=>exact⟨0,tv5,Nat.zero_le _,rfl,rfl,HR5⟩
   case round=>
    rename World=>wq
    clear HR5 HK5 z0 z1 z2 z3 z4 zR zRl;obtain⟨k,tv',hk,rfl,rfl,HR⟩:=hrel;obtain⟨z0,z1,z2,z3,z4⟩:=HT.out wq (HPB.out wq HR.out.fr).k2;by_cases hlt:k<rows.length
    ·have hdl:(k:Int)<(rows.length:Int):=by omega
     obtain⟨rb,Fj,ra,WC,hre,aaU,XR,aaV⟩:=DZ.out k hlt;have adA:(rows.getD k []).length<=1048576:=Hrr.out _ (by rw[aN _ _ _ hlt];exact List.getElem_mem hlt)
     have hkg:k<gs.length:=by rw[XO.out];exact hlt
     obtain⟨og,kR,hoe,_,hoc,_⟩:=HR.out.own.cell k (by rw[iy];exact hkg)
     have aaW:wq.cell? ⟨og,k,none⟩=some (jE (gs.getD k 0) (rows.getD k [])):=by
      rw[hoc];have:=ED rows gs k hkg
      rw[List.getElem?_eq_getElem (by rw[iy];exact hkg)] at this
      exact this
     have hRc:wq.cell? ⟨RB,k,none⟩=some (cutV (gs.getD k 0) (rows.getD k [])):=by
      rw[HR.out.rb.cell,List.getElem?_toArray]
      exact EE rows gs k hkg
     have hnext:=fun w' afS=>HR.out.next (w':=w') (tv':=afS) hkg WR.out ady.out HRt.out afO (fun q hq=>(adw.out q hq).2)
     have htodo:=HR.out.todo k (Nat.le_refl _) hkg;have XT:=HWq.out wq HR.out.fr;obtain⟨gk,hgk⟩:∃gk,gs.getD k 0=gk:=⟨_,rfl⟩;obtain⟨row,hrow⟩:∃row,rows.getD k []=row:=⟨_,rfl⟩;rw[hgk,hrow] at aaW hRc htodo hnext;rw[hrow] at XR aaV adA;have gY:=hd hnext;have adB:=hd htodo;have afT:=hd XT;have afU:=hd aaV;have afV:=hd aaU;have afW:=hd XR;simp only[Value.slice.injEq] at hoe;obtain⟨afX,afY,afZ⟩:=hoe;subst hre;subst afX;have PR:rb<wq.heap.size:=Nat.lt_of_lt_of_le aaU XT.size;have hrc:wq.cell? ⟨rb,Fj+k,none⟩=some (.slice ra row.length WC):=(XT.cell aaU (fun x=>x)).trans XR
     have cR:wq.cell? ⟨RB,0+k,none⟩=some (.slice (some ⟨gk,0,none⟩) row.length (row.length+1)):=by rw[Nat.zero_add];exact hRc
     have hRl:=HR.out.rb.lt;clear afY afZ hoc hgk hrow hnext htodo XT aaV hRc XR;obtain⟨ob,hob⟩:∃ob,og=ob:=⟨_,rfl⟩;subst hob;have cO:wq.cell? ⟨og,0+k,none⟩=some (.slice (some ⟨gk,0,none⟩) (row.length+1) (row.length+1)):=by rw[Nat.zero_add];exact aaW
     clear aaW;go_wp2_with fail
     have hK0:Nw wq wq.drew:=(Fr.refl _ wq).drew;refine eF aaP 13 (fun w''=>Nw wq w'') (by kernel_rfl) (by kernel_rfl) (by kernel_rfl) ?_
     refine take_at (i:=0) (d:=some 95) (v:=.slice (some ⟨RB,0,none⟩) (rows.length+1) (rows.length+1)) (by kernel_rfl) (by kernel_rfl) (fun _ _ _ h=>h) (fun w'' hS=>by kernel_rfl) hK0 ?_
     refine take_at (i:=1) (d:=some 96) (v:=.int .i64 (k:Int)) (by kernel_rfl) (by kernel_rfl) (fun _ _ _ h=>h) (fun w'' hS=>by kernel_rfl) hK0 ?_
     refine take_at (i:=2) (d:=some 97) (v:=.pointer (some ⟨RB,0+k,none⟩)) (by kernel_rfl) (by kernel_rfl) (fun _ _ _ h=>h) (fun w'' hS=>jb (i:=k) (n:=rows.length+1) (cap:=rows.length+1) 26 22 (.tmp 95) (.tmp 96) (by kernel_rfl) (by kernel_rfl) (by kernel_rfl) (by omega) (by kernel_rfl) (by kernel_rfl)) hK0 ?_
     refine take_at (i:=3) (d:=some 98) (v:=.slice (some ⟨gk,0,none⟩) row.length (row.length+1)) (by kernel_rfl) (by kernel_rfl) (fun _ _ _ h=>h) (fun w'' hS=>aj 22 (.tmp 97) (by kernel_rfl) (by kernel_rfl) (by kernel_rfl) ((hS.cell hRl (fun x=>x)).trans cR)) hK0 ?_
     refine take_at (i:=4) (d:=some 99) (v:=.int .i64 (row.length:Int)) (by kernel_rfl) (by kernel_rfl) (fun _ _ _ h=>h) (fun w'' hS=>by kernel_rfl) hK0 ?_
     refine take_at (i:=5) (d:=some 100) (v:=.pointer (some ⟨B0,1,none⟩)) (by kernel_rfl) (by kernel_rfl) (fun _ _ _ h=>h) (fun w'' hS=>by kernel_rfl) hK0 ?_
     refine take_at (i:=6) (d:=some 101) (v:=.slice (some ⟨rb,Fj,none⟩) rows.length au) (by kernel_rfl) (by kernel_rfl) (fun _ _ _ h=>h) (fun w'' hS=>aj 26 (.tmp 100) (by kernel_rfl) (by kernel_rfl) (by kernel_rfl) ((hS.cell z4 (fun x=>x)).trans z1)) hK0 ?_
     refine take_at (i:=7) (d:=some 102) (v:=.int .i64 (k:Int)) (by kernel_rfl) (by kernel_rfl) (fun _ _ _ h=>h) (fun w'' hS=>by kernel_rfl) hK0 ?_
     refine take_at (i:=8) (d:=some 103) (v:=.pointer (some ⟨rb,Fj+k,none⟩)) (by kernel_rfl) (by kernel_rfl) (fun _ _ _ h=>h) (fun w'' hS=>jb (i:=k) (n:=rows.length) (cap:=au) 26 22 (.tmp 101) (.tmp 102) (by kernel_rfl) (by kernel_rfl) (by kernel_rfl) hlt (by kernel_rfl) (by kernel_rfl)) hK0 ?_
     refine take_at (i:=9) (d:=some 104) (v:=.slice ra row.length WC) (by kernel_rfl) (by kernel_rfl) (fun _ _ _ h=>h) (fun w'' hS=>aj 22 (.tmp 103) (by kernel_rfl) (by kernel_rfl) (by kernel_rfl) ((hS.cell PR (fun x=>x)).trans hrc)) hK0 ?_
     refine take_at (i:=10) (d:=some 105) (v:=.int .i64 (row.length:Int)) (by kernel_rfl) (by kernel_rfl) (fun _ _ _ h=>h) (fun w'' hS=>by kernel_rfl) hK0 ?_
     refine dG (i:=11) (d:=some 106) (v:=.bool true) (w':=wq.drew) (by kernel_rfl) (by kernel_rfl) (Vj (row.length:Int) (row.length:Int) true (.tmp 99) (.tmp 105) (by kernel_rfl) (by kernel_rfl) (by kernel_rfl) (by simp)) hK0 ?_
     refine dG (i:=12) (d:=some 15) (v:=.bool true) (w':=wq.drew) (by kernel_rfl) (by kernel_rfl) (by kernel_rfl) hK0 ?_
     refine wpAnyH_done (by kernel_rfl) ?_ _
     simp only[Act.put,bQ,bW,bU];clear hK0;go_wp2_with fail
     obtain⟨wd,hwd⟩:∃wd,wq.drew.drew=wd:=⟨_,rfl⟩;have hqd:Nw wq wd:=by rw[<-hwd];exact((Fr.refl _ wq).drew).drew
     have Y6:(L.turned++[jE VB vars]++(iI rows gs).take k).length=L.turned.length+1+k:=by
      rw[List.length_append,List.length_append,List.length_take,iy,List.length_singleton];omega
     have aK:=hd (kN B gk ra WC row L.sv L.nv tv' L.rv (L.turned++[jE VB vars]++(iI rows gs).take k) wd (by omega) (HR.out.blk.nw hqd) (HR.out.row.nw hqd) (by have:=Y6;omega) (adB.out.nw hqd) ((afU.out.nw afT.out).nw hqd))
     clear Y6;have hK2:wd.cell? ⟨B0,1,none⟩=some (.slice (some ⟨rb,Fj,none⟩) rows.length au)/\wd.cell? ⟨og,0+k,none⟩=some (.slice (some ⟨gk,0,none⟩) (row.length+1) (row.length+1))/\wd.cell? ⟨rb,Fj+k,none⟩=some (.slice ra row.length WC):=by
      rw[<-hwd];exact⟨z1,cO,hrc⟩
     refine eF aaQ 12 (fun w''=>w''.cell? ⟨B0,1,none⟩=some (.slice (some ⟨rb,Fj,none⟩) rows.length au)/\w''.cell? ⟨og,0+k,none⟩=some (.slice (some ⟨gk,0,none⟩) (row.length+1) (row.length+1))/\w''.cell? ⟨rb,Fj+k,none⟩=some (.slice ra row.length WC)) (by kernel_rfl) (by kernel_rfl) (by kernel_rfl) ?_
     rw[hwd];refine take_at (i:=0) (d:=some 107) (v:=.pointer (some ⟨B,0,none⟩)) (by kernel_rfl) (by kernel_rfl) (fun _ _ _ h=>h) (fun w'' hS=>by kernel_rfl) hK2 ?_
     refine take_at (i:=1) (d:=some 108) (v:=.slice (some ⟨og,0,none⟩) rows.length oc) (by kernel_rfl) (by kernel_rfl) (fun _ _ _ h=>h) (fun w'' hS=>by kernel_rfl) hK2 ?_
     refine take_at (i:=2) (d:=some 109) (v:=.int .i64 (k:Int)) (by kernel_rfl) (by kernel_rfl) (fun _ _ _ h=>h) (fun w'' hS=>by kernel_rfl) hK2 ?_
     refine take_at (i:=3) (d:=some 110) (v:=.pointer (some ⟨og,0+k,none⟩)) (by kernel_rfl) (by kernel_rfl) (fun _ _ _ h=>h) (fun w'' hS=>jb (i:=k) (n:=rows.length) (cap:=oc) 26 22 (.tmp 108) (.tmp 109) (by kernel_rfl) (by kernel_rfl) (by kernel_rfl) hlt (by kernel_rfl) (by kernel_rfl)) hK2 ?_
     refine take_at (i:=4) (d:=some 111) (v:=.slice (some ⟨gk,0,none⟩) (row.length+1) (row.length+1)) (by kernel_rfl) (by kernel_rfl) (fun _ _ _ h=>h) (fun w'' hS=>aj 22 (.tmp 110) (by kernel_rfl) (by kernel_rfl) (by kernel_rfl) hS.2.1) hK2 ?_
     refine take_at (i:=5) (d:=some 112) (v:=.pointer (some ⟨B0,1,none⟩)) (by kernel_rfl) (by kernel_rfl) (fun _ _ _ h=>h) (fun w'' hS=>by kernel_rfl) hK2 ?_
     refine take_at (i:=6) (d:=some 113) (v:=.slice (some ⟨rb,Fj,none⟩) rows.length au) (by kernel_rfl) (by kernel_rfl) (fun _ _ _ h=>h) (fun w'' hS=>aj 26 (.tmp 112) (by kernel_rfl) (by kernel_rfl) (by kernel_rfl) hS.1) hK2 ?_
     refine take_at (i:=7) (d:=some 114) (v:=.int .i64 (k:Int)) (by kernel_rfl) (by kernel_rfl) (fun _ _ _ h=>h) (fun w'' hS=>by kernel_rfl) hK2 ?_
     refine take_at (i:=8) (d:=some 115) (v:=.pointer (some ⟨rb,Fj+k,none⟩)) (by kernel_rfl) (by kernel_rfl) (fun _ _ _ h=>h) (fun w'' hS=>jb (i:=k) (n:=rows.length) (cap:=au) 26 22 (.tmp 113) (.tmp 114) (by kernel_rfl) (by kernel_rfl) (by kernel_rfl) hlt (by kernel_rfl) (by kernel_rfl)) hK2 ?_
     refine take_at (i:=9) (d:=some 116) (v:=.slice ra row.length WC) (by kernel_rfl) (by kernel_rfl) (fun _ _ _ h=>h) (fun w'' hS=>aj 22 (.tmp 115) (by kernel_rfl) (by kernel_rfl) (by kernel_rfl) hS.2.2) hK2 ?_
     refine enter_at (i:=10) (d:=some 117) (w':=wd) (f:=16) (args:=#[.pointer (some ⟨B,0,none⟩),.slice (some ⟨gk,0,none⟩) (row.length+1) (row.length+1),.slice ra row.length WC]) (by kernel_rfl) (by kernel_rfl) (by kernel_rfl) ?_
     refine aK.out.mono ?_
     rintro e w6 ⟨rfl,tv6,nI,XU,hr6,YU,adC⟩
     have hret:=gY.out w6 tv6 ((hqd.mono (fun _ x=>x.elim)).trans nI (fun i hi=>.inl hi)) XU hr6 YU (fun q hq=>(adC q hq).imp (fun h=>h) (fun h=>Nat.le_trans hqd.size h))
     have hK6:w6.cell? ⟨B0,1,none⟩=some (.slice (some ⟨rb,Fj,none⟩) rows.length au)/\w6.cell? ⟨og,0+k,none⟩=some (.slice (some ⟨gk,0,none⟩) (row.length+1) (row.length+1))/\w6.cell? ⟨rb,Fj+k,none⟩=some (.slice ra row.length WC):=by
      refine⟨(HPB.out w6 hret.fr).k2.cell 1,?_,((HWq.out w6 hret.fr).cell afV.out (fun x=>x)).trans afW.out⟩
      obtain⟨g1,c1,he1,_,hc1,_⟩:=hret.own.cell k (by rw[iy];exact hkg)
      obtain⟨g2,c2,he2,_,hc2,_⟩:=HR.out.own.cell k (by rw[iy];exact hkg)
      simp only[Value.slice.injEq,Option.some.injEq,Addr.mk.injEq,and_true] at he1 he2;rw[Nat.zero_add] at cO ⊢;rw[<-he2.1,cO] at hc2;rw[he1.1,hc1];exact hc2.symm
     refine⟨_,rfl,hK6,?_⟩
     refine dG (i:=11) (d:=some 16) (v:=.bool true) (w':=w6) (by kernel_rfl) (by kernel_rfl) (by kernel_rfl) hK6 ?_
     refine wpAnyH_done (by kernel_rfl) ?_ _
     simp only[Act.put,bQ,bW,bU];have aaX:=hd hret;clear hret hK6 nI XU hr6 YU adC aK hK2 hqd hwd cO cR hrc z0 z1 z2 z3 z4;go_wp2_with fail
     exact⟨⟨k+1,tv6,by omega,rfl,by simp,aaX⟩,by simp[intOf];omega⟩
    ·obtain rfl:rows.length=k:=by omega
     have hdl:¬((rows.length:Int)<(rows.length:Int)):=by omega
     have hlR:gs.length<=rows.length:=by rw[XO.out];exact Nat.le_refl _
     go_wp2_with fail
     go_loopw [17] (fun i wz=>∃(k:Nat) (cs:List Value),k<=rows.length+1/\i= .int .i64 (k:Int)/\Hid (cs.length=rows.length+1)/\Hid (af wz RB cs.toArray 22)/\Hid (∀j,j<k->cs[j]? = some (.slice none 0 0))/\Hid (Fr (fun q=>q=RB) wq wz)) (fun i _=>rows.length+1-(intOf i).toNat)
     case atStart=>exact⟨0,mg rows gs,Nat.zero_le _,rfl,QM rows gs hlR,HR.out.rb,hd (fun j hj=>absurd hj (Nat.not_lt_zero _)),Fr.refl _ _⟩
     case round=>
      rename World=>wz
      obtain⟨k,cs,hk,rfl,Hcl,J7,Hcn,Oz⟩:=hrel;by_cases hlt3:k<rows.length+1
      ·have af0:(k:Int)<(rows.length:Int)+1:=by omega
       obtain⟨old,hold⟩:∃old,wz.cell? ⟨RB,k,none⟩=some old:=by
        have hkc:k<cs.length:=by rw[Hcl.out];exact hlt3
        exact⟨cs[k],by rw[J7.out.cell,List.getElem?_toArray,List.getElem?_eq_getElem hkc]⟩
       have hRf:=J7.out.free k;have ahk:=J7.out.lt;go_wp2_with fail
       refine⟨⟨k+1,cs.set k (.slice none 0 0),by omega,by simp,by rw[List.length_set];exact Hcl.out,?_,hd (fun j hj=>?_),hd (Oz.out.setCell _ _ (.inl rfl))⟩,by simp[intOf];omega⟩
       ·have:=J7.out.set k (.slice none 0 0)
        rw[bQ] at this;exact this
       ·by_cases e:k=j
        ·subst e;rw[List.getElem?_set_self (by rw[Hcl.out];exact hlt3)]
        ·rw[List.getElem?_set_ne e]
         exact Hcn.out j (by omega)
      ·obtain rfl:rows.length+1=k:=by omega
       have af0:¬((rows.length:Int)+1<(rows.length:Int)+1):=by omega
       have Oe:B≠RB:=fun e=>by
        have h1:=HR.out.rb;rw[<-e] at h1;exact absurd (h1.inj HR.out.blk).2 (by decide)
       have hBz:af wz B #[L.sv,L.nv,tv',L.rv] 29:=HR.out.blk.fr Oz.out Oe;have aaY:Row wq L.rv 26 L.rows:=XP.out.keeps.rr.fr HR.out.fr (fun q hq hs=>by
        obtain⟨c2,hb2,_⟩:=XP.out.keeps.rr.blk hq;exact absurd (Vs.out q c2 _ hs hb2) (by decide))
       have Vt:Row wz L.rv 26 L.rows:=aaY.fr Oz.out (fun q hq e=>by
        obtain⟨c2,hb2,_⟩:=aaY.blk hq;rw[e] at hb2;exact absurd (hb2.inj HR.out.rb).2 (by decide))
       obtain⟨rvo,rvc,XV,_⟩:=Vt.form;have ahl:wz.cell? ⟨B,3,none⟩=some (.slice rvo L.rows.length rvc):=by
        have:=hBz.cell 3
        rw[XV] at this;exact this
       have hPz:Dz wz B0 d #[.slice vo vars.length ak,.slice ro rows.length au,.bool nt,.int .i64 way]:=⟨(HPB.out wq HR.out.fr).k1.fr Oz.out (fun e=>by
        have h1:=(HPB.out wq HR.out.fr).k1;rw[e] at h1;exact absurd (h1.inj HR.out.rb).2 (by decide)),(HPB.out wq HR.out.fr).k2.fr Oz.out (fun e=>by
        have h1:=(HPB.out wq HR.out.fr).k2;rw[e] at h1;exact absurd (h1.inj HR.out.rb).2 (by decide))⟩
       have ahm:=hBz.lt;have HBz:=hd hBz;have ahn:=hd Vt;have HPz:=hd hPz;have aaZ:=hd XV;have adD:(L.rows.length+1)*24<=140737488355328:=by omega
       rw[XV] at Vt;have JA:=hd Vt;clear hBz aaY Vt hPz XV Oe;go_upto_region 23 with (at_builtin;refine wpList_append_own_at _ rfl _ _ 27 rfl 0 26 i2 (.slice none 0 0) 1 24 Tryz.underlying27 hi2 afH hz2b afI rfl (by decide) (.slice rvo L.rows.length rvc) L.rows.length _ rfl (JA.out.alloc _) ⟨wz.heap.size,0,none⟩ 1 1 [.slice (some ⟨RB,0,none⟩) (rows.length+1) (rows.length+1)] rfl rfl (cell_one_new _ _ _) (by simp[Value.oneCell']) (by unfold maxLen;omega) adD (Nat.zero_le _) ?_;intro v' w6 hown' hgrow _ hat;obtain⟨g6,cap6,rfl,hr6,nI,ha6,af1⟩:=Y1 rfl hown' hgrow hat;have XU:=HBz.out.fr nI (fun h=>by obtain⟨c2,hb2,_⟩:=JA.out.blk h;exact absurd (HBz.out.inj hb2).2 (by decide));have af2:=XU.free 3;have af4:w6.cell? ⟨B,3,none⟩=some (.slice rvo L.rows.length rvc):=(by have:=XU.cell 3;rw[aaZ.out] at this;exact this);have U4:Dz w6 B0 d #[.slice vo vars.length ak,.slice ro rows.length au,.bool nt,.int .i64 way]:=⟨HPz.out.k1.fr nI (fun h=>by obtain⟨c2,hb2,_⟩:=JA.out.blk h;exact absurd (HPz.out.k1.inj hb2).2 (by decide)),HPz.out.k2.fr nI (fun h=>by obtain⟨c2,hb2,_⟩:=JA.out.blk h;exact absurd (HPz.out.k2.inj hb2).2 (by decide))⟩;have hDB:d.D≠B:=(fun e=>by have h1:=U4.k1;rw[e] at h1;exact absurd (h1.inj XU).2 (by decide));have af5:B0≠B:=(fun e=>by have h1:=U4.k2;rw[e] at h1;exact absurd (h1.inj XU).2 (by decide));have hDc:w6.cell? ⟨d.D,2,none⟩=some (.bool bz):=(U4.k1.cell 2).trans (by rw[<-F6.out];rfl);have acX:=U4.k1.lt;have HB6:=hd XU;have LU:=hd U4;have Hr6:=hd hr6;have Pn:=hd nI;have Ha6:=hd ha6;clear hown' hgrow hat hr6 nI ha6 af1 XU U4)
       obtain⟨w7,hw7⟩:∃w7,w6.setCell ⟨B,3,none⟩ (.slice (some ⟨g6,0,none⟩) (L.rows.length+1) cap6)=w7:=⟨_,rfl⟩;have hfs:Fr (fun q=>q=B) w6 w7:=by rw[<-hw7];exact(Fr.refl (fun q=>q=B) w6).setCell _ _ (.inl rfl)
       rw[hw7];have hP7:Dz w7 B0 d #[.slice vo vars.length ak,.slice ro rows.length au,.bool nt,.int .i64 way]:=⟨LU.out.k1.fr hfs hDB,LU.out.k2.fr hfs af5⟩;have agD:=HCp.out.rb.lt;have Vu:∀{q:Nat} {cur:Array Value} {e:TypeId},af wz q cur e->e≠26->¬(Value.slice rvo L.rows.length rvc).ownBlock=some q:=fun hb he h=>by
        obtain⟨c2,hb2,_⟩:=JA.out.blk h;exact he (hb.inj hb2).2
       have Vw:∀{q:Nat} {cur:Array Value} {e:TypeId},af w6 q cur e->e≠29->¬q=B:=fun hb he h=>by
        rw[h] at hb;exact he (hb.inj HB6.out).2
       have Ci:∀{q:Nat} {cur:Array Value} {e:TypeId},af wz q cur e->e≠26->e≠29->af w7 q cur e:=fun hb h1 h2=>(hb.fr Pn.out (Vu hb h1)).fr hfs (Vw (hb.fr Pn.out (Vu hb h1)) h2)
       have af6:=HR.out.rb;have OA:∀{q:Nat} {cur:Array Value} {e:TypeId},af wq q cur e->e≠22->af wz q cur e:=fun hb he=>hb.fr Oz.out (fun h=>by
        rw[h] at hb;exact he (hb.inj af6).2)
       have hend:F9 w wp w7 B RB VB wr.heap.size L rows gs vars tv' (.slice (some ⟨g6,0,none⟩) (L.rows.length+1) cap6) cs:=by
        refine⟨?_,?_,?_,?_,Ci J7.out (by decide) (by decide),Hcl.out,Hcn.out,Ci (OA HR.out.vb (by decide)) (by decide) (by decide),fun j hj=>Ci (OA (HR.out.done j (by rw[<-XO.out];exact hj)) (by decide)) (by decide) (by decide),HR.out.grow,fun q hq=>?_,?_,?_,fun g hg=>?_,?_,?_⟩
        ·refine(((HR.out.fr.mono (fun q hq=>.inl ?_)).trans Oz.out (fun q hq=>.inl (.inr (.inr (.inr (.inr (.inr hq))))))).trans Pn.out (fun q hq=>.inl (.inr (.inr (.inl (by rw[aaZ.out];exact hq)))))).trans hfs (fun q hq=>.inl (.inl hq))
         rcases hq with hq | hq | hq | hq
         ·exact .inl hq
         ·exact .inr (.inl hq)
         ·exact .inr (.inr (.inr (.inl hq)))
         ·exact .inr (.inr (.inr (.inr (.inl hq))))
        ·rw[<-hw7];have:=HB6.out.set 3 (.slice (some ⟨g6,0,none⟩) (L.rows.length+1) cap6)
         simpa using this
        ·have h1:=HR.out.row;rw[List.take_of_length_le (by rw[iy,XO.out];exact Nat.le_refl _)] at h1
         have h2:=h1.fr Oz.out (fun q hq e=>by
          rcases HR.out.grow q hq with h3 | h3
          ·exact(HRt.out q h3).1 e
          ·omega)
         have h3:=h2.fr Pn.out (fun q hq=>by
          obtain⟨c2,hb2,_⟩:=h2.blk hq;exact Vu hb2 (by decide))
         exact h3.fr hfs (fun q hq=>by
          obtain⟨c2,hb2,_⟩:=h3.blk hq;exact Vw hb2 (by decide))
        ·exact Hr6.out.fr hfs (fun q hq=>by
          obtain⟨c2,hb2,_⟩:=Hr6.out.blk hq;exact Vw hb2 (by decide))
        ·cases hq;rcases Ha6.out with h | h
         ·exact .inl (by rw[aaZ.out];exact h)
         ·right
          have h1:=HR.out.fr.size;have h2:=Oz.out.size;show wp.heap.size<=g6
          omega
        ·exact⟨afM,by omega⟩
        ·exact⟨afN,ads⟩
        ·refine⟨by have:=Hgs.out g hg;omega,?_⟩
         exact afP.out g hg
        ·exact⟨by omega,afL⟩
        ·intro q cur e hq hb;rcases hq with hq | hq | hq | hq | hq | hq
         ·exact List.mem_append_left [26] (Vs.out q cur e (.inl hq) hb)
         ·exact List.mem_append_left [26] (Vs.out q cur e (.inr (.inl hq)) hb)
         ·obtain⟨c2,hb2,_⟩:=XP.out.keeps.rr.blk hq;rw[(hb.inj hb2).2];decide
         ·exact List.mem_append_left [26] (Vs.out q cur e (.inr (.inr (.inl hq))) hb)
         ·exact List.mem_append_left [26] (Vs.out q cur e (.inr (.inr (.inr hq))) hb)
         ·rw[hq] at hb;rw[(hb.inj HCp.out.rb).2];decide
       have hL7:=hend.law H.out.law XP.out H.out.env.le XO.out hvl hrl Hrr.out htl hrw;obtain⟨hR7,hW7⟩:=hend.ref H.out HRp.out HWp.out;have aho:w7.cell? ⟨d.D,2,none⟩=some (.bool bz):=(hP7.k1.cell 2).trans (by rw[<-F6.out];rfl)
       have ahp:=hP7.k1.lt;clear hw7 hDc acX af2 af4;cases bz with
       | true=>
        have hr5:r=5:=(Vr.out.2 rfl).1;have hss:s'=d.s:=(Vr.out.2 rfl).2.1;have adE:=(Vr.out.2 rfl).2.2;subst hr5;have kF:=hend.fin (wd:=wr.drew) (w8:=w7) (w3:=w7) H.out (Nat.le_trans hsV (Nat.le_trans adu adv)) (Nat.le_refl _) hL7 HwP.out HAp.out HSp.out HRp.out Ru.out.k1 (Fr.refl _ _) hR7 (Fr.refl _ _) (fun q hq=>.inl hq) rfl (by rw[hss];exact H.out.side.pair.now) (by rw[hss];exact H.out.side.pair.tabs) (by rw[hss];exact H.out.side.pair.ku) (by rw[hss];exact H.out.side.pair.busy)
        rw[hss] at kF;have Cj:=hd kF;have af7:=hd (show Fr (fun k=>L.own B k) w w7 from((HwN.out.trans adE (fun _ x=>x.elim)).mono (fun _ x=>x.elim)).trans hend.fr (fun q hq=>by
         rcases hq with hq | hq | hq | hq | hq | hq
         ·exact .inl (.inl hq)
         ·exact .inl (.inr (.inr (.inr (.inl hq))))
         ·exact .inl (.inr (.inr (.inr (.inr (.inl hq)))))
         ·exact .inr (by omega)
         ·exact .inr (by have:=Hgs.out q hq;omega)
         ·exact .inr (by omega)))
        clear adE kF hend hL7 hR7 hW7 OA Ci Vw Vu hss;go_wp2_with fail
        go_ret
        refine⟨rfl,_,_,Cj.out.1,Cj.out.2,rfl,?_,?_,fun _=>⟨rfl,af7.out⟩⟩
        ·show (L.turned++([jE VB vars]++iI rows gs)).length=_
         rw[List.length_append,List.length_append,iy,List.length_singleton,XO.out];omega
        ·show (L.rows++[_]).length=_
         rw[List.length_append];rfl
       | false=>
        obtain⟨w8,hw8⟩:∃w8,w7.drew=w8:=⟨_,rfl⟩;have MZ:Nw w7 w8:=by rw[<-hw8];exact(Fr.refl _ w7).drew
        have af8:lo<=w8.heap.size:=by
         have h0:=H.out.env.le;have h1:=hend.n4;have h2:=hend.fr.size;have h3:=MZ.size;omega
        have Hpd:=hd (U9 (ak:=ak) (au:=au) H.out.env.base af8 (hW7.trans MZ (fun _ x=>x.elim)) (hR7.nw MZ) H.out.side.pair.at_.mem.fits.1 H.out.side.pair.now H.out.side.pair.tabs H.out.side.pair.ku (by omega) (by omega) zV.out DZ.out (Vr.out.1 rfl))
        have hK7:Dz w8 B0 d #[.slice vo vars.length ak,.slice ro rows.length au,.bool nt,.int .i64 way]:=⟨hP7.k1.nw MZ,hP7.k2.nw MZ⟩;have af9:=hd hend;have HL7:=hd hL7;have H78:=hd MZ;clear hend hL7 hR7 hW7 OA Ci Vw Vu;go_wp2_with fail
        refine eF aaR 13 (fun w''=>Dz w'' B0 d #[.slice vo vars.length ak,.slice ro rows.length au,.bool nt,.int .i64 way]) (by kernel_rfl) (by kernel_rfl) (by kernel_rfl) ?_
        rw[hw8];refine take_at (i:=0) (d:=some 153) (v:=.bool true) (by kernel_rfl) (by kernel_rfl) (fun _ _ _ h=>h) (fun w'' hS=>by kernel_rfl) hK7 ?_
        refine take_at (i:=1) (d:=some 154) (v:=.bool true) (by kernel_rfl) (by kernel_rfl) (fun _ _ _ h=>h) (fun w'' hS=>by kernel_rfl) hK7 ?_
        refine take_at (i:=2) (d:=some 155) (v:=.pointer (some ⟨d.D,0,none⟩)) (by kernel_rfl) (by kernel_rfl) (fun _ _ _ h=>h) (fun w'' hS=>by kernel_rfl) hK7 ?_
        refine take_at (i:=3) (d:=some 156) (v:=.int .i64 r) (by kernel_rfl) (by kernel_rfl) (fun _ _ _ h=>h) (fun w'' hS=>by kernel_rfl) hK7 ?_
        refine take_at (i:=4) (d:=some 157) (v:=.pointer (some ⟨d.D,0,none⟩)) (by kernel_rfl) (by kernel_rfl) (fun _ _ _ h=>h) (fun w'' hS=>by kernel_rfl) hK7 ?_
        refine take_at (i:=5) (d:=some 158) (v:=.pointer (some ⟨d.D,0,none⟩)) (by kernel_rfl) (by kernel_rfl) (fun _ _ _ h=>h) (fun w'' hS=>by kernel_rfl) hK7 ?_
        refine take_at (i:=6) (d:=some 159) (v:=.pointer (some ⟨d.D,1,none⟩)) (by kernel_rfl) (by kernel_rfl) (fun _ _ _ h=>h) (fun w'' hS=>by kernel_rfl) hK7 ?_
        refine take_at (i:=7) (d:=some 160) (v:=.pointer (some ⟨d.Y,0,none⟩)) (by kernel_rfl) (by kernel_rfl) (fun _ _ _ h=>h) (fun w'' hS=>aj 46 (.tmp 159) (by kernel_rfl) (by kernel_rfl) (by kernel_rfl) (hS.k1.cell 1)) hK7 ?_
        refine take_at (i:=8) (d:=some 161) (v:=.agg #[.slice vo vars.length ak,.slice ro rows.length au,.bool nt,.int .i64 way]) (by kernel_rfl) (by kernel_rfl) (fun _ _ _ h=>h) (fun w'' hS=>Ce 41 (.tmp 5) (by kernel_rfl) (by kernel_rfl) (by kernel_rfl) (by kernel_rfl) (hS.k2.cell 0) (hS.k2.cell 1) (hS.k2.cell 2) (hS.k2.cell 3)) hK7 ?_
        refine enter_at (i:=9) (d:=some 162) (w':=w8) (f:=79) (args:=#[.pointer (some ⟨d.Y,0,none⟩),.agg #[.slice vo vars.length ak,.slice ro rows.length au,.bool nt,.int .i64 way]]) (by kernel_rfl) (by kernel_rfl) (by kernel_rfl) ?_
        refine Hpd.out.mono ?_
        rintro e w9 ⟨rfl,R',j1,j2,j3,j4,j5,j6,j7⟩
        have kF:=af9.out.fin (wd:=wr.drew) H.out (Nat.le_trans hsV (Nat.le_trans adu adv)) (Nat.le_refl _) HL7.out HwP.out HAp.out HSp.out HRp.out Ru.out.k1 H78.out j1 j2 j3 j4 j5 j6 j7 (by rw[(Vr.out.1 rfl).busy];exact H.out.side.pair.busy)
        have hK9:Dz w9 B0 d #[.slice vo vars.length ak,.slice ro rows.length au,.bool nt,.int .i64 way]:=⟨kF.1.side.blk,hK7.k2.fr j2 (fun hw=>by
         have:=H.out.side.lt (.inr (.inr (.inl hw)))
         have:=HB0.out
         omega)⟩
        refine⟨_,rfl,hK9,?_⟩
        refine enter_at (i:=10) (d:=some 163) (w':=w9) (f:=57) (args:=#[.pointer (some ⟨d.D,0,none⟩),.int .i64 r,.int .i64 r]) (by kernel_rfl) (by kernel_rfl) (by kernel_rfl) ?_
        refine(nT _ r w9).mono ?_
        rintro e w10 ⟨rfl,rfl⟩
        refine⟨_,rfl,hK9,?_⟩
        refine dG (i:=11) (d:=some 164) (v:=.bool true) (w':=w10) (by kernel_rfl) (by kernel_rfl) (by kernel_rfl) hK9 ?_
        refine dG (i:=12) (d:=some 6) (v:=.bool true) (w':=w10) (by kernel_rfl) (by kernel_rfl) (by kernel_rfl) hK9 ?_
        refine wpAnyH_done (by kernel_rfl) ?_ _
        simp only[Act.put,bQ,bW,bU];have Cj:=hd kF;clear kF hK9 j1 j2 j3 j4 j5 j6 j7 hK7 Hpd hP7 hfs hw8 MZ;go_wp2_with fail
        go_ret
        refine⟨rfl,_,_,Cj.out.1,Cj.out.2,rfl,?_,?_,fun e=>(by rw[F6.out] at e;cases e)⟩
        ·show (L.turned++([jE VB vars]++iI rows gs)).length=_
         rw[List.length_append,List.length_append,iy,List.length_singleton,XO.out];omega
        ·show (L.rows++[_]).length=_
         rw[List.length_append];rfl
theorem QX (W:World) (lo B:Nat) (L:LW) (d:Sd) (vo ro:Option Addr) (ak au:Nat) (vars:List Int) (rows:List (List Int)) (nt:Bool) (way:Int) (w:World) (h:LS W w lo B L d) (_hbz:d.bz=false) (hvs:ax W vo vars) (hrs:dW W ro rows)
  (hvl:vars.length<=1048576) (hrl:rows.length<=1048576) (hrr:∀r∈rows,r.length<=1048576) (htl:L.turned.length<=8388608) (hrw:L.rows.length<=8388608):
  Calls Tryz.prog 53 #[.pointer (some ⟨B,0,none⟩),.pointer (some ⟨d.D,0,none⟩),.agg #[.slice vo vars.length ak,.slice ro rows.length au,.bool nt,.int .i64 way]] w fun e w'=>e= .returned (.bool true)/\∃L' d',LS W w' lo B L' d'/\dJ w w' B L L' d d'/\L'.nums=L.nums/\L'.turned.length=L.turned.length+1+rows.length/\L'.rows.length=L.rows.length+1:=
 (EF W lo B L d vo ro ak au vars rows nt way w h hvs hrs hvl hrl hrr htl hrw).mono fun _ _ ⟨h0,L',d',h1,h2,h3,h4,h5,_⟩=>⟨h0,L',d',h1,h2,h3,h4,h5⟩
structure JB (L L':LW) (n:Nat):Prop where
 a:L'.nums.length<=L.nums.length+4
 b:L'.turned.length<=L.turned.length+1+n
 c:L'.rows.length<=L.rows.length+1
structure Gf (W:World) (o:kU):Prop where
 vs:ax W o.vo o.vars
 rs:dW W o.ro o.rows
 vl:o.vars.length<=1048576
 rl:o.rows.length<=1048576
 rr:∀r∈o.rows,r.length<=1048576
 al:o.a<9223372036854775808
structure zF (L:LW):Prop where
 n:L.nums.length<=68719476736
 t:L.turned.length<=8388608
 r:L.rows.length<=8388608
 four:L.nums.length % 4=0
def fP (W w:World) (lo B:Nat) (L:LW) (d:Sd) (n:Nat) (e:Ending) (w':World):Prop:=e= .returned (.bool true)/\∃L' d',LS W w' lo B L' d'/\dJ w w' B L L' d d'/\JB L L' n
theorem fP.same {W w w':World} {lo B:Nat} {L:LW} {d:Sd} {n:Nat} (h:LS W w lo B L d) (f:Nw w w'):fP W w lo B L d n (.returned (.bool true)) w':=⟨rfl,L,d,h.nw f,dJ.nw f B L d,by omega,by omega,by omega⟩
theorem lS {fn:Func} {p:Tmp} {ty:TypeId} {tmps:Array Value} {w:World} {b off:Nat} {v:Value} (h:fn.results=#[.cell p ty]) (hp:tmps.getD p undef= .pointer (some ⟨b,off,none⟩)) (hag:(isAgg ty).run Tryz.prog w= .ok false w) (hc:w.cell? ⟨b,off,none⟩=some v):(results fn tmps).run Tryz.prog w= .ok v w:=by
 have hp':tmps[p]?.getD undef= .pointer (some ⟨b,off,none⟩):=by simpa using hp
 have hl:(Sem.load Mode.plain (⟨b,off,none⟩:Addr) Sem.pure).run Tryz.prog w= .ok v w:=by
  unfold Sem.run;rw[hc];rfl
 simp[results,h,hp',asAddr,loadVar,hag,hl,Result.andThen,load]
theorem fP.box {W w V w1:World} {lo B rb:Nat} {L L':LW} {d d':Sd} {n:Nat} {cur:Array Value} (h:LS W w lo B L d) (hf:Nw w V) (hrb:w.heap.size<=rb) (hb:af V rb cur 4) (h1:LS W w1 lo B L' d') (hs:dJ V w1 B L L' d d') (hc:JB L L' n):af w1 rb cur 4/\fP W w lo B L d n (.returned (.bool true)) (w1.setCell ⟨rb,0,none⟩ (.bool true)):=by
 have hVl:=hb.lt;have hno:¬(L.own B rb\/d.own rb):=fun ho=>by
  rcases ho with ho | ho
  ·have:=h.law.lt rb ho
   omega
  ·have:=h.side.lt ho
   omega
 have hb1:=hb.fr hs.fr hno;have hL1:¬L'.own B rb:=fun ho=>by
  rcases hs.nS rb ho with h2 | h2
  ·exact hno (.inl h2)
  ·omega
 have hd1:¬d'.own rb:=fun ho=>by
  rcases hs.xB rb ho with h2 | h2
  ·exact hno (.inr h2)
  ·omega
 have hfs:Fr (fun k=>k=rb) w1 (w1.setCell ⟨rb,0,none⟩ (.bool true)):=(Fr.refl (fun k=>k=rb) w1).setCell _ _ (.inl rfl)
 have Qh:=h.env.le;have hlb:=h.env.base;have hsz:=hf.size;refine⟨hb1,rfl,L',d',⟨⟨hlb,h1.env.nw.trans hfs (fun i hi=>.inr (by omega)),Nat.le_trans h1.env.le hfs.size⟩,h1.law.fr hfs (fun k hk e=>hL1 (by rw[<-e];exact hk)),h1.side.fr hfs (fun k hk e=>hd1 (by rw[<-e];exact hk)) (Only.one hb1) (by decide),h1.apart⟩,⟨((hf.mono (fun _ x=>x.elim)).trans hs.fr (fun i hi=>.inl hi)).trans hfs (fun i hi=>.inr (by omega)),fun k hk=>?_,fun k hk=>?_,hs.ss,hs.dd,hs.zs,hs.bz,hs.sq,hs.four⟩,hc⟩
 ·rcases hs.nS k hk with h2 | h2
  ·exact .inl h2
  ·exact .inr (by omega)
 ·rcases hs.xB k hk with h2 | h2
  ·exact .inl h2
  ·exact .inr (by omega)
structure Gg (w V:World) (b0 rb:Nat) (o:kU):Prop where
 nw:Nw w V
 k0:af V b0 o.cells 54
 k1:af V rb #[.bool false] 4
 lo:w.heap.size<=rb
theorem Gg.new (w:World) (o:kU):Gg w ((w.alloc (.cells o.cells 54)).alloc (.cells #[.bool false] 4)) w.heap.size (w.heap.size+1) o:=by
 have h1:af (w.alloc (.cells o.cells 54)) w.heap.size o.cells 54:=af.new _ _ _;have h2:=af.new (w.alloc (.cells o.cells 54)) #[.bool false] 4;have hs:(w.alloc (.cells o.cells 54)).heap.size=w.heap.size+1:=by simp
 rw[hs] at h2;exact⟨((Fr.refl _ w).alloc _).alloc _,h1.alloc _,h2,by omega⟩
def vI (B D:Nat) (o:kU):FuncId×Array Value:=if o.kind=1 then (53,#[.pointer (some ⟨B,0,none⟩),.pointer (some ⟨D,0,none⟩),.agg #[.slice o.vo o.vars.length o.ak,.slice o.ro o.rows.length o.au,.bool o.nt,.int .i64 o.way]]) else if o.kind=4 then (36,#[.pointer (some ⟨B,0,none⟩),.pointer (some ⟨D,0,none⟩),.int .i64 o.a]) else if o.kind=8 then (37,#[.pointer (some ⟨D,0,none⟩),.int .i64 o.a]) else (38,#[.pointer (some ⟨D,0,none⟩),.agg o.cells])
def OB (w:World) (o:kU) (P:World->World->Prop) (e:Ending) (w':World):Prop:=e= .returned (.bool true)/\∃V b0 rb w1,Gg w V b0 rb o/\P V w1/\af w1 rb #[.bool false] 4/\w'=w1.setCell ⟨rb,0,none⟩ (.bool true)
set_option maxRecDepth 1000000 in
theorem JC (B D:Nat) (o:kU) (w:World) (P:World->World->Prop) (h1:1<=o.kind) (h8:o.kind<=8) (hcall:∀V,Nw w V->Calls Tryz.prog (vI B D o).1 (vI B D o).2 V (fun e w1=>e= .returned (.bool true)/\P V w1))
  (hbox:∀V w1 rb cur,Nw w V->P V w1->w.heap.size<=rb->af V rb cur 4->af w1 rb cur 4):
  Calls Tryz.prog 35 #[.pointer (some ⟨B,0,none⟩),.pointer (some ⟨D,0,none⟩),.agg o.cells] w (OB w o P):=by
 obtain⟨b0,hb0⟩:∃b0,b0=w.heap.size:=⟨_,rfl⟩;obtain⟨rb,hrb⟩:∃rb,rb=w.heap.size+1:=⟨_,rfl⟩;obtain⟨V,hV⟩:∃V,V=(w.alloc (.cells o.cells 54)).alloc (.cells #[.bool false] 4):=⟨_,rfl⟩;have hP:Gg w V b0 rb o:=by rw[hV,hb0,hrb];exact Gg.new w o
 have aK:=hd (hcall V hP.nw);have aga:=hd (fun w1=>hbox V w1 rb #[.bool false] hP.nw)
 have HP:=hd hP;obtain⟨PP,Nb⟩:∃PP,PP=OB w o P:=⟨_,rfl⟩;have HPP:=hd Nb;obtain⟨kk,a,b,vo,ak,ro,au,vars,rows,nt,way,which,fv,mv⟩:=o;have c0:V.cell? ⟨b0,0,none⟩=some (.int .i64 kk):=hP.k0.cell 0
 have c1:V.cell? ⟨b0,1,none⟩=some (.int .i64 a):=hP.k0.cell 1
 have c2:V.cell? ⟨b0,2,none⟩=some (.int .i64 b):=hP.k0.cell 2
 have c3:V.cell? ⟨b0,3,none⟩=some (.slice vo vars.length ak):=hP.k0.cell 3
 have c4:V.cell? ⟨b0,4,none⟩=some (.slice ro rows.length au):=hP.k0.cell 4
 have c5:V.cell? ⟨b0,5,none⟩=some (.bool nt):=hP.k0.cell 5
 have c6:V.cell? ⟨b0,6,none⟩=some (.int .i64 way):=hP.k0.cell 6
 have c7:V.cell? ⟨b0,7,none⟩=some (.bool which):=hP.k0.cell 7
 have c8:V.cell? ⟨b0,8,none⟩=some fv:=hP.k0.cell 8
 have c9:V.cell? ⟨b0,9,none⟩=some mv:=hP.k0.cell 9
 have hbl:=hP.k0.lt;have hrl:=hP.k1.lt;rw[<-Nb];dsimp only at h1 h8
 clear hP Nb hcall hbox;have hk:kk=1\/kk=2\/kk=3\/kk=4\/kk=5\/kk=6\/kk=7\/kk=8:=by omega
 clear h1 h8;rcases hk with rfl | rfl | rfl | rfl | rfl | rfl | rfl | rfl
 all_goals
  have Vx:=aK;simp only[vI,kU.cells,reduceIte,Int.reduceEq] at Vx;clear aK;go_enter Tryz.func35,Tryz.ntmps35
  go_upto_region 1 with fail
  rw[<-show V=(w.alloc _).alloc _ from hV,<-hrb,<-hb0]
  clear hV hb0 hrb;go_wp2_with ((first | go_at_call 53 | go_at_call 36 | go_at_call 38 | go_at_call 37);refine Vx.out.mono ?_;rintro e w1 ⟨rfl,h1⟩;have hb1:=aga.out w1 h1 HP.out.lo HP.out.k1;have HW:=hd h1;have hf1:=hb1.free 0;have adF:w1.cell? ⟨rb,0,none⟩=some (.bool false):=hb1.cell 0;have ahr:=hb1.lt;have Hb1:=hd hb1;clear hb1 h1)
  refine bodyPost_ret (lS (v:=.bool true) (b:=rb) (off:=0) rfl rfl (by kernel_rfl) ((Hb1.out.set 0 (.bool true)).cell 0)) rfl ?_
  rw[HPP.out];exact⟨rfl,V,b0,rb,w1,HP.out,HW.out,Hb1.out,rfl⟩
set_option maxRecDepth 1000000 in
theorem JD (B D:Nat) (o:kU) (w:World) (hk:o.kind<=0\/9<o.kind\/(o.kind=9/\w.cell? ⟨D,2,none⟩=some (.bool false)/\D<w.heap.size)):
  Calls Tryz.prog 35 #[.pointer (some ⟨B,0,none⟩),.pointer (some ⟨D,0,none⟩),.agg o.cells] w (OB w o (fun V w1=>w1=V)):=by
 obtain⟨b0,hb0⟩:∃b0,b0=w.heap.size:=⟨_,rfl⟩;obtain⟨rb,hrb⟩:∃rb,rb=w.heap.size+1:=⟨_,rfl⟩;obtain⟨V,hV⟩:∃V,V=(w.alloc (.cells o.cells 54)).alloc (.cells #[.bool false] 4):=⟨_,rfl⟩;have hP:Gg w V b0 rb o:=by rw[hV,hb0,hrb];exact Gg.new w o
 obtain⟨kk,hkk⟩:∃kk,o.kind=kk:=⟨_,rfl⟩;rw[hkk] at hk;have c0:V.cell? ⟨b0,0,none⟩=some (.int .i64 kk):=(hP.k0.cell 0).trans (by rw[<-hkk];rfl)
 have n1:(kk==1)=false:=by rw[beq_eq_false_iff_ne];omega
 have n2:(kk==2)=false:=by rw[beq_eq_false_iff_ne];omega
 have n3:(kk==3)=false:=by rw[beq_eq_false_iff_ne];omega
 have n4:(kk==4)=false:=by rw[beq_eq_false_iff_ne];omega
 have n5:(kk==5)=false:=by rw[beq_eq_false_iff_ne];omega
 have n6:(kk==6)=false:=by rw[beq_eq_false_iff_ne];omega
 have n7:(kk==7)=false:=by rw[beq_eq_false_iff_ne];omega
 have n8:(kk==8)=false:=by rw[beq_eq_false_iff_ne];omega
 have hbl:=hP.k0.lt;have hrl:=hP.k1.lt;have hf1:=hP.k1.free 0;have adF:V.cell? ⟨rb,0,none⟩=some (.bool false):=hP.k1.cell 0
 have HP:=hd hP;obtain⟨PP,Nb⟩:∃PP,PP=OB w o (fun V w1=>w1=V):=⟨_,rfl⟩
 rw[<-Nb];have HPP:=hd Nb;have hD:kk=9->V.cell? ⟨D,2,none⟩=some (.bool false)/\D<V.heap.size:=fun e=>by
  obtain⟨_,h1,h2⟩:kk=9/\w.cell? ⟨D,2,none⟩=some (.bool false)/\D<w.heap.size:=by
   rcases hk with h | h | h
   ·omega
   ·omega
   ·exact h
  exact⟨(hP.nw.cell h2 (fun x=>x)).trans h1,Nat.lt_of_lt_of_le h2 hP.nw.size⟩
 clear hP Nb hkk hk;by_cases e9:kk=9
 ·obtain⟨d2,hDl⟩:=hD e9;subst e9;clear hD n1 n2 n3 n4 n5 n6 n7 n8;go_enter Tryz.func35,Tryz.ntmps35
  go_upto_region 1 with fail
  rw[<-hV,<-hrb,<-hb0];clear hV hb0 hrb;go_wp2_with fail
  refine bodyPost_ret (lS (v:=.bool true) (b:=rb) (off:=0) rfl rfl (by kernel_rfl) ((HP.out.k1.set 0 (.bool true)).cell 0)) rfl ?_
  rw[HPP.out];exact⟨rfl,V,b0,rb,V,HP.out,rfl,HP.out.k1,rfl⟩
 ·have n9:(kk==9)=false:=by rw[beq_eq_false_iff_ne];exact e9
  clear hD e9;go_enter Tryz.func35,Tryz.ntmps35
  go_upto_region 1 with fail
  rw[<-hV,<-hrb,<-hb0];clear hV hb0 hrb;go_wp2_with fail
  refine bodyPost_ret (lS (v:=.bool true) (b:=rb) (off:=0) rfl rfl (by kernel_rfl) ((HP.out.k1.set 0 (.bool true)).cell 0)) rfl ?_
  rw[HPP.out];exact⟨rfl,V,b0,rb,V,HP.out,rfl,HP.out.k1,rfl⟩
theorem zG (W:World) (lo B:Nat) (L:LW) (d:Sd) (v:Int) (w:World) (h:LS W w lo B L d) (hbz:d.bz=false) (hr:zF L):
  Calls Tryz.prog 36 #[.pointer (some ⟨B,0,none⟩),.pointer (some ⟨d.D,0,none⟩),.int .i64 v] w fun e w'=>e= .returned (.bool true)/\∃L',LS W w' lo B L' d/\dJ w w' B L L' d d/\(∀n,JB L L' n)/\L'.turned=L.turned/\L'.rows=L.rows:=by
 by_cases hv:0<=v/\v<d.zs.length
 ·obtain⟨v,rfl⟩:∃v':Nat,v=(v':Int):=⟨v.toNat,by omega⟩
  refine(MW W lo B L d v w h hbz (by omega) hr.n hr.four).mono ?_
  rintro e w' ⟨rfl,L',h1,h2,h3,h4,h5⟩
  exact⟨rfl,L',h1,h2,fun n=>⟨by omega,by rw[h4];omega,by rw[h5];omega⟩,h4,h5⟩
 ·refine(Ju W lo B L d v w h hbz hv).mono ?_
  rintro e w' ⟨rfl,rfl⟩
  exact⟨rfl,L,h,dJ.nw (Fr.refl _ _) B L d,fun n=>⟨by omega,by omega,by omega⟩,rfl,rfl⟩
set_option maxRecDepth 1000000 in
theorem QY (X:Nat) (zs:List Int) (s:WS) (most:Int) (w:World) (hA:iM w X zs s) (hbz:s.l.busy=false) (hm:most<0):
  Calls Tryz.prog 55 #[.pointer (some ⟨X,0,none⟩),.int .i64 most] w fun e w'=>e= .returned (.tuple #[.int .i64 0,.int .i64 1])/\Nw w w':=by
 have hd8:s.d.length=8:=hA.good.dm.len;have hcb:w.cell? ⟨X,12,none⟩=some (.bool false):=(hA.mem.blk.cell 12).trans ((bu _ _ _ _ hd8).trans (by rw[hbz]))
 have uT:=hA.mem.blk.lt;obtain⟨V,hV⟩:∃V,V=w.alloc (.cells #[.int .i64 most] 3):=⟨_,rfl⟩;have fA:Nw w V:=by rw[hV];exact(Fr.refl _ w).alloc _
 have hb:af V w.heap.size #[.int .i64 most] 3:=by rw[hV];exact af.new _ _ _
 have c0:V.cell? ⟨w.heap.size,0,none⟩=some (.int .i64 most):=hb.cell 0
 have c1:V.cell? ⟨X,12,none⟩=some (.bool false):=(fA.cell uT (fun x=>x)).trans hcb
 have hbl:=hb.lt;have lK:=hd fA;clear hA hcb hb fA;go_enter Tryz.func55,Tryz.ntmps55
 go_upto_region 1 with fail
 rw[<-hV];clear hV;go_wp2_with fail
 go_ret2
 exact⟨rfl,lK.out⟩
set_option maxRecDepth 1000000 in
theorem Nc (X:Nat) (zs:List Int) (s:WS) (most:Int) (w:World) (hA:iM w X zs s) (hbz:s.l.busy=true):
  Calls Tryz.prog 55 #[.pointer (some ⟨X,0,none⟩),.int .i64 most] w fun e w'=>e= .returned (.tuple #[.int .i64 0,.int .i64 5])/\Nw w w':=by
 have hd8:s.d.length=8:=hA.good.dm.len;have hcb:w.cell? ⟨X,12,none⟩=some (.bool true):=(hA.mem.blk.cell 12).trans ((bu _ _ _ _ hd8).trans (by rw[hbz]))
 have uT:=hA.mem.blk.lt;obtain⟨V,hV⟩:∃V,V=w.alloc (.cells #[.int .i64 most] 3):=⟨_,rfl⟩;have fA:Nw w V:=by rw[hV];exact(Fr.refl _ w).alloc _
 have c1:V.cell? ⟨X,12,none⟩=some (.bool true):=(fA.cell uT (fun x=>x)).trans hcb
 have lK:=hd fA;clear hA hcb fA;go_enter Tryz.func55,Tryz.ntmps55
 go_upto_region 1 with fail
 rw[<-hV];clear hV;go_wp2_with fail
 go_ret2
 exact⟨rfl,lK.out⟩
theorem QZ {bs:List Tb} {n:Nat} (h:NQ n bs):l7 bs []=true:=by
 unfold l7;rw[List.all_eq_true];intro b hb;obtain⟨i,hi,rfl⟩:=List.getElem_of_mem hb;have hok:=h i hi;rw[show bs.getD i tb0=bs[i] from aN _ _ _ hi] at hok
 have hne:lastOf bs[i].vars≠-1:=by
  obtain⟨q,hq,he⟩:=tH bs[i].vars bs[i].vars.length hok.1.pos;have:=(hok.1.vars.ok q hq).1
  unfold lastOf;omega
 rw[Bool.or_eq_true];left
 rw[decide_eq_true_eq];exact hne
theorem Pair.xE {bz:Bool} {W w:World} {lo X Y:Nat} {zs:List Int} {s:WS} {R:RS} (h:Pair bz W w lo X Y zs s R):qR s.d (R.ts.map jO.tb) zs.length []=je s.d s.bs zs.length []:=by
 unfold qR;rw[<-h.tabs,QZ h.at_.mem.yI,if_pos rfl]
theorem Pair.doms {bz:Bool} {W w:World} {lo X Y:Nat} {zs:List Int} {s:WS} {R:RS} (h:Pair bz W w lo X Y zs s R):∀q,q<zs.length->vals (s.d.getD q 0)=qH R.now.bss R.now.dead q:=fun q hq=>by
 have:=kM.vals h.now h.ref.dU.LM h.ref.dU.b6 h.ref.dU.len q
 rw[if_pos hq] at this;exact this
set_option maxRecDepth 1000000 in
theorem Nh (W:World) (lo B:Nat) (L:LW) (d:Sd) (most:Int) (w:World) (h:LS W w lo B L d) (hbz:d.bz=false) (hm:most<0):
  Calls Tryz.prog 37 #[.pointer (some ⟨d.D,0,none⟩),.int .i64 most] w fun e w'=>e= .returned (.bool true)/\∃d',LS W w' lo B L d'/\dJ w w' B L L d d':=by
 have hp:=h.side.pair;have aK:=hd (QY d.X d.zs d.s most w hp.at_ (by rw[hp.busy];exact hbz) hm)
 have fH:=hd (show ∀w',Nw w w'->w'.cell? ⟨d.D,2,none⟩=some (.bool false)/\d.D<w'.heap.size from fun w' f=>⟨((h.side.blk.nw f).cell 2).trans (by rw[<-hbz];rfl),(h.side.blk.nw f).lt⟩)
 have c0:w.cell? ⟨d.D,0,none⟩=some (.pointer (some ⟨d.X,0,none⟩)):=h.side.blk.cell 0
 have hDl:=h.side.blk.lt;have H:=hd h;clear h hp hbz;go_enter Tryz.func37,Tryz.ntmps37
 go_wp2_with (go_at_call 55;refine aK.out.mono ?_;rintro e w1 ⟨rfl,hf1⟩;obtain⟨c2,QK⟩:=fH.out w1 hf1;have Hf1:=hd hf1;clear hf1)
 go_ret
 exact⟨rfl,d,H.out.nw Hf1.out,dJ.nw Hf1.out B L d⟩
set_option maxRecDepth 1000000 in
theorem EG (W:World) (lo B:Nat) (L:LW) (d:Sd) (most:Nat) (w:World) (h:LS W w lo B L d) (hbz:d.bz=false) (hm:(most:Int)<9223372036854775808):
  Calls Tryz.prog 37 #[.pointer (some ⟨d.D,0,none⟩),.int .i64 (most:Int)] w fun e w'=>e= .returned (.bool true)/\∃d',LS W w' lo B L d'/\dJ w w' B L L d d':=by
 have hp:=h.side.pair;rw[hbz] at hp;have aK:=hd (QA d.X d.zs d.s most w hp.at_ hp.busy hm hp.at_.pos);obtain⟨N,hN⟩:∃N,min most (je d.s.d d.s.bs d.zs.length []).length=N:=⟨_,rfl⟩;rw[hN] at aK;have HN:=hd hN;have hNb:N<=most:=by omega
 have Hp:=hd hp;have H:=hd h;have F6:=hd hbz;have c0:w.cell? ⟨d.D,0,none⟩=some (.pointer (some ⟨d.X,0,none⟩)):=h.side.blk.cell 0
 have hDl:=h.side.blk.lt;have hge:¬((most:Int)<0):=by omega
 have agb:=hd (show ∀w1,iM w1 d.X d.zs d.s->Fr (d.s.own d.X) w w1->LS W w1 lo B L d from fun w1 ha hf=>by
  have hs:gq w w1 d.X d.s d.s:=⟨hf,fun _ h=>.inl h⟩
  obtain⟨q1,q2,q3⟩:=hp.join h.env.base h.env.nw h.env.le ha hs (Fr.refl _ _) (hp.mid hs (Fr.refl _ _)) (Fr.refl _ _) rfl (fun q hq=>.inl hq) hp.busy hp.now hp.tabs hp.ku
  rw[<-hbz] at q1;exact(h.pair q1 q2 q3).1)
 have D9:=hd (show ∀w1,Fr (d.s.own d.X) w w1->dJ w w1 B L L d d from fun w1 hf=>⟨hf.mono (fun q hq=>.inl (.inr (.inr (.inl hq)))),fun _ h=>.inl h,fun _ h=>.inl h,rfl,rfl,rfl,rfl,rfl,rfl⟩)
 have Hso:=hd (show ∀w1,LS W w1 lo B L d->Calls Tryz.prog 51 #[.pointer (some ⟨d.Y,0,none⟩),.slice none 0 0,.int .i64 (most:Int)] w1 (fun e w'=>∃v vs,e= .returned v/\fK w1 w' v vs ((je d.s.d d.s.bs d.zs.length []).take most)) from fun w1 hL1=>by
  have:=BU W lo d.Y d.zs d.R d.s.d hp.doms d.zs.length [] (.slice none 0 0) most w1 (by simp) hL1.env.nw hL1.side.pair.ref (.inl ⟨rfl,rfl⟩) hm
  rw[hp.xE] at this;exact this)
 clear h hp hbz hN hm hNb;go_enter Tryz.func37,Tryz.ntmps37
 go_wp2_with (first
  | (go_at_call 55;refine aK.out.mono ?_;rintro e w1 ⟨rfl,hA1,hf1⟩;have hL1:=agb.out w1 hA1 hf1;have c2:w1.cell? ⟨d.D,2,none⟩=some (.bool false):=(hL1.side.blk.cell 2).trans (by rw[<-F6.out];rfl);have c1:w1.cell? ⟨d.D,1,none⟩=some (.pointer (some ⟨d.Y,0,none⟩)):=hL1.side.blk.cell 1;have QK:=hL1.side.blk.lt;have HL1:=hd hL1;have Hf1:=hd hf1;have aas:=hd (Hso.out w1 hL1);clear hA1 hf1 hL1)
  | (go_at_call 51;refine aas.out.mono ?_;rintro e w2 ⟨v,vs,rfl,hS⟩;obtain⟨so,sc,hsf,_⟩:=hS.mine.row.form;have hvl:vs.length=N:=(by rw[hS.len,List.length_take];exact HN.out);rw[hvl] at hsf;subst hsf;have yG:=hd hS.mine.nw;clear hS hvl))
 go_ret
 exact⟨rfl,d,HL1.out.nw yG.out,(D9.out w1 Hf1.out).trans (dJ.nw yG.out B L d)⟩
theorem yP (W:World) (lo B:Nat) (L:LW) (d:Sd) (o:kU) (w:World) (h:LS W w lo B L d) (hbz:d.bz=false) (ho:Gf W o) (hr:zF L):
  Calls Tryz.prog 35 #[.pointer (some ⟨B,0,none⟩),.pointer (some ⟨d.D,0,none⟩),.agg o.cells] w (fP W w lo B L d o.rows.length):=by
 by_cases hk:1<=o.kind/\o.kind<=8
 ·refine(JC B d.D o w (fun V w1=>∃L' d',LS W w1 lo B L' d'/\dJ V w1 B L L' d d'/\JB L L' o.rows.length) hk.1 hk.2 (fun V hf=>?_) (fun V w1 rb cur hf ⟨L',d',h1,h2,h3⟩ hrb hb=>(fP.box h hf hrb hb h1 h2 h3).1)).mono ?_
  ·have hV:=h.nw hf;have hc:∀d',LS W V lo B L d'->JB L L o.rows.length:=fun _ _=>⟨by omega,by omega,by omega⟩
   have hch:∀{e:Ending} {w1:World},(e= .returned (.bool true)/\∃d',LS W w1 lo B L d'/\dJ V w1 B L L d d')->e= .returned (.bool true)/\∃L' d',LS W w1 lo B L' d'/\dJ V w1 B L L' d d'/\JB L L' o.rows.length:=fun ⟨h1,d',h2,h3⟩=>⟨h1,L,d',h2,h3,hc d hV⟩
   by_cases k1:o.kind=1
   ·rw[vI,if_pos k1];refine(QX W lo B L d o.vo o.ro o.ak o.au o.vars o.rows o.nt o.way V hV hbz ho.vs ho.rs ho.vl ho.rl ho.rr hr.t hr.r).mono ?_
    rintro e w1 ⟨rfl,L',d',h1,h2,h3,h4,h5⟩
    exact⟨rfl,L',d',h1,h2,by rw[h3];omega,by omega,by omega⟩
   rw[vI,if_neg k1];by_cases k4:o.kind=4
   ·rw[if_pos k4];refine(zG W lo B L d o.a V hV hbz hr).mono ?_
    rintro e w1 ⟨rfl,L',h1,h2,h3,_⟩
    exact⟨rfl,L',d,h1,h2,h3 _⟩
   rw[if_neg k4];by_cases k8:o.kind=8
   ·rw[if_pos k8];by_cases ha:o.a<0
    ·exact(Nh W lo B L d o.a V hV hbz ha).mono (fun e w1=>hch)
    ·obtain⟨a,ha⟩:∃a:Nat,o.a=(a:Int):=⟨o.a.toNat,by omega⟩
     have:=ho.al
     rw[ha] at this ⊢;exact(EG W lo B L d a V hV hbz this).mono (fun e w1=>hch)
   rw[if_neg k8];have hc5:o.kind=2\/o.kind=3\/o.kind=5\/o.kind=6\/o.kind=7:=by omega
   rcases hc5 with k | k | k | k | k
   ·exact(Jr W lo B L d o V hV hbz k).mono (fun e w1=>hch)
   ·exact(Cf W lo B L d o V hV hbz k).mono (fun e w1=>hch)
   ·exact(xC W lo B L d o.cells V hV hbz (by rw[<-k];rfl)).mono (fun e w1 ⟨h1,h2⟩=>⟨h1,L,d,hV.nw h2,dJ.nw h2 B L d,hc d hV⟩)
   ·exact(F7 W lo B L d o V hV hbz k).mono (fun e w1=>hch)
   ·exact(Jt W lo B L d o V hV hbz k).mono (fun e w1=>hch)
  ·rintro e w' ⟨rfl,V,b0,rb,w1,hP,⟨L',d',h1,h2,h3⟩,hb,rfl⟩
   exact(fP.box h hP.nw hP.lo hP.k1 h1 h2 h3).2
 ·refine(JD B d.D o w ?_).mono ?_
  ·by_cases k9:o.kind=9
   ·exact .inr (.inr ⟨k9,(h.side.blk.cell 2).trans (by rw[<-hbz];rfl),h.side.blk.lt⟩)
   ·omega
  ·rintro e w' ⟨rfl,V,b0,rb,w1,hP,rfl,hb,rfl⟩
   exact(fP.box h hP.nw hP.lo hP.k1 (h.nw hP.nw) (dJ.nw (Fr.refl _ _) B L d) ⟨by omega,by omega,by omega⟩).2
def Clo (v:Value) (X:Nat):Prop:=v= .func (.func 77) #[.pointer (some ⟨X,0,none⟩)] #[]
structure LJ (W w:World) (lo B:Nat) (L:LW) (ds:List Sd):Prop where
 env:Env W w lo
 law:gZ w lo B L
 ss:L.ss=ds.map (fun d=>Value.pointer (some ⟨d.D,0,none⟩))
 sides:∀d∈ds,eX W w lo d
 apart:∀d∈ds,∀k,L.own B k->¬d.own k
 xH:∀i j (hi:i<ds.length) (hj:j<ds.length),i≠j->∀k,ds[i].own k->¬ds[j].own k
 EH:∀d∈ds,d.lt= .nilFunc\/Clo d.lt d.X
structure LI (W w:World) (lo B:Nat) (L:LW) (ds:List Sd):Prop extends LJ W w lo B L ds where
 free:∀d∈ds,d.bz=false
theorem LJ.one {W w:World} {lo B:Nat} {L:LW} {ds:List Sd} (h:LJ W w lo B L ds) (i:Nat) (hi:i<ds.length):LS W w lo B L ds[i]:=⟨h.env,h.law,h.sides _ (List.getElem_mem hi),h.apart _ (List.getElem_mem hi)⟩
theorem LJ.nw {W w w':World} {lo B:Nat} {L:LW} {ds:List Sd} (h:LJ W w lo B L ds) (f:Nw w w'):LJ W w' lo B L ds:=⟨h.env.step f,h.law.nw f,h.ss,fun d hd=>(h.sides d hd).nw f,h.apart,h.xH,h.EH⟩
theorem LI.one {W w:World} {lo B:Nat} {L:LW} {ds:List Sd} (h:LI W w lo B L ds) (i:Nat) (hi:i<ds.length):LS W w lo B L ds[i]:=h.toLJ.one i hi
theorem LI.nw {W w w':World} {lo B:Nat} {L:LW} {ds:List Sd} (h:LI W w lo B L ds) (f:Nw w w'):LI W w' lo B L ds:=⟨h.toLJ.nw f,h.free⟩
theorem mem_set {ds:List Sd} {i:Nat} {d':Sd}:∀e∈ds.set i d',e=d'\/∃j,∃hj:j<ds.length,j≠i/\e=ds[j]:=fun e he=>by
 obtain⟨j,hj,rfl⟩:=List.getElem_of_mem he;rw[List.length_set] at hj;by_cases e1:i=j
 ·subst e1;exact .inl (by rw[List.getElem_set_self])
 ·exact .inr ⟨j,hj,fun e=>e1 e.symm,by rw[List.getElem_set_ne e1]⟩
theorem LJ.put {W w w':World} {lo B:Nat} {L L':LW} {ds:List Sd} {d':Sd} {S:Nat->Prop} (h:LJ W w lo B L ds) (i:Nat) (hi:i<ds.length) (h1:LS W w' lo B L' d') (fr:Fr S w w') (hS:∀k,S k->L.own B k\/ds[i].own k) (nS:∀k,L'.own B k->L.own B k\/w.heap.size<=k) (xB:∀k,d'.own k->ds[i].own k\/w.heap.size<=k) (ss:L'.ss=L.ss) (dd:d'.D=ds[i].D) (lt:d'.lt= .nilFunc\/Clo d'.lt d'.X):LJ W w' lo B L' (ds.set i d'):=by
 have hLS:=h.one i hi;have hold:∀j (hj:j<ds.length),j≠i->eX W w' lo ds[j]:=fun j hj hne=>(h.sides _ (List.getElem_mem hj)).fr (fr.mono (fun k hk=>.inl (hS k hk))) (fun k hk hS=>by
  rcases hS with hS | hS
  ·exact h.apart _ (List.getElem_mem hj) k hS hk
  ·exact h.xH j i hj hi hne k hk hS) hLS.only (by decide)
 have hgD:∀j (hj:j<ds.length),j≠i->∀k,d'.own k->¬ds[j].own k:=fun j hj hne k hk hk2=>by
  rcases xB k hk with h2 | h2
  ·exact h.xH i j hi hj (fun e=>hne e.symm) k h2 hk2
  ·have:=(h.sides _ (List.getElem_mem hj)).lt hk2
   omega
 refine⟨h1.env,h1.law,?_,fun e he=>?_,fun e he k hk=>?_,fun a b ha hb hab k=>?_,fun e he=>?_⟩
 ·rw[ss,h.ss,List.map_set,dd];refine List.ext_getElem? fun j=>?_
  by_cases e:i=j
  ·subst e;rw[List.getElem?_set_self (by simpa using hi)]
   simp[hi]
  ·rw[List.getElem?_set_ne e]
 ·rcases mem_set e he with rfl | ⟨j,hj,hne,rfl⟩
  ·exact h1.side
  ·exact hold j hj hne
 ·rcases mem_set e he with rfl | ⟨j,hj,hne,rfl⟩
  ·exact h1.apart k hk
  ·intro hk2;rcases nS k hk with h2 | h2
   ·exact h.apart _ (List.getElem_mem hj) k h2 hk2
   ·have:=(h.sides _ (List.getElem_mem hj)).lt hk2
    omega
 ·rw[List.length_set] at ha hb;by_cases e1:i=a
  ·subst e1;rw[List.getElem_set_self,List.getElem_set_ne hab];exact hgD b hb (fun e=>hab e.symm) k
  ·rw[List.getElem_set_ne e1];by_cases e2:i=b
   ·subst e2;rw[List.getElem_set_self];exact fun h2 h3=>hgD a ha hab k h3 h2
   ·rw[List.getElem_set_ne e2];exact h.xH a b ha hb hab k
 ·rcases mem_set e he with rfl | ⟨j,hj,hne,rfl⟩
  ·exact lt
  ·exact h.EH _ (List.getElem_mem hj)
theorem dJ.EH {w w':World} {B:Nat} {L L':LW} {d d':Sd} (h:dJ w w' B L L' d d'):d'.sq=d.sq/\d'.lt=d.lt/\d'.X=d.X:=by
 have:=h.sq
 simp only[Prod.mk.injEq] at this;exact this
theorem LJ.step {W w w':World} {lo B:Nat} {L L':LW} {ds:List Sd} {d':Sd} (h:LJ W w lo B L ds) (i:Nat) (hi:i<ds.length) (h1:LS W w' lo B L' d') (hs:dJ w w' B L L' ds[i] d'):LJ W w' lo B L' (ds.set i d'):=
 h.put i hi h1 hs.fr (fun _ h=>h) hs.nS hs.xB hs.ss hs.dd (by rw[hs.EH.2.1,hs.EH.2.2];exact h.EH _ (List.getElem_mem hi))
theorem LI.step {W w w':World} {lo B:Nat} {L L':LW} {ds:List Sd} {d':Sd} (h:LI W w lo B L ds) (i:Nat) (hi:i<ds.length) (h1:LS W w' lo B L' d') (hs:dJ w w' B L L' ds[i] d'):LI W w' lo B L' (ds.set i d'):=⟨h.toLJ.step i hi h1 hs,fun e he=>by
 rcases mem_set e he with rfl | ⟨j,hj,hne,rfl⟩
 ·rw[hs.bz];exact h.free _ (List.getElem_mem hi)
 ·exact h.free _ (List.getElem_mem hj)⟩
noncomputable def adG:Array Oper:=gU Tryz.f18 2
set_option maxRecDepth 1000000 in
theorem yQ (lo B:Nat) (L:LW) (o:kU) (w:World) (h:gZ w lo B L) (hn:0<L.ss.length) (hn8:L.ss.length<=1000):
  Calls Tryz.prog 18 #[.pointer (some ⟨B,0,none⟩),.agg o.cells] w fun e w'=>e= .returned (L.ss.getD (if o.which then L.ss.length-1 else 0) undef)/\Nw w w':=by
 obtain⟨b0,hb0⟩:∃b0,b0=w.heap.size:=⟨_,rfl⟩;obtain⟨V,hV⟩:∃V,V=w.alloc (.cells o.cells 54):=⟨_,rfl⟩;have fA:Nw w V:=by rw[hV];exact(Fr.refl _ w).alloc _
 have hC:af V b0 o.cells 54:=by rw[hV,hb0];exact af.new _ _ _
 have c7:V.cell? ⟨b0,7,none⟩=some (.bool o.which):=hC.cell 7
 have hbl:=hC.lt;have uk:=h.nw fA;obtain⟨so,sc,hsf,_⟩:=uk.sides.form;have d0:V.cell? ⟨B,0,none⟩=some (.slice so L.ss.length sc):=by
  have:=uk.blk.cell 0
  rw[hsf] at this;exact this
 have hBl:=uk.blk.lt;have Hs:=hd uk.sides;have Hsf:=hd hsf;have hget:∀i,i<L.ss.length->∃g,so=some ⟨g,0,none⟩/\g<V.heap.size/\V.cell? ⟨g,i,none⟩=some (L.ss.getD i undef):=fun i hi=>by
  obtain⟨g,c,he,hb,hc,_⟩:=uk.sides.cell i hi;rw[hsf] at he;simp only[Value.slice.injEq] at he;exact⟨g,he.1,uk.sides.lt hb,by rw[hc,aN _ _ _ hi]⟩
 have lK:=hd fA;obtain⟨wh,hwh⟩:∃wh,o.which=wh:=⟨_,rfl⟩;rw[hwh] at c7 ⊢;obtain⟨n,hnn⟩:∃n,L.ss.length=n:=⟨_,rfl⟩;rw[hnn] at d0 hget hn hn8 ⊢;clear uk hC fA hsf hwh hnn;cases wh with
 | false=>
  obtain⟨g,rfl,hgl,hgc⟩:=hget 0 hn;obtain⟨r,hr⟩:∃r,L.ss.getD 0 undef=r:=⟨_,rfl⟩;rw[if_neg (by simp),hr]
  rw[hr] at hgc;have hn0:(0:Int)<(n:Int):=by omega
  clear hget hr;go_enter Tryz.func18,Tryz.ntmps18
  go_upto_region 1 with fail
  rw[<-hV,<-hb0];clear hV hb0;go_wp2_with fail
  go_ret
  exact⟨rfl,lK.out⟩
 | true=>
  obtain⟨g,rfl,hgl,hgc⟩:=hget (n-1) (by omega)
  obtain⟨r,hr⟩:∃r,L.ss.getD (n-1) undef=r:=⟨_,rfl⟩;rw[if_pos rfl,hr];rw[hr] at hgc;clear hget hr;obtain⟨m,rfl⟩:∃m,n=m+1:=⟨n-1,by omega⟩
  rw[Nat.add_sub_cancel] at hgc;have agc:V.cell? ⟨g,0+m,none⟩=some r:=by rw[Nat.zero_add];exact hgc
  go_enter Tryz.func18,Tryz.ntmps18
  go_upto_region 1 with fail
  rw[<-hV,<-hb0];clear hV hb0;go_wp2_with fail
  have hK0:Nw V V.drew:=(Fr.refl _ V).drew;refine eF adG 13 (fun w''=>Nw V w'') (by kernel_rfl) (by kernel_rfl) (by kernel_rfl) ?_
  refine take_at (i:=0) (d:=some 7) (v:=.pointer (some ⟨B,0,none⟩)) (by kernel_rfl) (by kernel_rfl) (fun _ _ _ h=>h) (fun w'' hS=>by kernel_rfl) hK0 ?_
  refine take_at (i:=1) (d:=some 8) (v:=.pointer (some ⟨B,0,none⟩)) (by kernel_rfl) (by kernel_rfl) (fun _ _ _ h=>h) (fun w'' hS=>by kernel_rfl) hK0 ?_
  refine take_at (i:=2) (d:=some 9) (v:=.pointer (some ⟨B,0,none⟩)) (by kernel_rfl) (by kernel_rfl) (fun _ _ _ h=>h) (fun w'' hS=>by kernel_rfl) hK0 ?_
  refine take_at (i:=3) (d:=some 10) (v:=.slice (some ⟨g,0,none⟩) (m+1) sc) (by kernel_rfl) (by kernel_rfl) (fun _ _ _ h=>h) (fun w'' hS=>aj 25 (.tmp 9) (by kernel_rfl) (by kernel_rfl) (by kernel_rfl) ((hS.cell hBl (fun x=>x)).trans d0)) hK0 ?_
  refine take_at (i:=4) (d:=some 11) (v:=.pointer (some ⟨B,0,none⟩)) (by kernel_rfl) (by kernel_rfl) (fun _ _ _ h=>h) (fun w'' hS=>by kernel_rfl) hK0 ?_
  refine take_at (i:=5) (d:=some 12) (v:=.pointer (some ⟨B,0,none⟩)) (by kernel_rfl) (by kernel_rfl) (fun _ _ _ h=>h) (fun w'' hS=>by kernel_rfl) hK0 ?_
  refine take_at (i:=6) (d:=some 13) (v:=.pointer (some ⟨B,0,none⟩)) (by kernel_rfl) (by kernel_rfl) (fun _ _ _ h=>h) (fun w'' hS=>by kernel_rfl) hK0 ?_
  refine take_at (i:=7) (d:=some 14) (v:=.slice (some ⟨g,0,none⟩) (m+1) sc) (by kernel_rfl) (by kernel_rfl) (fun _ _ _ h=>h) (fun w'' hS=>aj 25 (.tmp 13) (by kernel_rfl) (by kernel_rfl) (by kernel_rfl) ((hS.cell hBl (fun x=>x)).trans d0)) hK0 ?_
  refine take_at (i:=8) (d:=some 15) (v:=.int .i64 ((m+1:Nat):Int)) (by kernel_rfl) (by kernel_rfl) (fun _ _ _ h=>h) (fun w'' hS=>by kernel_rfl) hK0 ?_
  refine take_at (i:=9) (d:=some 16) (v:=.int .i64 (m:Int)) (by kernel_rfl) (by kernel_rfl) (fun _ _ _ h=>h) (fun w'' hS=>TA ((m+1:Nat):Int) 1 (m:Int) (.tmp 15) (.const (.int .i64 1)) (by kernel_rfl) (by kernel_rfl) (by kernel_rfl) (by omega) (by omega)) hK0 ?_
  refine take_at (i:=10) (d:=some 17) (v:=.pointer (some ⟨g,0+m,none⟩)) (by kernel_rfl) (by kernel_rfl) (fun _ _ _ h=>h) (fun w'' hS=>jb (i:=m) (n:=m+1) (cap:=sc) 25 49 (.tmp 10) (.tmp 16) (by kernel_rfl) (by kernel_rfl) (by kernel_rfl) (by omega) (by kernel_rfl) (by kernel_rfl)) hK0 ?_
  refine take_at (i:=11) (d:=some 18) (v:=r) (by kernel_rfl) (by kernel_rfl) (fun _ _ _ h=>h) (fun w'' hS=>aj 49 (.tmp 17) (by kernel_rfl) (by kernel_rfl) (by kernel_rfl) ((hS.cell hgl (fun x=>x)).trans agc)) hK0 ?_
  refine dG (i:=12) (d:=some 4) (v:=r) (w':=V.drew) (by kernel_rfl) (by kernel_rfl) (by kernel_rfl) hK0 ?_
  refine wpAnyH_done (by kernel_rfl) ?_ _
  simp only[Act.put,bQ,bW,bU];clear hK0;go_wp2_with fail
  go_ret
  exact⟨rfl,lK.out.drew⟩
set_option maxRecDepth 1000000 in
theorem Vy (W:World) (lo B:Nat) (L:LW) (d:Sd) (o:kU) (w:World) (h:LS W w lo B L d) (hbz:d.bz=false) (hk:o.kind≠9) (ho:Gf W o) (hr:zF L):
  Calls Tryz.prog 17 #[.pointer (some ⟨B,0,none⟩),.pointer (some ⟨d.D,0,none⟩),.agg o.cells] w (fP W w lo B L d o.rows.length):=by
 obtain⟨b0,hb0⟩:∃b0,b0=w.heap.size:=⟨_,rfl⟩;obtain⟨V,hV⟩:∃V,V=w.alloc (.cells o.cells 54):=⟨_,rfl⟩;have fA:Nw w V:=by rw[hV];exact(Fr.refl _ w).alloc _
 have hC:af V b0 o.cells 54:=by rw[hV,hb0];exact af.new _ _ _
 obtain⟨kk,hkk⟩:∃kk,o.kind=kk:=⟨_,rfl⟩;have c0:V.cell? ⟨b0,0,none⟩=some (.int .i64 kk):=(hC.cell 0).trans (by rw[<-hkk];rfl)
 have c1:V.cell? ⟨b0,1,none⟩=some (.int .i64 o.a):=hC.cell 1
 have c2:V.cell? ⟨b0,2,none⟩=some (.int .i64 o.b):=hC.cell 2
 have c3:V.cell? ⟨b0,3,none⟩=some (.slice o.vo o.vars.length o.ak):=hC.cell 3
 have c4:V.cell? ⟨b0,4,none⟩=some (.slice o.ro o.rows.length o.au):=hC.cell 4
 have c5:V.cell? ⟨b0,5,none⟩=some (.bool o.nt):=hC.cell 5
 have c6:V.cell? ⟨b0,6,none⟩=some (.int .i64 o.way):=hC.cell 6
 have c7:V.cell? ⟨b0,7,none⟩=some (.bool o.which):=hC.cell 7
 have c8:V.cell? ⟨b0,8,none⟩=some o.fv:=hC.cell 8
 have c9:V.cell? ⟨b0,9,none⟩=some o.mv:=hC.cell 9
 have hbl:=hC.lt;have n9:(kk==9)=false:=by rw[beq_eq_false_iff_ne,<-hkk];exact hk
 have aK:=hd (yP W lo B L d o V (h.nw fA) hbz ho hr);have hoc:o.cells=#[.int .i64 kk,.int .i64 o.a,.int .i64 o.b,.slice o.vo o.vars.length o.ak,.slice o.ro o.rows.length o.au,.bool o.nt,.int .i64 o.way,.bool o.which,o.fv,o.mv]:=by rw[<-hkk];rfl
 have fQ:=hd (show ∀e w',fP W V lo B L d o.rows.length e w'->fP W w lo B L d o.rows.length e w' from fun e w' ⟨h1,L',d',h2,h3,h4⟩=>⟨h1,L',d',h2,(dJ.nw fA B L d).trans h3,h4⟩)
 have hret:∀e w',fP W V lo B L d o.rows.length e w'->e= .returned (.bool true):=fun e w' h=>h.1
 obtain⟨PP,Nb⟩:∃PP,PP=fP W w lo B L d o.rows.length:=⟨_,rfl⟩;obtain⟨PV,hPV⟩:∃PV,PV=fP W V lo B L d o.rows.length:=⟨_,rfl⟩;rw[<-Nb,<-hPV] at fQ;rw[<-hPV] at aK hret;rw[<-Nb];rw[hoc] at aK;have aaX:=hd hret;clear h hC fA hkk hoc Nb hPV hret;go_enter Tryz.func17,Tryz.ntmps17
 go_upto_region 1 with fail
 rw[<-hV,<-hb0];clear hV hb0;go_wp2_with (go_at_call 35;refine aK.out.mono ?_;intro e w1 hw1;have Hw1:=hd hw1;obtain rfl:=aaX.out e w1 hw1;clear hw1)
 exact fQ.out _ _ Hw1.out
set_option maxRecDepth 1000000 in
theorem Q3 (W:World) (lo B:Nat) (L:LW) (d:Sd) (most:Int) (w:World) (h:LS W w lo B L d) (hbz:d.bz=false) (hn:L.nums.length+40<=68719476736) (h4:L.nums.length % 4=0) (ht:L.turned.length<=8388608) (hr:L.rows.length<=8388608):
  Calls Tryz.prog 20 #[.pointer (some ⟨B,0,none⟩),.pointer (some ⟨d.D,0,none⟩),.int .i64 most] w fun e w'=>e= .returned (.bool true)/\∃L' d',LS W w' lo B L' d'/\dJ w w' B L L' d d'/\L'.nums.length<=L.nums.length+40/\L'.turned=L.turned/\L'.rows=L.rows:=by
 have hz:=aF h.side.pair.at_.mem.lJ;have fH:=hd (show ∀w' L',LS W w' lo B L' d->w'.cell? ⟨d.D,0,none⟩=some (.pointer (some ⟨d.X,0,none⟩))/\w'.cell? ⟨d.D,1,none⟩=some (.pointer (some ⟨d.Y,0,none⟩))/\∃xW zx,w'.cell? ⟨d.Y,0,none⟩=some (.slice xW d.zs.length zx) from fun w' L' hl=>by
  obtain⟨xW,zx,iU,_⟩:=hl.side.pair.ref.dU.sz.form;rw[List.length_map] at iU;refine⟨hl.side.blk.cell 0,hl.side.blk.cell 1,xW,zx,?_⟩
  have:=hl.side.pair.ref.dU.blk.cell 0
  rw[iU] at this;exact this)
 have H:=hd h;have NM:=hz.2;have F6:=hd hbz;clear h hz hbz;go_enter Tryz.func20,Tryz.ntmps20
 go_wp2_with fail
 go_loopw [7,8] (fun v _ wr=>∃(k:Nat) (L':LW),k<=d.zs.length+2/\v= .int .i64 ((k:Int)-1)/\Hid (LS W wr lo B L' d)/\Hid (dJ w wr B L L' d d)/\L'.nums.length<=L.nums.length+4*k/\Hid (L'.turned=L.turned)/\Hid (L'.rows=L.rows)) (fun v _ _=>(d.zs.length:Int).toNat+2-(intOf v+1).toNat)
 case atStart=>exact⟨0,L,by omega,rfl,H,hd (dJ.nw (Fr.refl _ _) B L d),by omega,rfl,rfl⟩
 case round=>
  obtain⟨k,L',hk,rfl,HL,HS,hnl,HT,HR⟩:=hrel;obtain⟨x0,x1,xW,zx,x2⟩:=fH.out wr L' HL.out;have hDl:=HL.out.side.blk.lt;have hYl:=HL.out.side.pair.ref.dU.blk.lt;by_cases hlt:k<d.zs.length+2
  ·have hdk:(k:Int)-1<=(d.zs.length:Int):=by omega
   have hroom:zF L':=⟨by omega,by rw[HT.out];exact ht,by rw[HR.out];exact hr,by rw[HS.out.four];exact h4⟩
   have aK:=hd (zG W lo B L' d ((k:Int)-1) wr HL.out F6.out hroom);clear hroom;go_wp2_with (go_at_call 36;refine aK.out.mono ?_;rintro e w1 ⟨rfl,L2,h1,h2,h3,h5,h6⟩;have H1:=hd h1;have H2:=hd h2;have H3:=hd (h3 0);have H5:=hd h5;have H6:=hd h6;clear h1 h2 h3 h5 h6)
   have h3:=H3.out.a;refine⟨⟨k+1,L2,by omega,by simp,H1,hd (HS.out.trans H2.out),by omega,hd (H5.out.trans HT.out),hd (H6.out.trans HR.out)⟩,by simp[intOf];omega⟩
  ·have hdk:¬((k:Int)-1<=(d.zs.length:Int)):=by omega
   have Hlk:=hd (fun wx (dx:Sd) (hx:LS W wx lo B L' dx) (hb:dx.bz=false)=>xC W lo B L' dx #[.int .i64 5,.int .i64 0,.int .i64 0,.slice none 0 0,.slice none 0 0,.bool false,.int .i64 0,.bool false,.slice none 0 0,.slice none 0 0] wx hx hb rfl)
   by_cases hm8:(8:Int)<=most
   ·have Hco:=hd (EG W lo B L' d 50 wr HL.out F6.out (by decide))
    go_wp2_with (go_at_call 37;refine Hco.out.mono ?_;rintro e w1 ⟨rfl,d1,h1,h2⟩;have Hl:=hd (Hlk.out w1 d1 h1 (h2.bz.trans F6.out));have H1:=hd h1;have H2:=hd h2;have Yn:=hd h2.dd;clear h1 h2)
    rw[Yn.out] at Hl;go_wp2_with (go_at_call 38;refine Hl.out.mono ?_;rintro e w2 ⟨rfl,hf2⟩;have yG:=hd hf2;clear hf2)
    go_ret
    exact⟨rfl,L',d1,H1.out.nw yG.out,(HS.out.trans H2.out).trans (dJ.nw yG.out B L' d1),by omega,HT.out,HR.out⟩
   ·have Hl:=hd (Hlk.out wr d HL.out F6.out);go_wp2_with (go_at_call 38;refine Hl.out.mono ?_;rintro e w1 ⟨rfl,hf1⟩;have Hf1:=hd hf1;clear hf1)
    go_ret
    exact⟨rfl,L',d,HL.out.nw Hf1.out,HS.out.trans (dJ.nw Hf1.out B L' d),by omega,HT.out,HR.out⟩
def WE:kU:=⟨0,0,0,none,0,none,0,[],[],false,0,false,.slice none 0 0,.slice none 0 0⟩
def Cm (W:World) (so:Option Addr) (ops:List kU):Prop:=∀i,i<ops.length->∃b o,so=some ⟨b,o,none⟩/\b<W.heap.size/\(∀c,c<10->W.cell? ⟨b,o+i*10+c,none⟩=(ops.getD i WE).cells[c]?)/\Gf W (ops.getD i WE)
def jS (o:kU):Nat:=1+o.rows.length
def aP:List kU->Nat
 | []=>0
 | o::r=>jS o+aP r
theorem nU:∀(a b:List kU),aP (a++b)=aP a+aP b
 | [],b=>by simp[aP]
 | o::a,b=>by
  have:=nU a b
  simp only[List.cons_append,aP,this];omega
theorem xI (ops:List kU) (k:Nat) (hk:k<ops.length):aP (ops.take (k+1))=aP (ops.take k)+(1+(ops.getD k WE).rows.length):=by
 rw[List.take_succ_eq_append_getElem hk,nU,aN _ _ _ hk];simp[aP,jS]
theorem vJ (ops:List kU) (k:Nat):aP (ops.take k)<=aP ops:=by
 have h:=nU (ops.take k) (ops.drop k);rw[List.take_append_drop] at h;omega
theorem sG:∀(ops:List kU),ops.length<=aP ops
 | []=>by simp
 | o::r=>by
  have:=sG r
  simp only[List.length_cons,aP,jS];omega
theorem ny {ev:Operand->Value} {o:Oper} {w:World} {b off n cap i:Nat} (t e:TypeId) (x y:Operand) (ho:o.op= .indexAddr t x y) (hx:ev x= .slice (some ⟨b,off,none⟩) n cap) (hy:ev y= .int .i64 (i:Int)) (hi:i<n)
  (ht:(underlying t).run Tryz.prog w= .ok (.slice e) w) (he:(sizeOf e).run Tryz.prog w= .ok 10 w):
  (execOp ev o).run Tryz.prog w= .ok (.value (.pointer (some ⟨b,off+i*10,none⟩))) w:=by
 unfold execOp;simp[ho,hx,hy,Instr.indexAt,asIntOf,ht,he,Result.andThen,go_sem,hi]
theorem kD {ev:Operand->Value} {o:Oper} {w:World} {b off:Nat} {v0 v1 v2 v3 v4 v5 v6 v7 v8 v9:Value} (t:TypeId) (x:Operand) (ho:o.op= .load t x) (hx:ev x= .pointer (some ⟨b,off,none⟩)) (hag:(isAgg t).run Tryz.prog w= .ok true w) (hsz:(sizeOf t).run Tryz.prog w= .ok 10 w)
  (hc:∀c,c<10->w.cell? ⟨b,off+c,none⟩=#[v0,v1,v2,v3,v4,v5,v6,v7,v8,v9][c]?):
  (execOp ev o).run Tryz.prog w= .ok (.value (.agg #[v0,v1,v2,v3,v4,v5,v6,v7,v8,v9])) w:=by
 have hl:∀(a:Addr) (v:Value),w.cell? a=some v->(Sem.load Mode.plain a Sem.pure).run Tryz.prog w= .ok v w:=fun a v hc=>by
  unfold Sem.run;rw[hc];rfl
 have c0:w.cell? ⟨b,off,none⟩=some v0:=hc 0 (by omega)
 have c1:w.cell? ⟨b,off+1,none⟩=some v1:=hc 1 (by omega)
 have c2:w.cell? ⟨b,off+2,none⟩=some v2:=hc 2 (by omega)
 have c3:w.cell? ⟨b,off+3,none⟩=some v3:=hc 3 (by omega)
 have c4:w.cell? ⟨b,off+4,none⟩=some v4:=hc 4 (by omega)
 have c5:w.cell? ⟨b,off+5,none⟩=some v5:=hc 5 (by omega)
 have c6:w.cell? ⟨b,off+6,none⟩=some v6:=hc 6 (by omega)
 have c7:w.cell? ⟨b,off+7,none⟩=some v7:=hc 7 (by omega)
 have c8:w.cell? ⟨b,off+8,none⟩=some v8:=hc 8 (by omega)
 have c9:w.cell? ⟨b,off+9,none⟩=some v9:=hc 9 (by omega)
 unfold execOp;simp[ho,hx,Instr.loadAt,Instr.sureAddr,loadVar,hag,hsz,Result.andThen,load,loadCells,loadCellsFrom,Addr.add,hl _ _ c0,hl _ _ c1,hl _ _ c2,hl _ _ c3,hl _ _ c4,hl _ _ c5,hl _ _ c6,hl _ _ c7,hl _ _ c8,hl _ _ c9]
def Sl (v:Value):Prop:=∃a n c,v= .slice a n c
structure vK (W:World) (o:kU) (F M:List kU):Prop where
 f:∃fo fc,o.fv= .slice fo F.length fc/\Cm W fo F
 m:∃mo mc,o.mv= .slice mo M.length mc/\Cm W mo M/\∀x∈M,Sl x.fv/\Sl x.mv
def jF (o:kU) (F M:List kU):Nat:=jS o+aP F+2*aP M
structure kX (W w:World) (lo B n:Nat) (L0 L:LW) (ds:List Sd) (ca cb:Nat):Prop where
 li:LI W w lo B L ds
 len:ds.length=n
 a:L.nums.length<=L0.nums.length+ca
 b:L.turned.length<=L0.turned.length+cb
 r:L.rows.length<=L0.rows.length+cb
 four:L.nums.length % 4=0
theorem kX.nw {W w w':World} {lo B n:Nat} {L0 L:LW} {ds:List Sd} {a b:Nat} (h:kX W w lo B n L0 L ds a b) (f:Nw w w'):kX W w' lo B n L0 L ds a b:=⟨h.li.nw f,h.len,h.a,h.b,h.r,h.four⟩
def Af:Prop:=∀(W:World) (lo B:Nat) (L:LW) (ds:List Sd) (i:Nat) (d:Sd) (o:kU) (F M:List kU) (w:World),LI W w lo B L ds->(hi:i<ds.length)->ds[i]=d->ds.length<=2->Gf W o->vK W o F M->L.nums.length % 4=0 ->
  L.nums.length+4800*jF o F M<=68719476736->L.turned.length+jF o F M<=8388608->L.rows.length+jF o F M<=8388608 ->
  Calls Tryz.prog 34 #[.pointer (some ⟨B,0,none⟩),.pointer (some ⟨d.D,0,none⟩),.agg o.cells] w fun e w'=>e= .returned (.bool true)/\∃L' ds',kX W w' lo B ds.length L L' ds' (4800*jF o F M) (jF o F M)
structure Ag where
 o:kU
 F:List kU
 M:List kU
def n0:Ag:=⟨WE,[],[]⟩
def Ag.cost (x:Ag):Nat:=jF x.o x.F x.M
def jf:List Ag->Nat
 | []=>0
 | o::r=>o.cost+jf r
theorem Ag.JE (x:Ag):1<=x.cost:=by unfold Ag.cost jF jS;omega
theorem qL:∀(a b:List Ag),jf (a++b)=jf a+jf b
 | [],b=>by simp[jf]
 | o::a,b=>by
  have:=qL a b
  simp only[List.cons_append,jf,this];omega
theorem Nj (ops:List Ag) (k:Nat) (hk:k<ops.length):jf (ops.take (k+1))=jf (ops.take k)+(ops.getD k n0).cost:=by
 rw[List.take_succ_eq_append_getElem hk,qL,aN _ _ _ hk];simp[jf]
theorem Vz (ops:List Ag) (k:Nat):jf (ops.take k)<=jf ops:=by
 have h:=qL (ops.take k) (ops.drop k);rw[List.take_append_drop] at h;omega
theorem EI:∀(ops:List Ag),ops.length<=jf ops
 | []=>by simp
 | o::r=>by
  have:=EI r
  have:=o.JE
  simp only[List.length_cons,jf];omega
end Go.Proofs.YtkjfpdfkcfgfkaaGreat
namespace Go.Proofs.YtkjfpdfkcfgfkaaGreat
open Go.ChangeShapes Go.WideShapes Go.ChangeAt Go.RowKit
theorem Tryz.agd:ownKnob Tryz.prog.godebug=none:=by kernel_rfl
theorem Tryz.Y7:laidOutB Tryz.prog=true:=by kernel_rfl
theorem Tryz.Y8:Tryz.prog.cellsOf 22=1:=by kernel_rfl
theorem Tryz.adH:Tryz.prog.cellsOf 26=1:=by kernel_rfl
theorem Tryz.adI:Tryz.prog.cellsOf 3=1:=by kernel_rfl
theorem Tryz.Y9:Tryz.prog.cellsOf 4=1:=by kernel_rfl
theorem Tryz.aa0:Tryz.prog.cellsOf 41=4:=by kernel_rfl
theorem Tryz.cOp:Tryz.prog.cellsOf 54=10:=by kernel_rfl
theorem Tryz.age:Tryz.prog.cellsOf 23=1:=by kernel_rfl
theorem CB {H:Type} (d:DataW H):1<=Rows.uptoBulk d:=by
 cases d with
 | lit l=>cases l <;> simp[Rows.uptoBulk]
 | nil=>simp[Rows.uptoBulk]
 | ptr d=>simp[Rows.uptoBulk]
 | slice elems spare=>simp[Rows.uptoBulk]
 | agg parts=>simp[Rows.uptoBulk]
 | iface t d=>simp[Rows.uptoBulk]
 | map entries=>simp[Rows.uptoBulk]
 | held h=>simp[Rows.uptoBulk]
theorem CE {H:Type}:∀{l:List (DataW H)} {d:DataW H},d∈l->Rows.uptoBulk d<=Rows.uptoBulkAll l
 | x::l,d,h=>by
  rw[Rows.uptoBulkAll];rcases List.mem_cons.1 h with rfl | h
  ·omega
  ·have:=CE h
   omega
theorem CG {H:Type}:∀(l:List (DataW H)),l.length<=Rows.uptoBulkAll l
 | []=>by simp
 | x::l=>by
  have h1:=CB x;have h2:=CG l;rw[Rows.uptoBulkAll,List.length_cons];omega
theorem zH {H:Type}:∀(a b:List (DataW H)),Rows.uptoBulkAll (a++b)=Rows.uptoBulkAll a+Rows.uptoBulkAll b
 | [],b=>by simp[Rows.uptoBulkAll]
 | x::a,b=>by
  have:=zH a b
  rw[List.cons_append,Rows.uptoBulkAll,Rows.uptoBulkAll,this];omega
theorem qM {H:Type} (a b:List (DataW H)):Rows.uptoBulk (.slice a b)=Rows.uptoBulkAll a+Rows.uptoBulkAll b+1:=by rw[Rows.uptoBulk]
theorem JF {H:Type} (a:List (DataW H)):Rows.uptoBulk (.agg a)=Rows.uptoBulkAll a+1:=by rw[Rows.uptoBulk]
theorem Gh {H:Type} {enc:TypeId×Value->H} {W:World} {fuel:Nat} {v:Value} {x:DataW H×List MemPlace} (h:DataW.trod enc Tryz.prog W 0 (fun _=>true) true fuel 22 [v]=some x):
  ∃(a:Option Addr) (cap:Nat) (zs:List Int),v= .slice a zs.length cap/\ax W a zs/\zs.length+1<=Rows.uptoBulk x.1:=by
 rcases open_ints Tryz.underlying22 Tryz.underlying3 (by kernel_rfl) h with ⟨hcs,hx⟩ | ⟨a,len,cap,zs,hcs,_,hl,hm,hz,hx,hcell,hwz⟩
 ·obtain rfl:v= .slice none 0 0:=by simpa using hcs
  exact⟨none,0,[],rfl,fun i hi=>absurd hi (Nat.not_lt_zero _),CB _⟩
 ·obtain rfl:v= .slice (some a) len cap:=by simpa using hcs
  simp only[if_true] at hz;have hzl:(zs.take len).length=len:=by simp;omega
  refine⟨some a,cap,zs.take len,by rw[hzl],fun i hi=>?_,?_⟩
  ·rw[hzl] at hi;have hc:=hcell i (by omega)
   obtain⟨b,o,rfl,_⟩:=ints_at hcell (by omega)
   rw[show (⟨b,o,none⟩:Addr).add i=⟨b,o+i,none⟩ from by simp[Addr.add]] at hc
   refine⟨b,o,rfl,World.block_lt_of_cell? W _ hc,?_⟩
   rw[hc];simp[List.getElem?_take_of_lt hi]
  ·subst hx;rw[qM];have:=CG (H:=H) (lits .i64 (zs.take len))
   simp only[lits,List.length_map] at this ⊢;omega
theorem VA {H:Type} {enc:TypeId×Value->H} {W:World} {fuel:Nat} {v:Value} {x:DataW H×List MemPlace} (h:DataW.trod enc Tryz.prog W 0 (fun _=>true) true fuel 26 [v]=some x):
  ∃(a:Option Addr) (cap:Nat) (rows:List (List Int)),v= .slice a rows.length cap/\dW W a rows/\rows.length+1<=Rows.uptoBulk x.1/\∀r∈rows,r.length<=Rows.uptoBulk x.1:=by
 rcases Deep.open_slice1 Tryz.underlying26 Tryz.Y8 h with ⟨hcs,hx⟩ | ⟨a,len,cap,m,n,V,D,Pl,hcs,hb,hl,hm,hmm,hx,hel⟩
 ·obtain rfl:v= .slice none 0 0:=by simpa using hcs
  exact⟨none,0,[],rfl,fun i hi=>absurd hi (Nat.not_lt_zero _),CB _,fun r hr=>(by cases hr)⟩
 ·obtain rfl:v= .slice (some a) len cap:=by simpa using hcs
  simp only[if_true] at hmm;subst hx;have each:∀i,i<len->∃r:List Int,(∃b o ra rc,a=⟨b,o,none⟩/\b<W.heap.size/\W.cell? ⟨b,o+i,none⟩=some (.slice ra r.length rc)/\ax W ra r)/\r.length+1<=Rows.uptoBulk (D i):=fun i hi=>by
   obtain⟨h1,h2⟩:=hel i (by omega)
   obtain⟨ra,rc,r,hv,hI,hbk⟩:=Gh h2;refine⟨r,?_,hbk⟩
   have hsp:a.spot=none:=by
    have h0:=(hel 0 (by omega)).1
    rw[show a.add 0=a from by simp[Addr.add]] at h0
    exact World.cell?_spot h0
   obtain⟨ab,ao,ai⟩:=a;obtain rfl:ai=none:=hsp
   rw[add_plain,hv] at h1;exact⟨ab,ao,ra,rc,rfl,World.block_lt_of_cell? W _ h1,h1,hI⟩
  haveI:Inhabited (List Int):=⟨[]⟩
  obtain⟨R,hR⟩:=Deep.choose_lt each;have hbe:∀i,i<len->Rows.uptoBulk (D i)<=Rows.uptoBulkAll ((List.range len).map D):=fun i hi=>CE (List.mem_map.2 ⟨i,List.mem_range.2 hi,rfl⟩)
  refine⟨some a,cap,(List.range len).map R,by simp,fun i hi=>?_,?_,fun r hr=>?_⟩
  ·rw[List.length_map,List.length_range] at hi;obtain⟨⟨b,o,ra,rc,rfl,hbl,hc,hI⟩,_⟩:=hR i hi;have e:((List.range len).map R).getD i []=R i:=by simp[List.getD,hi]
   rw[e];exact⟨b,o,ra,rc,rfl,hbl,hc,hI⟩
  ·rw[qM];have:=CG ((List.range len).map D)
   simp only[List.length_map,List.length_range] at this ⊢;omega
  ·obtain⟨i,hi,rfl⟩:=List.mem_map.1 hr;have hi':=List.mem_range.1 hi;have h1:=(hR i hi').2;have h2:=hbe i hi';rw[qM];omega
def DC {α:Type} (c:α->Nat) (l:List α):Nat:=(l.map c).sum
theorem EJ {α H:Type} (c:α->Nat) (m:Nat) (R:Nat->α) (D:Nat->DataW H):∀n,(∀i,i<n->c (R i)<=m*Rows.uptoBulk (D i))->DC c ((List.range n).map R)<=m*Rows.uptoBulkAll ((List.range n).map D)
 | 0,_=>by simp[DC]
 | n+1,h=>by
  have ih:=EJ c m R D n (fun i hi=>h i (by omega))
  have h1:=h n (by omega)
  rw[List.range_succ,List.map_append,List.map_append,zH,List.map_singleton,List.map_singleton];have e1:DC c ((List.range n).map R++[R n])=DC c ((List.range n).map R)+c (R n):=by simp[DC]
  have e2:Rows.uptoBulkAll [D n]=Rows.uptoBulk (D n):=by simp[Rows.uptoBulkAll]
  rw[e1,e2,Nat.mul_add];omega
set_option maxRecDepth 100000 in
theorem OC {α H:Type} {enc:TypeId×Value->H} {W:World} {fuel:Nat} {v:Value} {x:DataW H×List MemPlace} (x0:α) (op:α->kU) (c:α->Nat) (P:α->Prop) (m:Nat)
  (hα:∀(r:kU) (k B:Nat) (y z:DataW H×List MemPlace),DataW.trod enc Tryz.prog W 0 (fun _=>true) true k 23 [r.fv]=some y->DataW.trod enc Tryz.prog W 0 (fun _=>true) true k 23 [r.mv]=some z->jS r+Rows.uptoBulk y.1+Rows.uptoBulk z.1<=B->B<=1048576->∃x:α,op x=r/\P x/\c x<=m*B)
  (h:DataW.trod enc Tryz.prog W 0 (fun _=>true) true fuel 23 [v]=some x) (hw:Rows.uptoBulk x.1<=1048576):
  ∃(a:Option Addr) (cap:Nat) (xs:List α),v= .slice a xs.length cap/\Cm W a (xs.map op)/\(∀x∈xs,P x)/\DC c xs<=m*Rows.uptoBulk x.1:=by
 rcases Deep.open_slice Tryz.underlying23 h with ⟨hcs,hx⟩ | ⟨a,len,cap,mm,n,D,Pl,hcs,hb,hl,hm,hmm,hx,hel⟩
 ·obtain rfl:v= .slice none 0 0:=by simpa using hcs
  exact⟨none,0,[],rfl,fun i hi=>absurd hi (Nat.not_lt_zero _),fun x hx=>(by cases hx),Nat.zero_le _⟩
 ·obtain rfl:v= .slice (some a) len cap:=by simpa using hcs
  simp only[if_true] at hmm;subst hx;rw[qM] at hw ⊢;have hspot:0<len->a.spot=none:=fun h0=>by
   obtain⟨cs',h1,_⟩:=hel 0 (by omega)
   rw[Tryz.cOp] at h1;obtain⟨_,hlen,hcell⟩:=World.cells?_some h1
   have e0:=hcell 0 (by omega)
   rw[Deep.add_add] at e0;have e1:W.cell? a=some cs'[0]:=by
    simpa[Addr.add,hlen] using e0
   exact World.cell?_spot e1
  have each:∀i,i<len->∃r:α,(∃b o,a=⟨b,o,none⟩/\b<W.heap.size/\(∀c,c<10->W.cell? ⟨b,o+i*10+c,none⟩=(op r).cells[c]?)/\Gf W (op r))/\P r/\c r<=m*Rows.uptoBulk (D i):=fun i hi=>by
   have hDi:Rows.uptoBulk (D i)<=Rows.uptoBulkAll ((List.range len).map D):=CE (List.mem_map.2 ⟨i,List.mem_range.2 hi,rfl⟩);obtain⟨cs',h1,h2⟩:=hel i (by omega)
   rw[Tryz.cOp] at h1;obtain⟨_,hlen,hcell⟩:=World.cells?_some h1
   obtain⟨xs,k,hk,hxy,_,hxl,hf⟩:=DataW.trod_struct Tryz.underlying54 h2;match xs,hxl,cs',hlen with
   | [y0,y1,y2,y3,y4,y5,y6],_,[v0,v1,v2,v3,v4,v5,v6,v7,v8,v9],_=>
    have g0:=hf 0 _ rfl;have g1:=hf 1 _ rfl;have g2:=hf 2 _ rfl;have g3:=hf 3 _ rfl;have g4:=hf 4 _ rfl;have g5:=hf 5 _ rfl;have g6:=hf 6 _ rfl;simp only[eH,eY,fC,Tryz.adI,Tryz.Y9,Tryz.aa0,Tryz.age,List.drop_zero,List.drop_succ_cons,List.take_succ_cons,List.take_zero,List.getElem?_cons_zero,List.getElem?_cons_succ] at g0 g1 g2 g3 g4 g5 g6
    obtain⟨kind,hv0,_⟩:=DataW.trod_int Tryz.underlying3 g0;obtain⟨oa,hv1,_,hoa⟩:=DataW.trod_int Tryz.underlying3 g1;obtain⟨obb,hv2,_⟩:=DataW.trod_int Tryz.underlying3 g2;obtain⟨which,hv7,_⟩:=DataW.trod_bool Tryz.underlying4 g4;obtain⟨ts,k2,hk2,hty,_,htl,htf⟩:=DataW.trod_struct Tryz.underlying41 g3;match ts,htl with
    | [t0,t1,t2,t3],_=>
     have q0:=htf 0 _ rfl;have q1:=htf 1 _ rfl;have q2:=htf 2 _ rfl;have q3:=htf 3 _ rfl;simp only[eH,eY,fC,Tryz.Y8,Tryz.adH,Tryz.adI,Tryz.Y9,List.drop_zero,List.drop_succ_cons,List.take_succ_cons,List.take_zero,List.getElem?_cons_zero,List.getElem?_cons_succ] at q0 q1 q2 q3
     obtain⟨vo,ak,vars,hv3,Ux,hbv⟩:=Gh q0;obtain⟨ro,au,rows,hv4,hRr,hbr,agf⟩:=VA q1;obtain⟨nt,hv5,_⟩:=DataW.trod_bool Tryz.underlying4 q2;obtain⟨way,hv6,_⟩:=DataW.trod_int Tryz.underlying3 q3;obtain rfl:v0= .int .i64 kind:=by simpa using hv0
     obtain rfl:v1= .int .i64 oa:=by simpa using hv1
     obtain rfl:v2= .int .i64 obb:=by simpa using hv2
     obtain rfl:v7= .bool which:=by simpa using hv7
     obtain rfl:v5= .bool nt:=by simpa using hv5
     obtain rfl:v6= .int .i64 way:=by simpa using hv6
     subst hv3;subst hv4;simp only[Prod.mk.injEq] at hxy hty;have hT:Rows.uptoBulk y3.1+Rows.uptoBulk y5.1+Rows.uptoBulk y6.1<=Rows.uptoBulk (D i):=by
      rw[hxy.1,JF];simp only[List.map_cons,List.map_nil,Rows.uptoBulkAll];omega
     have hT0:Rows.uptoBulk t0.1+Rows.uptoBulk t1.1+1<=Rows.uptoBulk y3.1:=by
      rw[hty,JF];simp only[List.map_cons,List.map_nil,Rows.uptoBulkAll];omega
     have hsp:=hspot (by omega)
     obtain⟨ab,ao,ai⟩:=a;obtain rfl:ai=none:=hsp
     obtain⟨r,hr0,hP,hcr⟩:=hα ⟨kind,oa,obb,vo,ak,ro,au,vars,rows,nt,way,which,v8,v9⟩ _ (Rows.uptoBulk (D i)) y5 y6 g5 g6 (by show 1+rows.length+_+_<=_;omega) (by omega)
     refine⟨r,⟨ab,ao,rfl,?_,fun c hc=>?_,?_⟩,hP,hcr⟩
     ·have e0:=hcell 0 (by omega)
      rw[Deep.add_add,add_plain] at e0;exact World.block_lt_of_cell? W _ e0
     ·have e0:=hcell c hc;rw[Deep.add_add,add_plain] at e0;rw[Nat.add_assoc,hr0];refine e0.trans ?_
      have hcl:c=0\/c=1\/c=2\/c=3\/c=4\/c=5\/c=6\/c=7\/c=8\/c=9:=by omega
      rcases hcl with rfl | rfl | rfl | rfl | rfl | rfl | rfl | rfl | rfl | rfl <;> rfl
     ·rw[hr0];refine⟨Ux,hRr,?_,?_,fun r hr=>?_,?_⟩
      ·show vars.length<=_
       omega
      ·show rows.length<=_
       omega
      ·have:=agf r hr
       omega
      ·show oa<_
       have h2:(decide (IntKind.i64.min<=oa)&&decide (oa<=IntKind.i64.max))=true:=hoa;have h3:oa<=IntKind.i64.max:=by simpa using(Bool.and_eq_true_iff.1 h2).2
       have h4:IntKind.i64.max=9223372036854775807:=by decide
       omega
  haveI:Inhabited α:=⟨x0⟩
  obtain⟨R,hR⟩:=Deep.choose_lt each;refine⟨some a,cap,(List.range len).map R,by simp,fun i hi=>?_,fun x hx=>?_,?_⟩
  ·rw[List.length_map,List.length_map,List.length_range] at hi;obtain⟨⟨b,o,rfl,hb',hc,hok⟩,_⟩:=hR i hi;have e:(((List.range len).map R).map op).getD i WE=op (R i):=by simp[List.getD,hi]
   rw[e];exact⟨b,o,rfl,hb',hc,hok⟩
  ·obtain⟨i,hi,rfl⟩:=List.mem_map.1 hx;exact(hR i (List.mem_range.1 hi)).2.1
  ·refine Nat.le_trans (EJ c m R D len (fun i hi=>(hR i hi).2.2)) (Nat.mul_le_mul_left _ ?_)
   omega
theorem OD:∀l:List kU,DC jS l=aP l
 | []=>rfl
 | o::l=>by
  have:=OD l
  simp only[DC,List.map_cons,List.sum_cons,aP] at this ⊢;omega
theorem Za:∀l:List Ag,DC Ag.cost l=jf l
 | []=>rfl
 | o::l=>by
  have:=Za l
  simp only[DC,List.map_cons,List.sum_cons,jf] at this ⊢;omega
theorem VC {H:Type} {enc:TypeId×Value->H} {W:World} {fuel:Nat} {v:Value} {x:DataW H×List MemPlace} (h:DataW.trod enc Tryz.prog W 0 (fun _=>true) true fuel 23 [v]=some x):Sl v:=by
 rcases Deep.open_slice Tryz.underlying23 h with ⟨hcs,hx⟩ | ⟨a,len,cap,mm,n,D,Pl,hcs,_⟩
 ·exact⟨none,0,0,by simpa using hcs⟩
 ·exact⟨some a,len,cap,by simpa using hcs⟩
theorem OE {H:Type} {enc:TypeId×Value->H} {W:World} {fuel:Nat} {v:Value} {x:DataW H×List MemPlace} (h:DataW.trod enc Tryz.prog W 0 (fun _=>true) true fuel 23 [v]=some x) (hw:Rows.uptoBulk x.1<=1048576):
  ∃(a:Option Addr) (cap:Nat) (ops:List kU),v= .slice a ops.length cap/\Cm W a ops/\(∀x∈ops,Sl x.fv/\Sl x.mv)/\aP ops<=Rows.uptoBulk x.1:=by
 obtain⟨a,cap,xs,h1,h2,h3,h4⟩:=OC WE id jS (fun x=>Sl x.fv/\Sl x.mv) 1 (fun r k B y z hy hz hB _=>⟨r,rfl,⟨VC hy,VC hz⟩,by omega⟩) h hw
 rw[List.map_id] at h2;rw[OD] at h4;exact⟨a,cap,xs,h1,h2,h3,by omega⟩
theorem Nk {H:Type} {enc:TypeId×Value->H} {W:World} {fuel:Nat} {v:Value} {x:DataW H×List MemPlace} (h:DataW.trod enc Tryz.prog W 0 (fun _=>true) true fuel 23 [v]=some x) (hw:Rows.uptoBulk x.1<=1048576):
  ∃(a:Option Addr) (cap:Nat) (ns:List Ag),v= .slice a ns.length cap/\Cm W a (ns.map Ag.o)/\(∀x∈ns,vK W x.o x.F x.M)/\jf ns<=2*Rows.uptoBulk x.1:=by
 have key:=OC n0 Ag.o Ag.cost (fun x=>vK W x.o x.F x.M) 2 (fun r k B y z hy hz hB hB2=>by
  obtain⟨fo,fc,F,hf1,hf2,_,hf3⟩:=OE hy (by omega)
  obtain⟨mo,mc,M,hm1,hm2,hms,VD⟩:=OE hz (by omega)
  refine⟨⟨r,F,M⟩,rfl,⟨⟨fo,fc,hf1,hf2⟩,⟨mo,mc,hm1,hm2,hms⟩⟩,?_⟩
  show jS r+aP F+2*aP M<=2*B
  omega) h hw
 obtain⟨a,cap,ns,h1,h2,h3,h4⟩:=key;rw[Za] at h4;exact⟨a,cap,ns,h1,h2,h3,h4⟩
end Go.Proofs.YtkjfpdfkcfgfkaaGreat
namespace Go.Proofs.YtkjfpdfkcfgfkaaGreat
open Go.RowKit
set_option maxRecDepth 1000000 in
theorem Nl (B:Nat) (sv nv tv rv:Value) (ss ts:List Value) (ao:Option Addr) (cap:Nat) (zs:List Int) (w:World) (hlen:1<=zs.length) (OG:zs.length<=8)
  (hB:af w B #[sv,nv,tv,rv] 29) (sZ:Row w tv 22 ts) (hts:(ts.length+1)*24<=140737488355328) (hsv:Row w sv 49 ss) (hss:(ss.length+1)*8<=140737488355328) (hl:ax w ao zs):
  Calls Tryz.prog 8 #[.pointer (some ⟨B,0,none⟩),.slice ao zs.length cap] w fun e w'=>
   e= .returned (.bool true)/\∃sv' tv',Fr (fun k=>k=B\/tv.ownBlock=some k\/sv.ownBlock=some k) w w'/\af w' B #[sv',nv,tv',rv] 29 /\
    Row w' tv' 22 (ts++[.slice (some ⟨w.heap.size,0,none⟩) (zs.length+1) (zs.length+1)])/\af w' w.heap.size (dI zs (zs.length+1)) 3 /\
    (∀k,tv'.ownBlock=some k->tv.ownBlock=some k\/w.heap.size<=k) /\
    ((di zs=false/\sv'=sv/\Row w' sv 49 ss)\/(di zs=true/\∃D X Y az,Row w' sv' 49 (ss++[.pointer (some ⟨D,0,none⟩)])/\(∀k,sv'.ownBlock=some k->sv.ownBlock=some k\/w.heap.size<=k) /\
     af w' D (pR X Y) 52/\af w' X (ah az (fM zs zs.length) aZ vS) 66/\Row w' az 3 (zs.map (Value.int .i64))/\w.heap.size<=D/\w.heap.size<=X/\∃lo2,w.heap.size<lo2/\(∀k,az.ownBlock=some k->w.heap.size<k/\k<lo2)/\lo2<=Y/\zh w' lo2 Y zs (allIn zs zs.length) false aZ aZ)):=by
 have hBlt:=hB.lt;obtain⟨b,o,rfl,hbl,_⟩:=hl 0 (by omega)
 obtain⟨i0,hi,hz0,hz1,hz2⟩:=info_parts Tryz.Vf;cases hok:di zs with
 | false=>
  have qU:=hd hok;clear hok;go_enter Tryz.func8,Tryz.ntmps8
  go_wp2_with (first
   | (go_at_call 14;refine(qY _ _ zs _ (by omega) hl).mono ?_;rintro e w1 ⟨rfl,hf1,hg1⟩;have hown:ax w1 (some ⟨w.heap.size,0,none⟩) zs:=ax.pW hg1 0 zs (fun i hi=>by simp[List.getElem?_append_left,hi]))
   | (go_at_call 10;refine(aaK _ _ _ zs _ hlen OG hown qU.out).mono ?_;rintro e w2 ⟨hf2,rfl⟩;have hl2:=(hl.nw hf1).nw hf2)
   | (go_at_call 15;refine(QH _ _ _ zs _ hlen OG hl2 qU.out).mono ?_;rintro e w3 ⟨hf3,rfl⟩)
   | (go_at_call 16;refine(kN B w.heap.size (some ⟨b,o,none⟩) cap zs sv nv tv rv ts _ (by omega) (((hB.nw hf1).nw hf2).nw hf3) (((sZ.nw hf1).nw hf2).nw hf3) hts ((hg1.nw hf2).nw hf3) (hl2.nw hf3)).mono ?_;rintro e w4 ⟨rfl,tv',hf4,hB4,XW,hg4,aa1⟩))
  go_ret
  have XX:Nw w w3:=(hf1.trans hf2 (fun i h=>h.elim)).trans hf3 (fun i h=>h.elim)
  refine⟨rfl,sv,tv',(XX.mono (fun i h=>h.elim)).trans hf4 ?_,hB4,XW,hg4,?_,.inl ⟨by trivial,rfl,(((hsv.nw hf1).nw hf2).nw hf3).fr hf4 (fun k hk e=>zC (((hsv.nw hf1).nw hf2).nw hf3) (((hB.nw hf1).nw hf2).nw hf3) ((hg1.nw hf2).nw hf3) (((sZ.nw hf1).nw hf2).nw hf3) k hk e)⟩⟩
  ·rintro i (h | h | h)
   ·exact .inl (.inl h)
   ·exact .inr (by omega)
   ·exact .inl (.inr (.inl h))
  ·intro k hk;rcases aa1 k hk with h | h
   ·exact .inl h
   ·exact .inr (Nat.le_trans XX.size h)
 | true=>
  have qU:=hd hok;clear hok;go_enter Tryz.func8,Tryz.ntmps8
  go_wp2_with (first
   | (go_at_call 14;refine(qY _ _ zs _ (by omega) hl).mono ?_;rintro e w1 ⟨rfl,hf1,hg1⟩;have hown:ax w1 (some ⟨w.heap.size,0,none⟩) zs:=ax.pW hg1 0 zs (fun i hi=>by simp[List.getElem?_append_left,hi]))
   | (go_at_call 10;refine(aaJ _ _ _ zs _ hlen OG hown qU.out).mono ?_;rintro e w2 ⟨hf2,X,az,rfl,hX2,hsz2,ahs,uB⟩;have hl2:=(hl.nw hf1).nw hf2)
   | (go_at_call 15;refine(QG _ _ _ zs _ hlen OG hl2 qU.out).mono ?_;rintro e w3 ⟨hf3,Y,rfl,agh,hY3⟩)
   | (go_at_call 16;refine(kN B w.heap.size (some ⟨b,o,none⟩) cap zs sv nv tv rv ts _ (by omega) (((hB.nw hf1).nw hf2).nw hf3) (((sZ.nw hf1).nw hf2).nw hf3) hts ((hg1.nw hf2).nw hf3) (hl2.nw hf3)).mono ?_;rintro e w4 ⟨rfl,tv',hf4,hB4,XW,hg4,aa1⟩;have aht:w4.cell? ⟨B,0,none⟩=some sv:=hB4.cell 0;have XY:Row w4 sv 49 ss:=(((hsv.nw hf1).nw hf2).nw hf3).fr hf4 (fun k hk e=>zC (((hsv.nw hf1).nw hf2).nw hf3) (((hB.nw hf1).nw hf2).nw hf3) ((hg1.nw hf2).nw hf3) (((sZ.nw hf1).nw hf2).nw hf3) k hk e))
   | (at_builtin;refine wpList_append_own_at _ rfl _ _ 25 rfl 0 49 i0 (.pointer none) 1 8 Tryz.underlying25 hi hz0 hz1 hz2 rfl (by decide) _ _ _ rfl ((XY.alloc _).alloc _) ⟨w4.heap.size+1,0,none⟩ 1 1 [.pointer (some ⟨w4.heap.size,0,none⟩)] rfl rfl (by have:=cell_one_new (w4.alloc (.cells (pR X Y) 52)) (.pointer (some ⟨w4.heap.size,0,none⟩)) 49;simpa[pR] using this) (by simp[Value.oneCell']) (by unfold maxLen;omega) (by omega) (Nat.zero_le _) ?_;intro v' w5 hown' hgrow _ hat;obtain⟨g',cap',rfl,hr5,hf5,ha5,ahu⟩:=app1 (w:=w4.alloc (.cells (pR X Y) 52)) hown' hgrow hat;have hB5:af w5 B #[sv,nv,tv',rv] 29:=(hB4.alloc _).fr hf5 (fun e=>XY.ne hB4 (by decide) e);have ahv:=hB5.free 0;have hc5:w5.cell? ⟨B,0,none⟩=some sv:=hB5.cell 0;clear hown' hgrow hat))
  have XX:Nw w w3:=(hf1.trans hf2 (fun i h=>h.elim)).trans hf3 (fun i h=>h.elim)
  have hsz1:=hf1.size;have agE:=hf2.size;have hsz3:=hf3.size;have ahw:=hf4.size;have hD5:af w5 w4.heap.size (pR X Y) 52:=(af.new w4 _ _).fr hf5 (fun e=>by
   have:=XY.lt e
   omega)
  have Qk:g'≠B:=fun e=>by
   subst e;exact hr5.ne hB5 (by decide) rfl
  have hs4:∀k,(k=B\/k=w.heap.size\/tv.ownBlock=some k)->k<w1.heap.size:=by
   rintro k (h | h | h)
   ·omega
   ·have:=hg1.lt;omega
   ·have:=sZ.lt h;omega
  have hX4:af w4 X (ah az (fM zs zs.length) aZ vS) 66:=(hX2.nw hf3).fr hf4 (fun e=>by have:=hs4 _ e;omega)
  have hr4:Row w4 az 3 (zs.map (Value.int .i64)):=(hsz2.nw hf3).fr hf4 (fun k hk e=>by have:=hs4 _ e;have:=uB k hk;omega)
  have hY4:zh w4 w2.heap.size Y zs (allIn zs zs.length) false aZ aZ:=hY3.fr hf4 (fun k e=>by have:=hs4 _ e;omega)
  have hs5:∀k,(k=B\/sv.ownBlock=some k)->k<w.heap.size:=by
   rintro k (h | h)
   ·omega
   ·exact hsv.lt h
  have F5:Fr (fun k=>k=B\/sv.ownBlock=some k) w4 (w5.setCell ⟨B,0,none⟩ (.slice (some ⟨g',0,none⟩) (ss.length+1) cap')):=
   ((((Fr.refl (fun k=>k=B\/sv.ownBlock=some k) w4).alloc _).trans hf5 (fun k h=>.inl (.inr h))).setCell _ _ (.inl (.inl rfl)))
  have F5':Fr (fun k=>k=B) w5 (w5.setCell ⟨B,0,none⟩ (.slice (some ⟨g',0,none⟩) (ss.length+1) cap')):=(Fr.refl _ w5).setCell _ _ (.inl rfl)
  have hnB:∀cur e,af w4 B cur e->e=29:=fun cur e h=>(h.inj hB4).2
  have hapart:∀(k:Nat) (v:Value) (xs:List Value),Row w4 v 22 xs->v.ownBlock=some k->¬(k=B\/sv.ownBlock=some k):=by
   rintro k v xs hv hk (e | e)
   ·subst e;exact hv.ne hB4 (by decide) hk
   ·obtain⟨cur,hb,_⟩:=hv.blk hk;exact XY.ne hb (by decide) e
  have hlow:∀k,(k=B\/sv.ownBlock=some k)->¬w.heap.size<=k:=fun k h=>by have:=hs5 k h;omega
  go_ret
  refine⟨rfl,.slice (some ⟨g',0,none⟩) (ss.length+1) cap',tv',?_,?_,?_,?_,?_,.inr ⟨by trivial,w4.heap.size,X,Y,az,?_⟩⟩
  ·refine((XX.mono (fun i h=>h.elim)).trans hf4 ?_).trans F5 ?_
   ·rintro i (h | h | h)
    ·exact .inl (.inl h)
    ·exact .inr (by omega)
    ·exact .inl (.inr (.inl h))
   ·rintro i (h | h)
    ·exact .inl (.inl h)
    ·exact .inl (.inr (.inr h))
  ·have:=hB5.set 0 (.slice (some ⟨g',0,none⟩) (ss.length+1) cap')
   simpa using this
  ·exact XW.fr F5 (fun k hk=>hapart k _ _ XW hk)
  ·exact hg4.fr F5 (fun e=>hlow _ e (Nat.le_refl _))
  ·intro k hk;rcases aa1 k hk with h | h
   ·exact .inl h
   ·exact .inr (by omega)
  ·refine⟨hr5.fr F5' (fun k hk e=>Qk (by cases hk;exact e)),?_,hD5.fr F5' (fun e=>by omega),hX4.fr F5 (fun e=>hlow _ e (by omega)),hr4.fr F5 (fun k hk e=>hlow _ e (by have:=uB k hk;omega)),by omega,by omega,w2.heap.size,by have:=hg1.lt;omega,fun k hk=>⟨by have:=uB k hk;have:=hg1.lt;omega,hsz2.lt hk⟩,agh,?_⟩
   ·intro k hk;cases hk;rcases ha5 with h | h
    ·exact .inl h
    ·exact .inr (by simp at h;show w.heap.size<=g';omega)
   ·exact hY4.fr F5 (fun k e=>by have:=hs5 k e;omega)
theorem yR (zs:List Int) (q:Nat) (hq:q<zs.length):(allIn zs zs.length).getD q []=List.replicate (zs.getD q 0).toNat true:=by
 simp[allIn,List.getD,hq]
theorem tN (zs:List Int):(allIn zs zs.length).length=zs.length:=by simp[allIn]
theorem VE {zs:List Int} (hok:di zs=true):dR (allIn zs zs.length)=fM zs zs.length:=by
 obtain⟨h0,h8⟩:=aF hok;have h6:∀u,u<(allIn zs zs.length).length->((allIn zs zs.length).getD u []).length<=6:=fun u hu=>by
  rw[tN] at hu;rw[yR zs u hu,List.length_replicate];have:=(fJ hok u hu).2
  omega
 have key:∀q v,((dR (allIn zs zs.length)).getD q 0).testBit v=((fM zs zs.length).getD q 0).testBit v:=fun q v=>by
  rw[dH _ (by rw[tN];exact h8) h6,ve zs h8]
  by_cases hq:q<zs.length
  ·rw[if_pos hq,yR zs q hq,Nat.testBit_two_pow_sub_one];obtain⟨m,hm⟩:∃m,(zs.getD q 0).toNat=m:=⟨_,rfl⟩;rw[hm];by_cases hv:v<m
   ·simp[List.getD,hv]
   ·simp[List.getD,hv]
  ·rw[if_neg hq];have:(allIn zs zs.length).getD q []=[]:=by
    simp only[List.getD];rw[List.getElem?_eq_none (by rw[tN];omega)]
    rfl
   rw[this];simp
 exact dN.eq (kK _) (N7 hok) (fun q v h=>by rw[<-key];exact h) (fun q v h=>by rw[key];exact h)
theorem Pair.new {W w:World} {lo lo2 X Y:Nat} {zs:List Int} {az:Value} (hok:di zs=true) (hB:af w X (ah az (fM zs zs.length) aZ vS) 66) (hr:Row w az 3 (zs.map (Value.int .i64))) (hX:lo<=X) (hs:∀k,az.ownBlock=some k->lo<=k/\k<lo2) (hlo2:lo<=lo2) (hY:lo2<=Y) (hR:zh w lo2 Y zs (allIn zs zs.length) false aZ aZ):
  ∃R,Pair false W w lo X Y zs (YK zs az) R/\(∀k,R.own Y k->lo2<=k):=by
 obtain⟨rsz,inv,vs,h1,h2,h3,h4,h5,h6⟩:=hR.ex;obtain⟨hz0,NM⟩:=aF hok;have hRA:mF W w lo Y zs ⟨rsz,⟨inv,vs,allIn zs zs.length,false⟩,aZ,[],aZ,[]⟩:=by
  refine⟨⟨h1,h2,h3,⟨h4.len,h4.row,h4.ne,fun i hi k hk=>Nat.le_trans hlo2 (h4.lo i hi k hk)⟩,tN zs,fun u hu=>?_,hok,fun k hk=>Nat.le_trans hlo2 (h5 k hk),fun k hk=>Nat.le_trans hlo2 (h6 k hk),Nat.le_trans hlo2 hY⟩,⟨[],World.ownsRow_nil _ _ _ _,fun i hi=>absurd hi (Nat.not_lt_zero _)⟩,Nat.zero_le _,fun i hi=>absurd hi (Nat.not_lt_zero _),World.ownsRow_nil _ _ _ _,fun l hl=>(by cases hl),Nat.zero_le _,?_,fun k hk=>(by cases hk),fun k hk=>(by cases hk)⟩
  ·show ((allIn zs zs.length).getD u []).length=_
   rw[yR zs u hu,List.length_replicate]
  ·exact List.pairwise_cons.2 ⟨fun b hb=>(by cases hb),List.Pairwise.nil⟩
 have hown:∀k,RS.own Y ⟨rsz,⟨inv,vs,allIn zs zs.length,false⟩,aZ,[],aZ,[]⟩ k->lo2<=k:=fun k hk=>by
  rcases hk with (rfl | ⟨u,hu,hk⟩ | hk | hk) | hk | hk | ⟨l,hl,_⟩
  ·exact hY
  ·exact h4.lo u (by rw[<-h4.len];exact hu) k hk
  ·cases hk
  ·cases hk
  ·exact h5 k hk
  ·exact h6 k hk
  ·cases hl
 refine⟨_,⟨N8 hok hB hr,hRA,rfl,.inr ⟨rfl,(VE hok).symm,En hok⟩,rfl,trivial,fun k hk ho=>?_,fun k hk=>?_⟩,hown⟩
 ·have:=h5 k hk
  rcases xe ho with rfl | ho
  ·obtain⟨cur,hb,_⟩:=h2.blk hk;exact absurd (hb.inj hB).2 (by decide)
  ·have:=(hs k ho).2
   omega
 ·rcases xe hk with rfl | hk
  ·exact hX
  ·exact(hs k hk).1
end Go.Proofs.YtkjfpdfkcfgfkaaGreat
