/- Parts of the proof, number 0: contracts of the functions that the statement calls. -/
import Derived.WalkKit
import Derived.WalkSpells
import Derived.WalkLawsBesides
import Derived.Maps.AppendAt
import Derived.Test.YtkjfpdfkcfgfkaaGreatProg
import Derived.Deep.QuietTactic
import Derived.BigQuiet
import Derived.Laws.CopyOwn
import Derived.Deep.RegionHeld3
import Derived.RangeFuncNested
import Derived.RangeFuncBound
import Derived.RangeFuncCalls
import Derived.RangeFuncLeaves
import Derived.Shelf.Abstract
import Derived.Shelf.RegionOpen
import Derived.OwnWalkIn
import Derived.TacticsInMore
import Derived.LoopNIn
import Derived.LoopIn
import Derived.Laws.BitsAllLaws
import Derived.Deep.DeepCutAuto
import Derived.StillTailTactics
set_option maxHeartbeats 3200000
namespace Go.Proofs.YtkjfpdfkcfgfkaaGreat
theorem bQ {α : Type} (l : List α) (i : Nat) (a : α) : l.toArray.setIfInBounds i a = (l.set i a).toArray := List.setIfInBounds_toArray ..
theorem bW {α : Type} {x a : α} {xs : List α} : (x :: xs).set 0 a = a :: xs := List.set_cons_zero
theorem bU {α : Type} {x a : α} {xs : List α} {i : Nat} : (x :: xs).set (i + 1) a = x :: xs.set i a := List.set_cons_succ
theorem eH {α : Type} {xs : List α} {i : Nat} (h : i < xs.toArray.size) : xs.toArray[i] = xs[i] := List.getElem_toArray h
theorem eY {α : Type} (a : α) (l : List α) (h : 0 < (a :: l).length) : (a :: l)[0] = a := List.getElem_cons_zero a l h
theorem fC {α : Type} (a : α) (l : List α) (i : Nat) (h : i + 1 < (a :: l).length) : (a :: l)[i + 1] = l[i]'(Nat.lt_of_succ_lt_succ h) := List.getElem_cons_succ a l i h
end Go.Proofs.YtkjfpdfkcfgfkaaGreat
namespace Go.Proofs.YtkjfpdfkcfgfkaaGreat
open Go.RowKit
theorem hd {p:Prop} (h:p):Hid p:=h
def af (w:World) (g:Nat) (cur:Array Value) (e:TypeId):Prop:=w.heap[g]? = some (.cells cur e (0,0))
structure Fr (S:Nat->Prop) (w w':World):Prop where
 os:w'.os=w.os
 tape:w'.tape=w.tape
 output:w'.output=w.output
 size:w.heap.size<=w'.heap.size
 block:∀k,k<w.heap.size->¬S k->w'.heap[k]? = w.heap[k]?
abbrev Nw (w w':World):Prop:=Fr (fun _=>False) w w'
theorem Fr.refl (S:Nat->Prop) (w:World):Fr S w w:=⟨rfl,rfl,rfl,Nat.le_refl _,fun _ _ _=>rfl⟩
theorem Fr.trans {S S':Nat->Prop} {a b c:World} (h:Fr S a b) (k:Fr S' b c) (hs:∀i,S' i->S i\/a.heap.size<=i):Fr S a c:=
 ⟨k.os.trans h.os,k.tape.trans h.tape,k.output.trans h.output,Nat.le_trans h.size k.size,fun i hi hn=>
  (k.block i (Nat.lt_of_lt_of_le hi h.size) (fun hk=>(hs i hk).elim hn (fun h'=>by omega))).trans (h.block i hi hn)⟩
theorem Fr.mono {S S':Nat->Prop} {a b:World} (h:Fr S a b) (hs:∀i,S i->S' i\/a.heap.size<=i):Fr S' a b:=
 (Fr.refl S' a).trans h hs
theorem Fr.drew {S:Nat->Prop} {a b:World} (h:Fr S a b):Fr S a b.drew:=⟨h.os,h.tape,h.output,h.size,h.block⟩
theorem Fr.drewN {S:Nat->Prop} {a b:World} (h:Fr S a b) (n:Nat):Fr S a (b.drewN n):=⟨h.os,h.tape,h.output,h.size,h.block⟩
theorem Fr.alloc {S:Nat->Prop} {a b:World} (h:Fr S a b) (o:Obj):Fr S a (b.alloc o):=
 ⟨h.os,h.tape,h.output,by have:=h.size;simp;omega,fun k hk hn=>(Below.heap_alloc b o k (Nat.lt_of_lt_of_le hk h.size)).trans (h.block k hk hn)⟩
theorem Fr.setCell {S:Nat->Prop} {a b:World} (h:Fr S a b) (p:Addr) (u:Value) (hp:S p.block\/a.heap.size<=p.block):Fr S a (b.setCell p u):=
 ⟨h.os,h.tape,h.output,by have:=h.size;simp[World.setCell];omega,fun k hk hn=>by
  rw[Below.heap_setCell _ _ _ _ (fun e=>by subst e;exact hp.elim hn (fun h'=>by omega))];exact h.block k hk hn⟩
theorem Fr.grown {S:Nat->Prop} {a b c:World} {row:Option Nat} (h:Fr S a b) (hg:b.grownBy c row) (hr:∀k,row=some k->S k\/a.heap.size<=k):Fr S a c:=
 ⟨hg.os.trans h.os,hg.tape.trans h.tape,hg.output.trans h.output,Nat.le_trans h.size hg.size,fun k hk hn=>
  (hg.block k (Nat.lt_of_lt_of_le hk h.size) (fun e=>(hr k e.symm).elim hn (fun h'=>by omega))).trans (h.block k hk hn)⟩
theorem Fr.below {w w':World} (h:Nw w w'):Below w.heap.size w w':=⟨h.os,h.tape,h.output,h.size,fun k hk=>h.block k hk (fun f=>f)⟩
theorem Fr.of_below {w w':World} (h:Below w.heap.size w w'):Nw w w':=⟨h.os,h.tape,h.output,h.size,fun k hk _=>h.block k hk⟩
theorem Fr.cell {S:Nat->Prop} {w w':World} (h:Fr S w w') {b o:Nat} (hb:b<w.heap.size) (hn:¬S b):w'.cell? ⟨b,o,none⟩=w.cell? ⟨b,o,none⟩:=
 World.cell?_of_block (h.block b hb hn)
theorem af.lt {w:World} {g:Nat} {cur:Array Value} {e:TypeId} (h:af w g cur e):g<w.heap.size:=lt_of_block h
theorem af.cell {w:World} {g:Nat} {cur:Array Value} {e:TypeId} (h:af w g cur e) (i:Nat):w.cell? ⟨g,i,none⟩=cur[i]?:=cell_of_row w g i cur e _ h
theorem af.free {w:World} {g:Nat} {cur:Array Value} {e:TypeId} (h:af w g cur e) (i:Nat):w.frozen? ⟨g,i,none⟩=false:=by
 have h':w.heap[g]? = some (.cells cur e (0,0)):=h
 simp[World.frozen?,h']
theorem af.fr {S:Nat->Prop} {w w':World} {g:Nat} {cur:Array Value} {e:TypeId} (h:af w g cur e) (f:Fr S w w') (hn:¬S g):af w' g cur e:=
 (f.block g h.lt hn).trans h
theorem af.nw {w w':World} {g:Nat} {cur:Array Value} {e:TypeId} (h:af w g cur e) (f:Nw w w'):af w' g cur e:=h.fr f (fun x=>x)
theorem af.new (w:World) (cur:Array Value) (e:TypeId):af (w.alloc (.cells cur e)) w.heap.size cur e:=heap_alloc_new w _
theorem af.alloc {w:World} {g:Nat} {cur:Array Value} {e:TypeId} (h:af w g cur e) (o:Obj):af (w.alloc o) g cur e:=(Below.heap_alloc w o g h.lt).trans h
theorem af.drew {w:World} {g:Nat} {cur:Array Value} {e:TypeId} (h:af w g cur e):af w.drew g cur e:=h
theorem af.drewN {w:World} {g:Nat} {cur:Array Value} {e:TypeId} (h:af w g cur e) (n:Nat):af (w.drewN n) g cur e:=h
theorem af.other {w:World} {g:Nat} {cur:Array Value} {e:TypeId} (h:af w g cur e) (p:Addr) (u:Value) (hp:g≠p.block):af (w.setCell p u) g cur e:=
 (Below.heap_setCell w p u g hp).trans h
theorem af.set {w:World} {g:Nat} {cur:Array Value} {e:TypeId} (h:af w g cur e) (i:Nat) (u:Value):af (w.setCell ⟨g,i,none⟩ u) g (cur.setIfInBounds i u) e:=by
 have hlt:=h.lt;have h':w.heap[g]= .cells cur e (0,0):=by
  have:w.heap[g]? = some (.cells cur e (0,0)):=h
  simpa[Array.getElem?_eq_getElem hlt] using this
 show (w.heap.modify g _)[g]? = _
 rw[Array.getElem?_eq_getElem (by simpa using hlt),Array.getElem_modify_self,h']
 rfl
theorem af.inj {w:World} {g:Nat} {cur cur':Array Value} {e e':TypeId} (h:af w g cur e) (h':af w g cur' e'):cur=cur'/\e=e':=by
 have h1:w.heap[g]? = some (.cells cur e (0,0)):=h
 have h2:w.heap[g]? = some (.cells cur' e' (0,0)):=h'
 rw[h1] at h2;simpa using h2
def ax (w:World) (ao:Option Addr) (zs:List Int):Prop:=∀i,i<zs.length->∃b o,ao=some ⟨b,o,none⟩/\b<w.heap.size/\w.cell? ⟨b,o+i,none⟩=some (.int .i64 (zs.getD i 0))
theorem ax.fr {S:Nat->Prop} {w w':World} {ao:Option Addr} {zs:List Int} (h:ax w ao zs) (f:Fr S w w') (hn:∀b o,ao=some ⟨b,o,none⟩->¬S b):ax w' ao zs:=by
 intro i hi;obtain⟨b,o,rfl,hb,hc⟩:=h i hi;exact⟨b,o,rfl,Nat.lt_of_lt_of_le hb f.size,(f.cell hb (hn b o rfl)).trans hc⟩
theorem ax.nw {w w':World} {ao:Option Addr} {zs:List Int} (h:ax w ao zs) (f:Nw w w'):ax w' ao zs:=h.fr f (fun _ _ _ x=>x)
theorem ax.pW {w:World} {g:Nat} {cur:Array Value} {e:TypeId} (h:af w g cur e) (o:Nat) (zs:List Int)
  (hc:∀i,i<zs.length->cur[o+i]? = some (.int .i64 (zs.getD i 0))):ax w (some ⟨g,o,none⟩) zs:=
 fun i hi=>⟨g,o,rfl,h.lt,(h.cell _).trans (hc i hi)⟩
def Row (w:World) (v:Value) (e:TypeId) (xs:List Value):Prop:=w.ownsRow 0 e 1 v xs.length xs
theorem Row.nil (w:World) (e:TypeId):Row w (.slice none 0 0) e []:=World.ownsRow_nil w 0 e 1
theorem Row.fr {S:Nat->Prop} {w w':World} {v:Value} {e:TypeId} {xs:List Value} (h:Row w v e xs) (f:Fr S w w') (hn:∀k,v.ownBlock=some k->¬S k):Row w' v e xs:=by
 refine⟨h.1,?_⟩
 rcases h.2 with h2 | ⟨g,cap,cur,rfl,hb,hg,r⟩
 ·exact .inl h2
 ·exact .inr ⟨g,cap,cur,rfl,hb,(f.block g (lt_of_block hg) (hn g rfl)).trans hg,r⟩
theorem Row.nw {w w':World} {v:Value} {e:TypeId} {xs:List Value} (h:Row w v e xs) (f:Nw w w'):Row w' v e xs:=h.fr f (fun _ _ x=>x)
theorem Row.alloc {w:World} {v:Value} {e:TypeId} {xs:List Value} (h:Row w v e xs) (o:Obj):Row (w.alloc o) v e xs:=World.ownsRow.alloc h o
theorem Row.drew {w:World} {v:Value} {e:TypeId} {xs:List Value} (h:Row w v e xs):Row w.drew v e xs:=World.ownsRow.drew h
theorem Row.lt {w:World} {v:Value} {e:TypeId} {xs:List Value} (h:Row w v e xs) {k:Nat} (hk:v.ownBlock=some k):k<w.heap.size:=(World.ownsRow.lt h k hk).2
theorem Row.blk {w:World} {v:Value} {e:TypeId} {xs:List Value} (h:Row w v e xs) {k:Nat} (hk:v.ownBlock=some k):∃cur,af w k cur e/\cur.toList.take xs.length=xs:=by
 rcases h.2 with ⟨rfl,_⟩ | ⟨g,cap,cur,rfl,_,hg,_,_,_,ht⟩
 ·cases hk
 ·cases hk;exact⟨cur,hg,by simpa using ht⟩
theorem Row.form {w:World} {v:Value} {e:TypeId} {xs:List Value} (h:Row w v e xs):∃ao cap,v= .slice ao xs.length cap/\(∀a,ao=some a->∃g,a=⟨g,0,none⟩/\v.ownBlock=some g):=by
 rcases h.2 with ⟨rfl,hn⟩ | ⟨g,cap,cur,rfl,_⟩
 ·exact⟨none,0,by rw[hn],fun a h=>by cases h⟩
 ·exact⟨_,cap,rfl,fun a h=>by cases h;exact⟨g,rfl,rfl⟩⟩
theorem Row.cell {w:World} {v:Value} {e:TypeId} {xs:List Value} (h:Row w v e xs) (i:Nat) (hi:i<xs.length):
  ∃g cap,v= .slice (some ⟨g,0,none⟩) xs.length cap/\v.ownBlock=some g/\w.cell? ⟨g,i,none⟩=some (xs[i])/\w.frozen? ⟨g,i,none⟩=false:=by
 rcases h.2 with ⟨rfl,hn⟩ | ⟨g,cap,cur,rfl,_,hg,_,_,_,ht⟩
 ·omega
 ·refine⟨g,cap,rfl,rfl,?_,af.free (cur:=cur) hg i⟩
  have h1:=af.cell (w:=w) (g:=g) (cur:=cur) (e:=e) hg i;rw[h1];have h2:(cur.toList.take xs.length)[i]? = xs[i]?:=by rw[show cur.toList.take xs.length=xs from by simpa using ht]
  rw[List.getElem?_take_of_lt hi,List.getElem?_eq_getElem hi] at h2
  simpa using h2
theorem Row.at_ {w:World} {g n cap:Nat} {e:TypeId} {xs:List Value} (h:Row w (.slice (some ⟨g,0,none⟩) n cap) e xs) (i:Nat) (hi:i<xs.length):
  w.cell? ⟨g,i,none⟩=some (xs[i])/\w.frozen? ⟨g,i,none⟩=false:=by
 obtain⟨g',c',he,_,h1,h2⟩:=h.cell i hi;simp at he
 obtain⟨rfl,_⟩:=he;exact⟨h1,h2⟩
theorem Row.ne {w:World} {v:Value} {e e':TypeId} {xs:List Value} {k:Nat} {cur:Array Value} (h:Row w v e xs) (hb:af w k cur e') (hne:e≠e'):v.ownBlock≠some k:=by
 intro hk;obtain⟨cur',hb',_⟩:=h.blk hk;exact hne (hb'.inj hb).2
theorem app1 {w w1:World} {e:TypeId} {v v' x:Value} {xs:List Value} (h1:w1.ownsRow 0 e 1 v' (xs.length+1) (xs++[x]))
  (hg:(w.alloc (.cells #[x] e)).grownBy w1 v.ownBlock) (hat:v'.ownBlock=v.ownBlock\/v'.ownBlock=some (w.alloc (.cells #[x] e)).heap.size):
  ∃g cap,v'= .slice (some ⟨g,0,none⟩) (xs.length+1) cap/\Row w1 v' e (xs++[x])/\Fr (fun k=>v.ownBlock=some k) w w1/\(v.ownBlock=some g\/g=w.heap.size+1)/\g<w1.heap.size:=by
 have hr:Row w1 v' e (xs++[x]):=by unfold Row;simpa using h1
 have hfr:Fr (fun k=>v.ownBlock=some k) w w1:=((Fr.refl (fun k=>v.ownBlock=some k) w).alloc (.cells #[x] e)).grown hg (fun k hk=>.inl hk)
 rcases h1.2 with ⟨_,hn⟩ | ⟨g,cap,cur,rfl,_,hgg,_⟩
 ·omega
 ·refine⟨g,cap,rfl,hr,hfr,?_,lt_of_block hgg⟩
  rcases hat with hat | hat
  ·exact .inl hat.symm
  ·right
   simpa[Value.ownBlock] using hat
theorem Tryz.jU:(Tryz.prog.info? 3).map (fun i=>(i.zero,i.size,i.bytes))=some (some (.int .i64 0),1,8):=by kernel_rfl
theorem Tryz.Gx:(Tryz.prog.info? 3).map (·.size)=some 1:=by kernel_rfl
set_option maxRecDepth 1000000 in
theorem qW (ao bo:Option Addr) (ca cb:Nat) (xs:List Int) (w:World) (hx:xs.length*8<=140737488355328)
  (ha:ax w ao xs) (hb:ax w bo xs):
  Calls Tryz.prog 33 #[.slice ao xs.length ca,.slice bo xs.length cb] w fun e w'=>e= .returned (.bool true)/\∃n,w'=w.drewN n:=by
 go_enter Tryz.func33,Tryz.ntmps33
 go_wp2
 go_loopw [5] (fun i wr=>∃k:Nat,k<=xs.length/\i= .int .i64 k/\∃n,wr=w.drewN n) (fun i _=>xs.length-(intOf i).toNat)
 case atStart=>exact⟨0,Nat.zero_le _,rfl,0,rfl⟩
 case round=>
  obtain⟨k,hk,rfl,n,rfl⟩:=hrel;by_cases hlt:k<xs.length
  ·obtain⟨b1,o1,rfl,_,h1⟩:=ha k hlt;obtain⟨b2,o2,rfl,_,h2⟩:=hb k hlt;clear ha hb;go_wp2
   go_quiet (fail)
   go_wp2
   go_roundw
   case rel=>exact⟨k+1,by omega,by go_num,_,rfl⟩
   case measure=>simp[intOf];omega
  ·go_wp2
   go_ret
   exact⟨rfl,n,rfl⟩
theorem qX {w:World} {base n:Nat} {e:TypeId} {g:Nat} {xs:List Value} (h:w.ownsRow base e 1 (.slice (some ⟨g,0,none⟩) n n) n xs):af w g xs.toArray e:=by
 obtain⟨hl,h2⟩:=h;rcases h2 with ⟨h2,_⟩ | ⟨g',cap,cur,hv,_,hh,hn,_,hs,ht⟩
 ·cases h2
 ·cases hv;have:cur.toList=xs:=by rw[<-ht,List.take_of_length_le (by simp;omega)]
  have h3:cur=xs.toArray:=by rw[<-this]
  rw[h3] at hh;exact hh
theorem OM {w w1:World} {n:Nat} {z:Value} (hown:w1.ownsRow w.heap.size 3 1 (.slice (some ⟨w.heap.size,0,none⟩) n n) n (madeCells z.cells (n*1)).toList) (hgrow:w.grownBy w1 none):
  ∃L:List Value,L.length=n/\af w1 w.heap.size L.toArray 3/\Below w.heap.size w w1:=
 ⟨_,by have:=hown.1;omega,qX hown,((Fr.refl (fun _=>False) w).grown hgrow (fun k e=>by cases e)).below⟩
theorem Rw {w w1:World} {ao:Option Addr} {zs:List Int} (h:ax w ao zs) (hb:Below w.heap.size w w1):
  0<(zs.map (Value.int .i64)).length->∃ad,ao=some ad/\∀(j:Nat) (v:Value),(zs.map (Value.int .i64))[j]? = some v->w1.cell? (ad.add j)=some v:=by
 intro hp;simp at hp
 obtain⟨b,o,rfl,hlt,_⟩:=h 0 hp;refine⟨⟨b,o,none⟩,rfl,fun j v hj=>?_⟩
 have hj':j<zs.length:=by
  have:=(List.getElem?_eq_some_iff.1 hj).1
  simpa using this
 obtain⟨b',o',he,_,hc⟩:=h j hj';cases he;rw[show (⟨b,o,none⟩:Addr).add j=⟨b,o+j,none⟩ from by simp[Addr.add],hb.cell (p:=⟨b,o+j,none⟩) hlt,hc]
 rw[List.getElem?_map,List.getElem?_eq_getElem hj'] at hj
 simp at hj
 simp[<-hj,hj']
theorem OQ (zs:List Int) (L:List Value) (hL:L.length=zs.length+1):
  (splice L 0 (zs.map (Value.int .i64))).toArray.setIfInBounds zs.length (.int .i64 78)=((zs++[78]).map (Value.int .i64)).toArray:=by
 obtain⟨x,hx⟩:∃x,L.drop zs.length=[x]:=by
  match h:L.drop zs.length with
  | []=>have:=congrArg List.length h;simp at this;omega
  | [x]=>exact⟨x,rfl⟩
  | _::_::_=>have:=congrArg List.length h;simp at this;omega
 have:splice L 0 (zs.map (Value.int .i64))=zs.map (Value.int .i64)++[x]:=by simp[splice,hx]
 rw[this];simp
set_option maxRecDepth 1000000 in
theorem qY (ao:Option Addr) (cap:Nat) (zs:List Int) (w:World) (hz:zs.length*8<=140737488355328) (h:ax w ao zs):
  Calls Tryz.prog 14 #[.slice ao zs.length cap] w fun e w'=>
   e= .returned (.slice (some ⟨w.heap.size,0,none⟩) (zs.length+1) (zs.length+1))/\Nw w w'/\af w' w.heap.size ((zs++[78]).map (Value.int .i64)).toArray 3:=by
 obtain⟨i0,hi,hz0,hz1,hz2⟩:=info_parts Tryz.jU;have HI:=Tryz.Gx;go_enter Tryz.func14,Tryz.ntmps14
 go_wp2_with (first
  | (at_make;refine wpList_make_full _ rfl _ _ 22 rfl w.heap.size 3 i0 (.int .i64 0) 1 Tryz.underlying22 hi hz0 hz1 .i64 .i64 _ _ (zs.length+1) rfl rfl (by go_num) (by go_num) (by rw[hz2];omega) (by unfold maxLen;omega) (Nat.le_refl _) ?_;intro w1 hown hgrow;obtain⟨L,hL,hblk,hbel⟩:=OM hown hgrow;have hsrc:=hd (Rw h hbel);clear hown hgrow hi hz0 hz1 hz2)
  | (refine wpList_copy_splice (by rfl) (.tmp 8) (.tmp 9) 22 22 (by rfl) 3 Tryz.underlying22 HI (some ⟨w.heap.size,0,none⟩) ao (zs.length+1) (zs.length+1) zs.length cap (by rfl) (by rfl) w.heap.size 0 L 3 hblk (zs.map (Value.int .i64)) (by simp) (fun hp=>⟨rfl,hsrc.out hp⟩) (by simp;omega) (ints_oneCell _ _) w.heap.size w hbel (Nat.le_refl _) ?_;intro w2 hg2 hb2;have hg3:=hd (show af w2 w.heap.size _ _ from hg2.out);have hf3:=hg3.out.free zs.length;have hc3:w2.cell? ⟨w.heap.size,zs.length,none⟩=some _:=(hg3.out.cell zs.length).trans (Array.getElem?_eq_getElem (by simp[length_splice,hL]))))
 go_ret
 refine⟨rfl,(Fr.of_below hb2).setCell _ _ (.inr (Nat.le_refl _)),?_⟩
 have h4:=hg3.out.set zs.length (.int .i64 78);rw[OQ zs L hL] at h4;exact h4
theorem clone_src {w:World} {b o:Nat} {zs:List Int} (h:ax w (some ⟨b,o,none⟩) zs) (ob:Obj):
  ∀(j:Nat) (v:Value),(zs.map (Value.int .i64))[j]? = some v->(w.alloc ob).cell? ((⟨b,o,none⟩:Addr).add j)=some v:=by
 intro j v hj;have hj':j<zs.length:=by
  have:=(List.getElem?_eq_some_iff.1 hj).1
  simpa using this
 obtain⟨b',o',he,hlt,hc⟩:=h j hj';cases he;rw[show (⟨b,o,none⟩:Addr).add j=⟨b,o+j,none⟩ from by simp[Addr.add],Fr.cell ((Fr.refl (fun _=>False) w).alloc ob) hlt (fun x=>x),hc]
 rw[List.getElem?_map,List.getElem?_eq_getElem hj'] at hj
 simp at hj
 simp[<-hj,hj']
theorem clone_end {w w1:World} {e:TypeId} {v':Value} {n:Nat} {xs:List Value} (hx:0<n) (hn:xs.length=n) (h1:w1.ownsRow 0 e 1 v' (0+n) ([]++xs))
  (hg:(w.alloc (.cells #[] e)).grownBy w1 (Value.slice (some ⟨w.heap.size,0,none⟩) 0 0).ownBlock)
  (hat:v'.ownBlock=(Value.slice (some ⟨w.heap.size,0,none⟩) 0 0).ownBlock\/v'.ownBlock=some (w.alloc (.cells #[] e)).heap.size):
  ∃g cap,v'= .slice (some ⟨g,0,none⟩) n cap/\Nw w w1/\Row w1 v' e xs/\w.heap.size<=g:=by
 subst hn;have hr:Row w1 v' e xs:=by unfold Row;simpa using h1
 have hfr:Nw w w1:=((Fr.refl _ w).alloc (.cells #[] e)).grown hg (fun k hk=>.inr (by cases hk;exact Nat.le_refl _))
 rcases h1.2 with ⟨_,hn⟩ | ⟨g,cap,cur,rfl,_⟩
 ·omega
 ·refine⟨g,cap,by simp,hfr,hr,?_⟩
  rcases hat with hat | hat
  ·simp[Value.ownBlock] at hat;omega
  ·simp[Value.ownBlock] at hat;omega
set_option maxRecDepth 1000000 in
theorem clone_any (b o:Nat) (cap:Nat) (zs:List Int) (w:World) (hz:zs.length*8<=140737488355328) (h0:0<zs.length) (h:ax w (some ⟨b,o,none⟩) zs):
  Calls Tryz.prog 21 #[.slice (some ⟨b,o,none⟩) zs.length cap] w fun e w'=>
   ∃g cap',e= .returned (.slice (some ⟨g,0,none⟩) zs.length cap')/\Nw w w'/\Row w' (.slice (some ⟨g,0,none⟩) zs.length cap') 3 (zs.map (Value.int .i64))/\w.heap.size<=g:=by
 obtain⟨i0,hi,hz0,hz1,hz2⟩:=info_parts Tryz.jU;have heq:=fun (w:World) a n c=>Lib.run_eql_slice_nil (P:=Tryz.prog) w 22 3 a n c 0 0 Tryz.underlying22
 go_enter Tryz.func21,Tryz.ntmps21
 have hsrc:=hd (clone_src h (.cells #[] 3));clear h;go_wp2_with (at_builtin;refine wpList_append_own_at _ rfl _ _ 22 rfl 0 3 i0 (.int .i64 0) 1 8 Tryz.underlying22 hi hz0 hz1 hz2 rfl (by decide) _ 0 [] rfl (World.ownsRow_made w #[] 0 (Nat.zero_le _) (Nat.zero_le _) rfl) ⟨b,o,none⟩ zs.length cap (zs.map (Value.int .i64)) rfl (by simp) hsrc.out (ints_oneCell _ _) (by unfold maxLen;omega) (by omega) (Nat.zero_le _) ?_;intro v' w1 hown' hgrow _ hat;obtain⟨g',cap',rfl,hf1,hr1,hg1⟩:=clone_end h0 (by simp) hown' hgrow hat;clear hown' hgrow hat)
 go_ret
 exact⟨g',cap',rfl,hf1,hr1,hg1⟩
theorem below_any (n:Nat) (w:World) (h:n<=6):
  Calls Tryz.prog 22 #[.int .i64 n] w fun e w'=>e= .returned (.int .u8 (2^n-1:Nat))/\w'=w:=by
 match n,h with
 | 0,_ | 1,_ | 2,_ | 3,_ | 4,_ | 5,_ | 6,_=>
  go_enter Tryz.func22,Tryz.ntmps22
  go_wp2
  go_ret
  exact⟨rfl,rfl⟩
def kY (z:Int):Bool:=decide (1<=z/\z<=6)
def di (zs:List Int):Bool:=decide (1<=zs.length/\zs.length<=8)&&zs.all kY
structure Rest where
 bC:Value
 starts:Value
 busy:Bool
def vS:Rest:=⟨.slice none 0 0,.slice none 0 0,false⟩
def ah (az:Value) (d:List Nat) (tv:Value) (l:Rest):Array Value:=(az::(d.map (fun (x:Nat)=>Value.int .u8 (x:Int))++[tv,l.bC,l.starts,.bool l.busy])).toArray
def fM (zs:List Int) (k:Nat):List Nat:=(zs.take k).map (fun z=>2^z.toNat-1)++List.replicate (8-k) 0
theorem oK (zs:List Int) (k:Nat) (hk:k<=zs.length) (h8:zs.length<=8):(fM zs k).length=8:=by simp[fM];omega
theorem Ah (az:Value) (d:List Nat) (tv:Value) (l:Rest):(ah az d tv l).size=d.length+5:=by simp[ah]
theorem CX (az:Value) (d:List Nat) (tv:Value) (l:Rest) (i x:Nat) (hi:i<d.length):
  (ah az d tv l).setIfInBounds (1+i) (.int .u8 (x:Int))=ah az (d.set i x) tv l:=by
 rw[Nat.add_comm];simp[ah,hi,List.map_set]
theorem Gy (zs:List Int) (k:Nat) (hk:k<zs.length) (h8:zs.length<=8):(fM zs k).set k (2^(zs.getD k 0).toNat-1)=fM zs (k+1):=by
 have h1:∀m,8-k=m+1->List.replicate (8-k) 0=0::List.replicate m 0:=by
  intro m hm;rw[hm];rfl
 obtain⟨m,hm⟩:∃m,8-k=m+1:=⟨8-(k+1),by omega⟩
 simp only[fM];rw[h1 m hm,show 8-(k+1)=m from by omega,List.set_append_right _ _ (by simp;omega)]
 have h3:zs.take (k+1)=zs.take k++[zs[k]]:=List.take_succ_eq_append_getElem hk;rw[h3,List.map_append,List.append_assoc];congr 1
 simp[Nat.min_eq_left (Nat.le_of_lt hk),hk]
set_option maxRecDepth 1000000 in
theorem WI (ao:Option Addr) (cap n:Nat) (w:World) (hn:n*8<=140737488355328) (h:n<1\/8<n):
  Calls Tryz.prog 10 #[.slice ao n cap] w fun e w'=>e= .returned (.tuple #[.pointer none,.int .i64 1])/\w'=w:=by
 rcases h with h | h
 ·obtain rfl:n=0:=by omega
  go_enter Tryz.func10,Tryz.ntmps10
  go_wp2
  go_ret2
  exact⟨rfl,rfl⟩
 ·go_enter Tryz.func10,Tryz.ntmps10
  go_wp2
  go_ret2
  exact⟨rfl,rfl⟩
set_option maxRecDepth 1000000 in
theorem new_any (b o:Nat) (cap:Nat) (zs:List Int) (w:World) (h1:1<=zs.length) (h8:zs.length<=8) (h:ax w (some ⟨b,o,none⟩) zs):
  Calls Tryz.prog 10 #[.slice (some ⟨b,o,none⟩) zs.length cap] w fun e w'=>
   Nw w w'/\((di zs=true/\∃B az,e= .returned (.tuple #[.pointer (some ⟨B,0,none⟩),.int .i64 0])/\af w' B (ah az (fM zs zs.length) (.slice none 0 0) vS) 66 /\
     Row w' az 3 (zs.map (Value.int .i64))/\w.heap.size<=B/\(∀k,az.ownBlock=some k->w.heap.size<=k)) \/
    (di zs=false/\e= .returned (.tuple #[.pointer none,.int .i64 1]))):=by
 go_enter Tryz.func10,Tryz.ntmps10
 go_wp2_with (go_at_call 21;refine(clone_any _ _ _ zs _ (by omega) (by omega) h).mono ?_;rintro e w1 ⟨g,cap',rfl,hf1,hr1,hg1⟩)
 have hB0:af (w1.alloc (.cells #[.slice (some ⟨g,0,none⟩) zs.length cap',.int .u8 0,.int .u8 0,.int .u8 0,.int .u8 0,.int .u8 0,.int .u8 0,.int .u8 0,.int .u8 0,.slice none 0 0,.slice none 0 0,.slice none 0 0,.bool false] 66)) w1.heap.size (ah (.slice (some ⟨g,0,none⟩) zs.length cap') (fM zs 0) (.slice none 0 0) vS) 66:=af.new _ _ _;have DJ:=hf1.alloc (.cells #[.slice (some ⟨g,0,none⟩) zs.length cap',.int .u8 0,.int .u8 0,.int .u8 0,.int .u8 0,.int .u8 0,.int .u8 0,.int .u8 0,.int .u8 0,.slice none 0 0,.slice none 0 0,.slice none 0 0,.bool false] 66);have hR0:=hr1.alloc (.cells #[.slice (some ⟨g,0,none⟩) zs.length cap',.int .u8 0,.int .u8 0,.int .u8 0,.int .u8 0,.int .u8 0,.int .u8 0,.int .u8 0,.int .u8 0,.slice none 0 0,.slice none 0 0,.slice none 0 0,.bool false] 66);have hle:=hf1.size;have hgl:g<w1.heap.size:=hr1.lt rfl;clear h;generalize hX:w1.alloc (.cells #[.slice (some ⟨g,0,none⟩) zs.length cap',.int .u8 0,.int .u8 0,.int .u8 0,.int .u8 0,.int .u8 0,.int .u8 0,.int .u8 0,.int .u8 0,.slice none 0 0,.slice none 0 0,.slice none 0 0,.bool false] 66)=X at *
 clear hX hf1 hr1;generalize w1.heap.size=B at *
 go_loopw [24] (fun i wr=>∃k:Nat,k<=zs.length/\i= .int .i64 k/\Hid (af wr B (ah (.slice (some ⟨g,0,none⟩) zs.length cap') (fM zs k) (.slice none 0 0) vS) 66)/\Nw w wr/\Row wr (.slice (some ⟨g,0,none⟩) zs.length cap') 3 (zs.map (Value.int .i64))/\(zs.take k).all kY=true) (fun i _=>zs.length-(intOf i).toNat)
 case atStart=>exact⟨0,Nat.zero_le _,rfl,hB0,DJ,hR0,by simp⟩
 case round=>
  obtain⟨k,hk,rfl,hb,hf,hr,hall⟩:=hrel;have xX:=hd hall;clear hall hB0 DJ hR0;by_cases hlt:k<zs.length
  ·obtain⟨hcell,_⟩:=hr.at_ k (by simpa using hlt)
   simp only[List.getElem_map] at hcell;by_cases hok:kY zs[k]=true
   ·have hok2:1<=zs[k]/\zs[k]<=6:=by simpa[kY] using hok
    obtain⟨z,hz⟩:∃z:Nat,zs[k]=(z:Int):=⟨zs[k].toNat,by omega⟩
    rw[hz] at hcell hok2;obtain⟨hz1,hz6⟩:=hok2;have Hz:=hd hz;have qU:=hd hok;clear hz hok;have hi0:(0:Int)<=(k:Int):=by omega
    have hi8:(k:Int)<8:=by omega
    have hfz:=hb.out.free (1+k);obtain⟨x,hcd⟩:∃x,wr.cell? ⟨B,1+k,none⟩=some x:=⟨_,(hb.out.cell _).trans (Array.getElem?_eq_getElem (by rw[Ah,oK zs k hk h8];omega))⟩
    go_wp2
    go_region_held3 (fun w'=>True) (trivial) (first | (go_at_call 22;refine(below_any z _ (by omega)).mono ?_;rintro e w' ⟨rfl,rfl⟩))
    go_wp2
    have hne:B≠g:=by omega
    go_roundw
    case rel=>
     refine⟨k+1,by omega,by go_num,?_,(hf.setCell _ _ (.inr hle)).drew,?_,?_⟩
     ·have h5:=hb.out.set (1+k) (.int .u8 ((2^z-1:Nat):Int));rw[CX _ _ _ _ _ _ (by rw[oK zs k hk h8];omega)] at h5
      have h6:=Gy zs k hlt h8;rw[show (zs.getD k 0).toNat=z from by simp[hlt,Hz.out]] at h6
      rw[h6] at h5;exact h5.drew
     ·exact(hr.fr ((Fr.refl (fun j=>j=B) wr).setCell ⟨B,1+k,none⟩ _ (.inl rfl)) (fun j hj e=>by cases hj;exact hne e.symm)).drew
     ·rw[List.take_succ_eq_append_getElem hlt,List.all_append,xX.out];simp[qU.out]
    case measure=>simp[intOf];omega
   ·have hok2:¬(1<=zs[k]/\zs[k]<=6):=by simpa[kY] using hok
    have hfin:di zs=false:=by
     have:zs.all kY=false:=by
      rw[List.all_eq_false];exact⟨zs[k],List.getElem_mem hlt,hok⟩
     simp[di,this]
    have fQ:=hd hfin;clear hfin hok;go_wp2
    all_goals (go_ret2;exact⟨hf,.inr ⟨fQ.out,rfl⟩⟩)
  ·obtain rfl:k=zs.length:=by omega
   go_wp2
   go_ret2
   refine⟨hf,.inl ⟨?_,B,_,rfl,hb.out,hr,hle,fun j hj=>by cases hj;exact hg1⟩⟩
   have:=xX.out
   rw[List.take_length] at this;simp only[di,this,Bool.and_true,decide_eq_true_eq];omega
def tz (s:Nat):Nat:=((List.range 8).find? (fun i=>s.testBit i)).getD 8
def pop (s:Nat):Nat:=((List.range 8).filter (fun i=>s.testBit i)).length
theorem tab (T:ByteArray) (f:Nat->Nat) (n:Nat) (hT:∀i:Fin n,(T.data[i.val]!).toNat=f i.val/\f i.val<256) (s:Nat) (h:s<n) (p:s<T.size):wrap64 ((T[s]'p).toNat:Int)=(f s:Int):=by
 have h1:=hT ⟨s,h⟩;have h2:T[s]'p=T.data[s]!:=by
  have:s<T.data.size:=p
  rw[getElem!_pos T.data s this];rfl
 rw[h2,h1.1];have:=h1.2
 simp only[wrap64];simp at this
 omega
set_option maxRecDepth 1000000 in
theorem Rx (s:Nat) (w:World) (h:s<256):
  Calls Tryz.prog 76 #[.int .u8 s] w fun e w'=>e= .returned (.int .i64 (tz s))/\w'=w:=by
 go_enter Tryz.func76,Tryz.ntmps76
 go_wp2
 go_ret
 refine⟨congrArg (fun z=>Ending.returned (.int .i64 z)) ?_,rfl⟩
 exact tab _ tz 256 (by decide +kernel) s h _
set_option maxRecDepth 1000000 in
theorem pop_any (s:Nat) (w:World) (h:s<256):
  Calls Tryz.prog 75 #[.int .u8 s] w fun e w'=>e= .returned (.int .i64 (pop s))/\w'=w:=by
 go_enter Tryz.func75,Tryz.ntmps75
 go_wp2
 go_ret
 refine⟨congrArg (fun z=>Ending.returned (.int .i64 z)) ?_,rfl⟩
 exact tab _ pop 256 (by decide +kernel) s h _
theorem one_any (v:Nat) (w:World) (h:v<=6):
  Calls Tryz.prog 32 #[.int .i64 v] w fun e w'=>e= .returned (.int .u8 (2^v:Nat))/\w'=w:=by
 match v,h with
 | 0,_ | 1,_ | 2,_ | 3,_ | 4,_ | 5,_ | 6,_=>
  go_enter Tryz.func32,Tryz.ntmps32
  go_wp2
  go_ret
  exact⟨rfl,rfl⟩
theorem bears_any (a v:Int) (w:World):
  Calls Tryz.prog 88 #[.int .i64 a,.int .i64 v] w fun e w'=>e= .returned (.bool (a == -1 || a==v))/\w'=w:=by
 by_cases h:a=-1
 ·subst h;go_enter Tryz.func88,Tryz.ntmps88
  go_wp2
  go_ret
  exact⟨rfl,rfl⟩
 ·have hb:(a == -1)=false:=by simpa using h
  go_enter Tryz.func88,Tryz.ntmps88
  go_wp2
  go_ret
  exact⟨by simp[hb],rfl⟩
theorem len_any (s:Nat) (w:World) (h:s<256):
  Calls Tryz.prog 48 #[.int .u8 s] w fun e w'=>e= .returned (.int .i64 (pop s))/\w'=w:=by
 go_enter Tryz.func48,Tryz.ntmps48
 go_wp2_with (go_at_call 75;refine(pop_any s _ h).mono ?_;rintro e w' ⟨rfl,rfl⟩)
 go_ret
 exact⟨rfl,rfl⟩
def firstAt {α:Type} [BEq α] (x:α):List α->Nat->Int
 | [],_=>-1
 | y::l,k=>if x==y then (k:Int) else firstAt x l (k+1)
theorem CY (b o cap:Nat) (xs:List Bool) (w:World) (hl:xs.length<=1000)
  (hc:∀i,i<xs.length->w.cell? ⟨b,o+i,none⟩=some (.bool (xs.getD i false))):
  Calls Tryz.prog 44 #[.slice (some ⟨b,o,none⟩) xs.length cap,.bool true] w fun e w'=>e= .returned (.int .i64 (firstAt true xs 0))/\w'=w:=by
 go_enter Tryz.func44,Tryz.ntmps44
 go_wp2
 go_loop [8] (fun i=>∃k:Nat,k<=xs.length/\i= .int .i64 k/\Hid (firstAt true xs 0=firstAt true (xs.drop k) k)) (fun i=>xs.length-(intOf i).toNat)
 case atStart=>exact⟨0,Nat.zero_le _,rfl,rfl⟩
 case round=>
  obtain⟨k,hk,rfl,HF⟩:=hrel;by_cases hlt:k<xs.length
  ·have h1:=hc k hlt;have h2:xs.drop k=xs[k]::xs.drop (k+1):=(List.getElem_cons_drop hlt).symm;have H2:=hd h2;clear h2 hc;cases hx:xs.getD k false with
   | true=>
    rw[hx] at h1;have h3:xs[k]=true:=by simpa[hlt] using hx
    have H3:=hd h3;clear hx h3;go_wp2
    go_ret
    refine⟨?_,rfl⟩
    rw[HF.out,H2.out,H3.out];rfl
   | false=>
    rw[hx] at h1;have h3:xs[k]=false:=by simpa[hlt] using hx
    have H3:=hd h3;clear hx h3;go_wp2
    exact⟨⟨k+1,by omega,by go_num,by show _=_;rw[HF.out,H2.out,H3.out];rfl⟩,by simp[intOf];omega⟩
  ·go_wp2
   go_ret
   refine⟨?_,rfl⟩
   rw[HF.out,List.drop_eq_nil_of_le (by omega)]
   rfl
theorem EM (b o cap:Nat) (xs:List Nat) (w:World) (hl:xs.length<=1000)
  (hc:∀i,i<xs.length->w.cell? ⟨b,o+i,none⟩=some (.int .u8 (xs.getD i 0:Nat))):
  Calls Tryz.prog 89 #[.slice (some ⟨b,o,none⟩) xs.length cap,.int .u8 0] w fun e w'=>e= .returned (.int .i64 (firstAt 0 xs 0))/\w'=w:=by
 go_enter Tryz.func89,Tryz.ntmps89
 go_wp2
 go_loop [8] (fun i=>∃k:Nat,k<=xs.length/\i= .int .i64 k/\Hid (firstAt 0 xs 0=firstAt 0 (xs.drop k) k)) (fun i=>xs.length-(intOf i).toNat)
 case atStart=>exact⟨0,Nat.zero_le _,rfl,rfl⟩
 case round=>
  obtain⟨k,hk,rfl,HF⟩:=hrel;by_cases hlt:k<xs.length
  ·have h1:=hc k hlt;have h2:xs.drop k=xs[k]::xs.drop (k+1):=(List.getElem_cons_drop hlt).symm;have H2:=hd h2;clear h2 hc;obtain⟨x,hx⟩:∃x,xs.getD k 0=x:=⟨_,rfl⟩;rw[hx] at h1;have h3:xs[k]=x:=by simpa[hlt] using hx
   have H3:=hd h3;clear hx h3;by_cases h0:x=0
   ·subst h0;go_wp2
    go_ret
    refine⟨?_,rfl⟩
    rw[HF.out,H2.out,H3.out];rfl
   ·have h0':((0:Int)==(x:Int))=false:=by simp;omega
    go_wp2
    refine⟨⟨k+1,by omega,by go_num,?_⟩,by simp[intOf];omega⟩
    show _=_
    rw[HF.out,H2.out,H3.out];simp[firstAt,show ¬(0=x) from fun e=>h0 e.symm]
  ·go_wp2
   go_ret
   refine⟨?_,rfl⟩
   rw[HF.out,List.drop_eq_nil_of_le (by omega)]
   rfl
theorem qZ {α:Type} [BEq α] [LawfulBEq α] (x:α):∀(l:List α) (k:Nat),decide (0<=firstAt x l k)=l.contains x
 | [],k=>by simp[firstAt]
 | y::l,k=>by
  simp only[firstAt,List.contains_cons];by_cases h:x==y
  ·simp[h]
  ·simp[h,qZ x l (k+1)]
theorem zI (b o cap:Nat) (xs:List Nat) (w:World) (hl:xs.length<=1000)
  (hc:∀i,i<xs.length->w.cell? ⟨b,o+i,none⟩=some (.int .u8 (xs.getD i 0:Nat))):
  Calls Tryz.prog 70 #[.slice (some ⟨b,o,none⟩) xs.length cap,.int .u8 0] w fun e w'=>e= .returned (.bool (xs.contains 0))/\w'=w:=by
 go_enter Tryz.func70,Tryz.ntmps70
 go_wp2_with (go_at_call 89;refine(EM _ _ _ xs _ hl hc).mono ?_;rintro e w' ⟨rfl,rfl⟩)
 go_ret
 exact⟨by rw[<-qZ 0 xs 0];rfl,rfl⟩
end Go.Proofs.YtkjfpdfkcfgfkaaGreat
namespace Go.Proofs.YtkjfpdfkcfgfkaaGreat
open Go.RowKit Go.Shelf
attribute [local go_sem] Oper.semAt_some
def vals (s:Nat):List Nat:=(List.range 8).filter (fun i=>s.testBit i)
theorem Ry:∀s:Fin 256,s.val≠0->vals s.val=tz s.val::vals (s.val &&& (s.val-1))/\s.val &&& (s.val-1)<s.val/\tz s.val<8:=by decide +kernel
theorem DK (s:Nat) (h:s<256) (h0:s≠0):vals s=tz s::vals (s &&& (s-1))/\s &&& (s-1)<s/\tz s<8:=Ry ⟨s,h⟩ h0
theorem sJ:vals 0=[]:=by decide
theorem WJ (n s l:Nat) (hs:s<256) (J:List Nat->World->Prop) (W:World) (h0:J [] W)
  (hY:∀(pre:List Nat) (v:Nat) (W1:World),J pre W1->(pre++[v]) <+: vals s->YieldAt Fence.wide (n-1) Tryz.prog l #[.int .i64 (v:Int)] W1 fun e W'=>e= .returned (.bool true)/\J (pre++[v]) W'):
  CallsIn Fence.wide n Tryz.prog 49 #[.int .u8 s,.func (.yield l) #[] #[]] W fun e W'=>(∃v,e= .returned v)/\J (vals s) W':=by
 refine callsIn_of_wp Tryz.func49 rfl trivial ?_ rfl
 simp only[Tryz.ntmps49,List.size_toArray,List.length_cons,List.length_nil,Nat.reduceAdd,Nat.reduceSub,Array.replicate_succ,Array.replicate_zero,List.push_toArray,List.append_toArray,List.nil_append,List.cons_append];gi_wp2
 gi_loopw [4] (fun p wr=>∃(pre:List Nat) (r:Nat),p= .int .u8 r/\r<256/\Hid (pre++vals r=vals s)/\J pre wr) (fun p _=>(intOf p).toNat)
 case atStart=>exact⟨[],s,rfl,hs,rfl,h0⟩
 case round=>
  obtain⟨pre,r,rfl,hr,HP,hJ⟩:=hrel;by_cases hr0:r=0
  ·subst hr0;gi_wp2
   go_end0
   exact⟨⟨_,rfl⟩,by have:=HP.out;rw[sJ,List.append_nil] at this;rw[<-this];exact hJ⟩
  ·obtain⟨hv1,hv2,hv3⟩:=DK r hr hr0;have hpos:(0:Int)<(r:Int):=by omega
   have hr1:((r:Int) != 0)=true:=by simp;omega
   obtain⟨fn,tmps,assign,body,hy,hR⟩:=hY pre (tz r) wr hJ ⟨vals (r &&& (r-1)),by rw[<-HP.out,hv1];simp⟩
   have HV:=hd hv1;clear hv1;gi_wp2_with fail
   refine⟨trivial,(fun h=>by cases h),?_⟩
   refine(callsIn_wide.2 (Rx r _ hr)).mono ?_
   rintro e w' ⟨rfl,rfl⟩
   gi_wp2_with fail
   refine⟨(fun h=>by cases h),?_⟩
   refine hR.mono ?_
   rintro e W3 ⟨rfl,hJ3⟩
   gi_wp2
   have e1:bits .and .u8 (r:Int) ((r:Int)-1)=((r &&& (r-1):Nat):Int):=by
    have:=u8_and_nat r (r-1) (by omega) (by omega)
    rw[<-this,show (((r-1:Nat):Int))=(r:Int)-1 from by omega]
   rw[e1];refine⟨⟨pre++[tz r],r &&& (r-1),rfl,by omega,?_,hJ3⟩,by simp[intOf];omega⟩
   show _=_
   rw[<-HP.out,HV.out];simp
def Bk (lo:Nat) (A B:World):Prop:=∃row,A.grownBy B row/\∀r,row=some r->lo<=r/\∃o:Obj,A.heap[r]? = some o/\o.isCells=false
theorem Bk.alloc (lo:Nat) (A:World) (o:Obj):Bk lo A (A.alloc o):=⟨none,World.grownBy_alloc A o none,fun r h=>by cases h⟩
theorem Bk.put {lo:Nat} {A:World} {l:Nat} {o:Obj} (o':Obj) (hB:lo<=l) (hl:A.heap[l]? = some o) (ho:o.isCells=false):Bk lo A (A.putObj l o'):=
 ⟨some l,grownBy_putObj' A l o',fun r e=>by cases e;exact⟨hB,o,hl,ho⟩⟩
theorem af.bk {lo:Nat} {A B:World} {g:Nat} {cur:Array Value} {e:TypeId} (h:af A g cur e) (hb:Bk lo A B):af B g cur e:=by
 obtain⟨row,hg,hr⟩:=hb;refine(hg.block g h.lt (fun e'=>?_)).trans h
 obtain⟨_,o,ho,hc⟩:=hr g e'.symm;have h':A.heap[g]? = some (.cells cur e (0,0)):=h
 rw[h'] at ho;cases ho;cases hc
theorem Fr.bk {S:Nat->Prop} {lo:Nat} {w A B:World} (h:Fr S w A) (hb:Bk lo A B) (hl:w.heap.size<=lo):Fr S w B:=by
 obtain⟨row,hg,hr⟩:=hb;exact h.grown hg (fun k hk=>.inr (Nat.le_trans hl (hr k hk).1))
theorem Row.bk {lo:Nat} {A B:World} {v:Value} {e:TypeId} {xs:List Value} (h:Row A v e xs) (hb:Bk lo A B):Row B v e xs:=by
 refine⟨h.1,?_⟩
 rcases h.2 with h2 | ⟨g,cap,cur,rfl,hbb,hg,r⟩
 ·exact .inl h2
 ·exact .inr ⟨g,cap,cur,rfl,hbb,af.bk (lo:=lo) hg hb,r⟩
def kV:Obj->Bool
 | .loop _=>true
 | .deferred _=>true
 | _=>false
structure jV (W W':World):Prop where
 size:W.heap.size<=W'.heap.size
 same:∀(k:Nat) (o:Obj),W.heap[k]? = some o->kV o=true->W'.heap[k]? = some o
theorem jV.trans {A B C:World} (h:jV A B) (k:jV B C):jV A C:=⟨Nat.le_trans h.size k.size,fun i o ho hl=>k.same i o (h.same i o ho hl) hl⟩
theorem Fr.rq {S:Nat->Prop} {A B:World} (h:Fr S A B) (hs:∀k,S k->∃o,A.heap[k]? = some o/\kV o=false):jV A B:=
 ⟨h.size,fun k o ho hc=>(h.block k (lt_of_block ho) (fun hk=>by
  obtain⟨o',ho',hl⟩:=hs k hk;rw[ho'] at ho;cases ho;rw[hl] at hc;cases hc)).trans ho⟩
theorem Fr.keeps {S:Nat->Prop} {A B:World} (h:Fr S A B) (hs:∀k,S k->∃cur e,af A k cur e):jV A B:=
 ⟨h.size,fun k o ho hc=>(h.block k (lt_of_block ho) (fun hk=>by
  obtain⟨cur,e,hb⟩:=hs k hk;have h':A.heap[k]? = some (.cells cur e (0,0)):=hb
  rw[h'] at ho;cases ho;cases hc)).trans ho⟩
abbrev mark (D:Nat):Deferred:={target:=.collected D,args:=#[]}
def Gz (I:World->Prop) (W:World):Exit->Act->World->Prop
 | .normal,_,W'=>jV W W'/\I W'
 | _,_,_=>False
theorem pX {n s:Nat} (hs:s<256) {g:Operand} {t d:Tmp} {Ym:Nat} {ty:TypeId} {pos:String} {body:Code} {Q:Exit->Act->World->Prop} {a:Act} {w:World}
  (hg:a.eval g= .func (.func 49) #[.int .u8 s] #[]) (ht:t<a.tmps.size) (I:List Nat->World->Prop) (hI:∀pre A B,I pre A->Bk w.heap.size A B->I pre B) (h0:I [] w)
  (pY:∀(l:Nat) (pre:List Nat) (v:Nat) (W:World),(pre++[v]) <+: vals s->I pre W ->
   body.wpIn (Fence.wide.inRound l) (n-1-1) Tryz.prog (Gz (I (pre++[v])) W) {tmps:=(a.tmps.setIfInBounds t (.int .i64 (v:Int))).setIfInBounds d (.int .i64 (v:Int)),defers:=[]} W)
  (hdone:∀(D:Nat) (W:World),w.heap.size<=D->I (vals s) W->W.heap[D]? = some (.deferred (some []))->Q .normal {a with defers:=mark D::a.defers} W):
  (Code.rangeFunc g #[t] (Code.region Ym #[{dst:=some d,op:=.assign (.tmp t),type:=ty,pos:=pos,after:=#[],guard:=none}] false) body).wpIn Fence.wide n Tryz.prog Q a w:=by
 generalize hA:Code.region Ym #[{dst:=some d,op:=Op.assign (.tmp t),type:=ty,pos:=pos,after:=#[],guard:=none}] false=assign
 have hassign:∀(l:Nat) (v:Nat) (W:World) (K:Act->World->Prop),K {tmps:=(a.tmps.setIfInBounds t (.int .i64 (v:Int))).setIfInBounds d (.int .i64 (v:Int)),defers:=[]} W ->
   assign.wpIn (Fence.wide.inRound l) (n-1-1) Tryz.prog (Exit.then K (fun _ _ _=>False)) {tmps:=a.tmps.setIfInBounds t (.int .i64 (v:Int)),defers:=[]} W:=by
  intro l v W K hK;subst hA;have hget:(a.tmps.setIfInBounds t (Value.int .i64 (v:Int))).getD t undef= .int .i64 (v:Int):=by
   simp[ht]
  gi_wp2
  exact hK
 refine wpIn_rangeFunc ?_
 intro fn hfn;obtain⟨rec,hrec⟩:∃rec:LoopState->Option Code->Loop,rec=fun st pe=>{state:=st,pending:=pe,fn,tmps:=a.tmps,params:=#[t],assign,body,defers:=w.heap.size}:=⟨_,rfl⟩
 obtain⟨W1,hW1⟩:∃W1,(w.alloc (.deferred (some []))).alloc (.loop (rec .ready none))=W1:=⟨_,rfl⟩;have hL1:W1.heap[w.heap.size+1]? = some (.loop (rec .ready none)):=by
  rw[<-hW1];have:=heap_alloc_new (w.alloc (.deferred (some []))) (.loop (rec .ready none))
  simpa using this
 have hK1:W1.heap[w.heap.size]? = some (.deferred (some [])):=by
  rw[<-hW1];exact(Below.heap_alloc _ _ _ (by simp)).trans (heap_alloc_new w _)
 have hI1:I [] W1:=by rw[<-hW1];exact hI _ _ _ (hI _ _ _ h0 (Bk.alloc _ _ _)) (Bk.alloc _ _ _)
 refine⟨w.heap.size+1,[mark w.heap.size],W1,{target:=.fn (.func 49) #[],args:=#[.int .u8 s,.func (.yield (w.heap.size+1)) #[] #[]]},W1,49,
  #[.int .u8 s,.func (.yield (w.heap.size+1)) #[] #[]],W1,?_,?_,?_,?_,(fun h=>by cases h),?_⟩
 ·rw[<-hW1,hrec];exact run_enterLoop_outer _ _ _ _ _
 ·simp only[resolve,hg];simp[go_sem]
 ·intro f' _;trivial
 ·simp[invoke,go_sem]
 ·refine(WJ (n-1) s (w.heap.size+1) hs
   (fun pre W=>I pre W/\W.heap[w.heap.size+1]? = some (.loop (rec .ready none))/\W.heap[w.heap.size]? = some (.deferred (some []))) W1 ⟨hI1,hL1,hK1⟩ ?_).mono ?_
  ·rintro pre v W ⟨hi,hl,hk⟩ hpre
   have hlt:w.heap.size+1<W.heap.size:=(Array.getElem?_eq_some_iff.1 hl).1
   have hy:=run_yield (P:=Tryz.prog) (args:=#[.int .i64 (v:Int)]) hl (by rw[hrec];rfl)
   rw[hrec] at hy;dsimp only at hy
   have hfold:((#[t]:Array Tmp).zip #[Value.int .i64 (v:Int)]).foldl (fun tmps (x:Tmp×Value)=>match x with | (t,a)=>tmps.setIfInBounds t a) a.tmps=a.tmps.setIfInBounds t (.int .i64 (v:Int)):=by simp
   rw[hfold] at hy;have hl2:(W.putObj (w.heap.size+1) (.loop {rec .ready none with state:=.busy})).heap[w.heap.size+1]? = some (.loop {rec .ready none with state:=.busy}):=World.putObj_heap_same hlt
   have hk2:(W.putObj (w.heap.size+1) (.loop {rec .ready none with state:=.busy})).heap[w.heap.size]? = some (.deferred (some [])):=(World.putObj_heap_other (by omega)).trans hk
   have hbody:=pY (w.heap.size+1) pre v _ hpre (hI _ _ _ hi (Bk.put (.loop {rec .ready none with state:=.busy}) (by omega) hl rfl))
   refine⟨fn,_,assign,body,hy,roundIn_of_wpIn hfn ?_⟩
   refine hassign _ v W _ ?_
   refine⟨_,run_beginRound hl (by rw[hrec]),?_⟩
   refine wpIn_mono hbody ?_
   rintro e a3 W3 hp
   cases e with
   | normal=>
    obtain⟨hk3,hi3⟩:=hp;have hl3:=hk3.same _ _ hl2 rfl;have hend:=run_endRound (P:=Tryz.prog) none hl3;refine⟨_,_,hend,rfl,hI _ _ _ hi3 (Bk.put _ (by omega) hl3 rfl),?_,(World.putObj_heap_other (by omega)).trans (hk3.same _ _ hk2 rfl)⟩
    rw[World.putObj_heap_same (Array.getElem?_eq_some_iff.1 hl3).1,hrec]
    rfl
   | ret=>exact hp.elim
   | exit id=>exact hp.elim
   | goto t=>exact hp.elim
   | panic ch=>exact hp.elim
   | outgrown=>exact hp.elim
  ·rintro e W2 ⟨⟨v,rfl⟩,hi,hl,hk⟩
   refine⟨none,_,?_,hdone w.heap.size _ (Nat.le_refl _) (hI _ _ _ hi (Bk.put (.loop {rec .ready none with state:=.exhausted}) (by omega) hl rfl)) ((World.putObj_heap_other (by omega)).trans hk)⟩
   have:=run_endLoop (P:=Tryz.prog) hl (by rw[hrec];simp)
   rw[hrec] at this ⊢;exact this
end Go.Proofs.YtkjfpdfkcfgfkaaGreat
namespace Go.Proofs.YtkjfpdfkcfgfkaaGreat
open Go.RowKit Go.Shelf
attribute [local go_sem] Oper.semAt_some
abbrev ints (l:List Nat):List Value:=l.map (fun (x:Nat)=>Value.int .i64 (x:Int))
set_option maxRecDepth 1000000 in
theorem Rz (s:Nat) (w:World) (hs:s<256):
  Calls Tryz.prog 29 #[.int .u8 s] w fun e w'=>
   e= .returned (.slice (some ⟨w.heap.size,0,none⟩) (vals s).length (vals s).length)/\Nw w w'/\af w' w.heap.size (ints (vals s)).toArray 3:=by
 obtain⟨i0,hi,hz0,hz1,hz2⟩:=info_parts Tryz.jU;have hmf:∀(fn:Fn) (first cap:Array Value) (w:World),(Instr.makeFunc fn first cap).run Tryz.prog w= .ok (.func fn first cap) w:=fun _ _ _ _=>rfl
 have hp8:pop s<=8:=by unfold pop;exact Nat.le_trans (List.length_filter_le _ _) (by simp)
 refine(callsIn_wide (n:=9)).1 ?_
 refine callsIn_of_wp_marks Tryz.func29 rfl trivial ?_ rfl
 simp only[Tryz.ntmps29,List.size_toArray,List.length_cons,List.length_nil,Nat.reduceAdd,Nat.reduceSub,Array.replicate_succ,Array.replicate_zero,List.push_toArray,List.append_toArray,List.nil_append,List.cons_append];gi_wp2_with (first
  | (refine⟨trivial,?_⟩;gi_at_call 48;refine(callsIn_wide.2 (len_any s _ hs)).mono ?_;rintro e w' ⟨rfl,rfl⟩)
  | (gi_at_make;refine wpListIn_make_own _ rfl _ _ 22 rfl 0 3 i0 (.int .i64 0) 1 Tryz.underlying22 hi hz0 hz1 .i64 .i64 _ (pop s) rfl rfl rfl (by rw[hz2];omega) (by unfold maxLen;omega) (Nat.zero_le _) ?_;intro w1 hown hgrow))
 have hr0:Row w1 (.slice (some ⟨w'.heap.size,0,none⟩) ([]:List Nat).length (pop s)) 3 (ints []):=hown;have hf0:Nw w' w1:=(Fr.refl _ w').grown hgrow (fun k e=>by cases e)
 have hlt0:w'.heap.size<w1.heap.size:=hr0.lt rfl;clear hown hgrow;refine pX hs rfl (by simp) (fun pre W=>af W w1.heap.size #[.slice (some ⟨w'.heap.size,0,none⟩) pre.length (pop s)] 22/\Row W (.slice (some ⟨w'.heap.size,0,none⟩) pre.length (pop s)) 3 (ints pre)/\Nw w' W)
  (fun pre A B h hb=>⟨h.1.bk hb,h.2.1.bk hb,h.2.2.bk hb (by simp;omega)⟩) ⟨af.new _ _ _,hr0.alloc _,hf0.alloc _⟩ ?round ?done
 case round=>
  rintro l pre v W hpre ⟨hb,hr,hf⟩
  have hc0:W.cell? ⟨w1.heap.size,0,none⟩=some (.slice (some ⟨w'.heap.size,0,none⟩) pre.length (pop s)):=hb.cell 0
  have hfz:=hb.free 0;have hlen:pre.length+1<=pop s:=by
   have:=hpre.length_le
   simp[vals,pop] at this ⊢
   omega
  have Hb:=hd hb;clear hb;gi_wp2_with (gi_at_builtin;refine wpListIn_append_fits _ rfl _ _ 22 rfl 0 3 i0 1 Tryz.underlying22 hi hz1 w'.heap.size pre.length (pop s) (ints pre) rfl (by have:=hr.alloc (.cells #[.int .i64 (v:Int)] 3);unfold Row at this;simpa using this) ⟨W.heap.size,0,none⟩ 1 1 [.int .i64 (v:Int)] rfl rfl (cell_one_new _ _ _) (by simp[Value.oneCell']) hlen ?_;intro w2 hown2 hgrow2;have hf2:Fr (fun k=>k=w'.heap.size) W w2:=((Fr.refl _ W).alloc _).grown hgrow2 (fun k e=>by cases e;exact .inl rfl);have hb2:=hd (Hb.out.fr hf2 (by omega));have hc2:w2.cell? ⟨w1.heap.size,0,none⟩=some _:=hb2.out.cell 0;have EN:=hb2.out.free 0)
  have hlen2:(pre++[v]).length=pre.length+1:=by simp
  have hints:ints (pre++[v])=ints pre++[.int .i64 (v:Int)]:=by simp[ints]
  refine⟨((hf2.mono (S':=fun k=>k=w'.heap.size\/k=w1.heap.size) (fun i h=>.inl (.inl h))).setCell ⟨w1.heap.size,0,none⟩ _ (.inl (.inr rfl))).keeps ?_,?_,?_,?_⟩
  ·rintro k (h | h)
   ·subst h;obtain⟨cur,hb,_⟩:=hr.blk rfl;exact⟨_,_,hb⟩
   ·subst h;exact⟨_,_,Hb.out⟩
  ·rw[hlen2];have:=hb2.out.set 0 (.slice (some ⟨w'.heap.size,0,none⟩) (pre.length+1) (pop s))
   simpa using this
  ·rw[hlen2,hints];have h5:Row w2 (.slice (some ⟨w'.heap.size,0,none⟩) (pre.length+1) (pop s)) 3 (ints pre++[.int .i64 (v:Int)]):=by
    unfold Row;simpa using hown2
   exact h5.fr ((Fr.refl (fun k=>k=w1.heap.size) w2).setCell ⟨w1.heap.size,0,none⟩ _ (.inl rfl)) (fun k hk e=>by cases hk;exact absurd e (Nat.ne_of_lt hlt0))
  ·exact(hf.trans hf2 (fun i h=>.inr (by omega))).setCell _ _ (.inr (by show w'.heap.size<=w1.heap.size;omega))
 case done=>
  rintro D W hD ⟨hb,hr,hf⟩ hK
  have hc0:W.cell? ⟨w1.heap.size,0,none⟩=some (.slice (some ⟨w'.heap.size,0,none⟩) (vals s).length (pop s)):=hb.cell 0
  gi_wp2
  have vT:w'.heap.size<=D:=by simp at hD;omega
  refine⟨by simp,.inl ⟨_,_,rfl,run_takeDeferred hK,?_⟩⟩
  refine⟨_,results_tmp rfl _ _ _,rfl,hf.bk (Bk.put (.deferred none) vT hK rfl) (Nat.le_refl _),?_⟩
  have h6:Row W (.slice (some ⟨w'.heap.size,0,none⟩) (vals s).length (pop s)) 3 (ints (vals s)):=hr;have h7:af W w'.heap.size (ints (vals s)).toArray 3:=by
   unfold Row at h6;simp only[ints,List.length_map] at h6 ⊢;exact qX (n:=(vals s).length) h6
  exact h7.bk (Bk.put (.deferred none) vT hK rfl)
end Go.Proofs.YtkjfpdfkcfgfkaaGreat
namespace Go.Proofs.YtkjfpdfkcfgfkaaGreat
open Go.RowKit
theorem iC (az:Value) (d:List Nat) (tv:Value) (l:Rest):(ah az d tv l)[0]? = some az:=by simp[ah]
theorem jg (az:Value) (d:List Nat) (tv:Value) (l:Rest) (i:Nat) (hi:i<d.length):(ah az d tv l)[1+i]? = some (.int .u8 (d.getD i 0:Nat)):=by
 rw[Nat.add_comm];simp[ah,List.getElem?_append_left,hi]
theorem dV (az:Value) (d:List Nat) (tv:Value) (l:Rest) (h8:d.length=8):(ah az d tv l)[9]? = some tv:=by
 simp[ah,h8]
theorem fU (az:Value) (d:List Nat) (tv:Value) (l:Rest) (h8:d.length=8):(ah az d tv l)[10]? = some l.bC:=by
 simp[ah,h8]
theorem aO (az:Value) (d:List Nat) (tv:Value) (l:Rest) (h8:d.length=8):(ah az d tv l)[11]? = some l.starts:=by
 simp[ah,h8]
theorem bu (az:Value) (d:List Nat) (tv:Value) (l:Rest) (h8:d.length=8):(ah az d tv l)[12]? = some (.bool l.busy):=by
 simp[ah,h8]
theorem nD (X:Nat) (az:Value) (d:List Nat) (tv:Value) (l:Rest) (w:World) (hX:af w X (ah az d tv l) 66) (h8:d.length=8):
  Calls Tryz.prog 25 #[.pointer (some ⟨X,0,none⟩)] w fun e w'=>e= .returned (.bool (d.getD 0 0==0))/\w'=w:=by
 have h1:w.cell? ⟨X,1,none⟩=some (.int .u8 (d.getD 0 0:Nat)):=(hX.cell 1).trans (jg az d tv l 0 (by omega))
 obtain⟨x,hx⟩:∃x,d.getD 0 0=x:=⟨_,rfl⟩;rw[hx] at h1;have Hx:=hd hx;clear hx hX;go_enter Tryz.func25,Tryz.ntmps25
 go_wp2
 go_ret
 refine⟨?_,rfl⟩
 rw[Hx.out];show Ending.returned (.bool ((x:Int)==0))=_
 congr 2
 rw[Bool.eq_iff_iff];simp
theorem qf (X:Nat) (az:Value) (d:List Nat) (tv:Value) (l:Rest) (zs:List Int) (v:Int) (w:World) (hX:af w X (ah az d tv l) 66)
  (hsz:Row w az 3 (zs.map (Value.int .i64))) (_:zs.length<=8):
  Calls Tryz.prog 28 #[.pointer (some ⟨X,0,none⟩),.int .i64 v] w fun e w'=>e= .returned (.bool (decide (0<=v)&&decide (v<zs.length)))/\w'=w:=by
 have h1:w.cell? ⟨X,0,none⟩=some az:=(hX.cell 0).trans (iC ..)
 obtain⟨ao,cap,hf,_⟩:=hsz.form;simp only[List.length_map] at hf;rw[hf] at h1;clear hf hX hsz;by_cases h0:0<=v
 ·go_enter Tryz.func28,Tryz.ntmps28
  go_wp2
  go_ret
  exact⟨by simp[h0],rfl⟩
 ·have hb:decide (0<=v)=false:=by simpa using h0
  go_enter Tryz.func28,Tryz.ntmps28
  go_wp2
  go_ret
  exact⟨by simp,rfl⟩
theorem xY (X:Nat) (az:Value) (d:List Nat) (tv:Value) (l:Rest) (zs:List Int) (v:Nat) (w:World) (hX:af w X (ah az d tv l) 66)
  (hsz:Row w az 3 (zs.map (Value.int .i64))) (hl:zs.length<=8) (hv:v<zs.length) (h8:d.length=8) (hd8:d.getD v 0<256) (hbz:l.busy=false):
  Calls Tryz.prog 12 #[.pointer (some ⟨X,0,none⟩),.int .i64 v] w fun e w'=>
   e= .returned (.tuple #[.slice (some ⟨w.heap.size,0,none⟩) (vals (d.getD v 0)).length (vals (d.getD v 0)).length,.int .i64 0])/\Nw w w'/\af w' w.heap.size (ints (vals (d.getD v 0))).toArray 3:=by
 have h1:w.cell? ⟨X,1+v,none⟩=some (.int .u8 (d.getD v 0:Nat)):=(hX.cell _).trans (jg az d tv l v (by omega))
 obtain⟨x,hx⟩:∃x,d.getD v 0=x:=⟨_,rfl⟩;rw[hx] at h1 hd8 ⊢;have hcb:w.cell? ⟨X,12,none⟩=some (.bool false):=(hX.cell 12).trans ((bu az d tv l h8).trans (by rw[hbz]))
 clear hx hbz;have hb1:(decide ((0:Int)<=(v:Int))&&decide ((v:Int)<(zs.length:Int)))=true:=by simp;omega
 have hi8:(v:Int)<8:=by omega
 go_enter Tryz.func12,Tryz.ntmps12
 go_wp2_with (first
  | (go_at_call 28;refine(qf X az d tv l zs v _ hX hsz hl).mono ?_;rw[hb1];rintro e w' ⟨rfl,rfl⟩)
  | (go_at_call 29;refine(Rz x _ hd8).mono ?_;rintro e w2 ⟨rfl,hf2,hb2⟩))
 go_ret2
 exact⟨rfl,hf2,hb2⟩
theorem OT (X:Nat) (az:Value) (d:List Nat) (tv:Value) (l:Rest) (zs:List Int) (v:Int) (w:World) (hX:af w X (ah az d tv l) 66)
  (hsz:Row w az 3 (zs.map (Value.int .i64))) (hl:zs.length<=8) (hv:¬(0<=v/\v<zs.length)) (h8:d.length=8) (hbz:l.busy=false):
  Calls Tryz.prog 12 #[.pointer (some ⟨X,0,none⟩),.int .i64 v] w fun e w'=>e= .returned (.tuple #[.slice none 0 0,.int .i64 1])/\w'=w:=by
 have hb1:(decide ((0:Int)<=v)&&decide (v<(zs.length:Int)))=false:=by simp;omega
 have hcb:w.cell? ⟨X,12,none⟩=some (.bool false):=(hX.cell 12).trans ((bu az d tv l h8).trans (by rw[hbz]))
 clear hbz;go_enter Tryz.func12,Tryz.ntmps12
 go_wp2_with (first
  | (go_at_call 28;refine(qf X az d tv l zs v _ hX hsz hl).mono ?_;rw[hb1];rintro e w' ⟨rfl,rfl⟩))
 go_ret2
 exact⟨rfl,rfl⟩
def fD (zs:List Int) (d:List Nat) (v value:Int):Int:=
 if 0<=v/\v<zs.length/\0<=value/\value<zs.getD v.toNat 0 then (if d.getD 0 0=0 then 3 else 0) else 1
theorem sK (X:Nat) (az:Value) (d:List Nat) (tv:Value) (l:Rest) (zs:List Int) (v value:Int) (w:World) (hX:af w X (ah az d tv l) 66)
  (hsz:Row w az 3 (zs.map (Value.int .i64))) (hl:zs.length<=8) (h8:d.length=8) (hbz:l.busy=false):
  Calls Tryz.prog 30 #[.pointer (some ⟨X,0,none⟩),.int .i64 v,.int .i64 value] w fun e w'=>e= .returned (.int .i64 (fD zs d v value))/\w'=w:=by
 have hcb:w.cell? ⟨X,12,none⟩=some (.bool false):=(hX.cell 12).trans ((bu az d tv l h8).trans (by rw[hbz]))
 clear hbz;by_cases hv:0<=v/\v<zs.length
 ·obtain⟨h0,h1⟩:=hv;obtain⟨k,rfl⟩:=Int.eq_ofNat_of_zero_le h0;have hk:k<zs.length:=by omega
  have hb1:(decide ((0:Int)<=(k:Int))&&decide ((k:Int)<(zs.length:Int)))=true:=by simp;omega
  have hc0:w.cell? ⟨X,0,none⟩=some az:=(hX.cell 0).trans (iC ..)
  obtain⟨g,cap,he,_,hc1,_⟩:=hsz.cell k (by simpa using hk)
  simp only[List.getElem_map,List.length_map] at hc1 he;rw[he] at hc0;obtain⟨z,hz⟩:∃z,zs[k]=z:=⟨_,rfl⟩;rw[hz] at hc1;have hz':zs.getD k 0=z:=by simp[hk,hz]
  by_cases hval:0<=value/\value<z
  ·obtain⟨hv0,hv1⟩:=hval;cases hdd:(d.getD 0 0==0) with
   | true=>
    have hfin:fD zs d k value=3:=by
     unfold fD;rw[if_pos ⟨h0,h1,hv0,by rw[Int.toNat_natCast,hz'];exact hv1⟩,if_pos (by simpa using hdd)]
    rw[hfin];have Yn:=hd hdd;have Hz:=hd hz;clear hdd hz hz' hfin he;go_enter Tryz.func30,Tryz.ntmps30
    go_wp2_with (first
     | (go_at_call 28;refine(qf X az d tv l zs k _ hX hsz hl).mono ?_;rw[hb1];rintro e w' ⟨rfl,rfl⟩)
     | (go_at_call 25;refine(nD X az d tv l _ hX h8).mono ?_;rw[Yn.out];rintro e w' ⟨rfl,rfl⟩))
    go_ret
    exact⟨rfl,rfl⟩
   | false=>
    have hfin:fD zs d k value=0:=by
     unfold fD;rw[if_pos ⟨h0,h1,hv0,by rw[Int.toNat_natCast,hz'];exact hv1⟩,if_neg (by simpa using hdd)]
    rw[hfin];have Yn:=hd hdd;have Hz:=hd hz;clear hdd hz hz' hfin he;go_enter Tryz.func30,Tryz.ntmps30
    go_wp2_with (first
     | (go_at_call 28;refine(qf X az d tv l zs k _ hX hsz hl).mono ?_;rw[hb1];rintro e w' ⟨rfl,rfl⟩)
     | (go_at_call 25;refine(nD X az d tv l _ hX h8).mono ?_;rw[Yn.out];rintro e w' ⟨rfl,rfl⟩))
    go_ret
    exact⟨rfl,rfl⟩
  ·have hfin:fD zs d k value=1:=by
    unfold fD;rw[if_neg (fun h=>hval ⟨h.2.2.1,by have h4:=h.2.2.2;rw[Int.toNat_natCast,hz'] at h4;exact h4⟩)]
   rw[hfin];have Hz:=hd hz;clear hz hz' hfin he;by_cases hv0:0<=value
   ·have hv1:¬value<z:=fun h=>hval ⟨hv0,h⟩
    go_enter Tryz.func30,Tryz.ntmps30
    go_wp2_with (first
     | (go_at_call 28;refine(qf X az d tv l zs k _ hX hsz hl).mono ?_;rw[hb1];rintro e w' ⟨rfl,rfl⟩))
    go_ret
    exact⟨rfl,rfl⟩
   ·go_enter Tryz.func30,Tryz.ntmps30
    go_wp2_with (first
     | (go_at_call 28;refine(qf X az d tv l zs k _ hX hsz hl).mono ?_;rw[hb1];rintro e w' ⟨rfl,rfl⟩))
    go_ret
    exact⟨rfl,rfl⟩
 ·have hb1:(decide ((0:Int)<=v)&&decide (v<(zs.length:Int)))=false:=by simp;omega
  have hfin:fD zs d v value=1:=by
   unfold fD;rw[if_neg (fun h=>hv ⟨h.1,h.2.1⟩)]
  rw[hfin];clear hfin;go_enter Tryz.func30,Tryz.ntmps30
  go_wp2_with (first
   | (go_at_call 28;refine(qf X az d tv l zs v _ hX hsz hl).mono ?_;rw[hb1];rintro e w' ⟨rfl,rfl⟩))
  go_ret
  exact⟨rfl,rfl⟩
theorem EO (ao:Option Addr) (cap:Nat) (xs:List Int) (x:Int) (w:World) (hl:xs.length<=1000) (hc:ax w ao xs):
  Calls Tryz.prog 85 #[.slice ao xs.length cap,.int .i64 x] w fun e w'=>e= .returned (.int .i64 (firstAt x xs 0))/\w'=w:=by
 go_enter Tryz.func85,Tryz.ntmps85
 go_wp2
 go_loop [8] (fun i=>∃k:Nat,k<=xs.length/\i= .int .i64 k/\Hid (firstAt x xs 0=firstAt x (xs.drop k) k)) (fun i=>xs.length-(intOf i).toNat)
 case atStart=>exact⟨0,Nat.zero_le _,rfl,rfl⟩
 case round=>
  obtain⟨k,hk,rfl,HF⟩:=hrel;by_cases hlt:k<xs.length
  ·obtain⟨b,o,rfl,_,h1⟩:=hc k hlt;have h2:xs.drop k=xs[k]::xs.drop (k+1):=(List.getElem_cons_drop hlt).symm;have H2:=hd h2;clear h2 hc;obtain⟨y,hy⟩:∃y,xs.getD k 0=y:=⟨_,rfl⟩;rw[hy] at h1;have h3:xs[k]=y:=by simpa[hlt] using hy
   have H3:=hd h3;clear hy h3;cases hxy:(x==y) with
   | true=>
    have Hxy:=hd hxy;go_wp2
    go_ret
    refine⟨?_,rfl⟩
    rw[HF.out,H2.out,H3.out];simp[firstAt,Hxy.out]
   | false=>
    have Hxy:=hd hxy;go_wp2
    refine⟨⟨k+1,by omega,by go_num,?_⟩,by simp[intOf];omega⟩
    show _=_
    rw[HF.out,H2.out,H3.out];simp[firstAt,Hxy.out]
  ·go_wp2
   go_ret
   refine⟨?_,rfl⟩
   rw[HF.out,List.drop_eq_nil_of_le (by omega)]
   rfl
theorem zJ (ao:Option Addr) (cap:Nat) (xs:List Int) (x:Int) (w:World) (hl:xs.length<=1000) (hc:ax w ao xs):
  Calls Tryz.prog 65 #[.slice ao xs.length cap,.int .i64 x] w fun e w'=>e= .returned (.bool (xs.contains x))/\w'=w:=by
 go_enter Tryz.func65,Tryz.ntmps65
 go_wp2_with (go_at_call 85;refine(EO _ _ xs x _ hl hc).mono ?_;rintro e w' ⟨rfl,rfl⟩)
 go_ret
 exact⟨by rw[<-qZ x xs 0];rfl,rfl⟩
theorem ru (ao:Option Addr) (n cap:Nat) (xs:List Int) (x:Int) (w:World) (hn:xs.length=n) (hl:xs.length<=1000) (hc:ax w ao xs):
  Calls Tryz.prog 65 #[.slice ao n cap,.int .i64 x] w fun e w'=>e= .returned (.bool (xs.contains x))/\w'=w:=by
 subst hn;exact zJ ao cap xs x w hl hc
def lT (n:Nat) (vars:List Int) (i:Nat):Bool:=decide (0<=vars.getD i 0)&&decide (vars.getD i 0<n) && !(vars.take i).contains (vars.getD i 0)
def kZ (n:Nat) (vars:List Int):Bool:=decide (1<=vars.length)&&decide (vars.length<=4)&&(List.range vars.length).all (lT n vars)
theorem ax.take {w:World} {ao:Option Addr} {zs:List Int} (h:ax w ao zs) (k:Nat):ax w ao (zs.take k):=by
 intro i hi;simp at hi
 obtain⟨b,o,he,hb,hc⟩:=h i (by omega)
 refine⟨b,o,he,hb,hc.trans ?_⟩
 simp[List.getElem?_take_of_lt (show i<k by omega)]
set_option maxRecDepth 1000000 in
theorem oL (ao:Option Addr) (cap:Nat) (vars:List Int) (n:Nat) (w:World) (hl:vars.length*8<=140737488355328) (hcap:vars.length<=cap) (hc:ax w ao vars):
  Calls Tryz.prog 39 #[.slice ao vars.length cap,.int .i64 n] w fun e w'=>e= .returned (.bool (kZ n vars))/\w'=w:=by
 by_cases h4:1<=vars.length/\vars.length<=4
 ·obtain⟨h1,h4⟩:=h4;go_enter Tryz.func39,Tryz.ntmps39
  go_wp2
  go_loop [17] (fun i=>∃k:Nat,k<=vars.length/\i= .int .i64 k/\Hid ((List.range k).all (lT n vars)=true)) (fun i=>vars.length-(intOf i).toNat)
  case atStart=>exact⟨0,Nat.zero_le _,rfl,rfl⟩
  case round=>
   obtain⟨k,hk,rfl,HA⟩:=hrel;by_cases hlt:k<vars.length
   ·obtain⟨b,o,rfl,_,hck⟩:=hc k hlt;have htl:(vars.take k).length=k:=by simp;omega
    have hct:=hd (hc.take k);obtain⟨y,hy⟩:∃y,vars.getD k 0=y:=⟨_,rfl⟩;rw[hy] at hck;have Hy:=hd hy;clear hy;have hki:(0:Int)<=(k:Int):=by omega
    have hfalse:lT n vars k=false->kZ n vars=false:=fun h=>by
     have:(List.range vars.length).all (lT n vars)=false:=by
      rw[List.all_eq_false];exact⟨k,List.mem_range.2 hlt,by simp[h]⟩
     simp[kZ,this]
    have HF:=hd hfalse;clear hfalse;by_cases hy0:0<=y
    ·by_cases hyn:y<n
     ·cases hcon:(vars.take k).contains y with
      | true=>
       have RD:=hd hcon;clear hcon;go_wp2_with (go_at_call 65;refine(ru (some ⟨b,o,none⟩) k cap (vars.take k) y _ htl (by omega) hct.out).mono ?_;rw[RD.out];rintro e w' ⟨rfl,rfl⟩)
       go_ret
       exact⟨by rw[HF.out (by simp only[lT];rw[Hy.out,RD.out];simp)];rfl,rfl⟩
      | false=>
       have RD:=hd hcon;clear hcon;go_wp2_with (go_at_call 65;refine(ru (some ⟨b,o,none⟩) k cap (vars.take k) y _ htl (by omega) hct.out).mono ?_;rw[RD.out];rintro e w' ⟨rfl,rfl⟩)
       refine⟨⟨k+1,by omega,by go_num,?_⟩,by simp[intOf];omega⟩
       show _=_
       rw[List.range_succ,List.all_append,HA.out];simp only[lT,List.all_cons,List.all_nil];rw[Hy.out,RD.out];simp[hy0,hyn]
     ·have HK:=hd (HF.out (by simp only[lT];rw[Hy.out];simp[hyn]))
      go_wp2
      go_ret
      exact⟨by rw[HK.out];rfl,rfl⟩
    ·have HK:=hd (HF.out (by simp only[lT];rw[Hy.out];simp[hy0]))
     go_wp2
     go_ret
     exact⟨by rw[HK.out];rfl,rfl⟩
   ·obtain rfl:k=vars.length:=by omega
    go_wp2
    go_ret
    exact⟨by simp only[kZ];rw[HA.out];simp[h1,h4],rfl⟩
 ·have hfin:kZ n vars=false:=by
   simp only[kZ];by_cases h1:1<=vars.length
   ·have:¬vars.length<=4:=fun h=>h4 ⟨h1,h⟩
    simp[this]
   ·simp[h1]
  rw[hfin];clear hfin;by_cases h1:vars.length=0
  ·rw[h1];go_enter Tryz.func39,Tryz.ntmps39
   go_wp2
   go_ret
   exact⟨rfl,rfl⟩
  ·have h5:4<vars.length:=by omega
   go_enter Tryz.func39,Tryz.ntmps39
   go_wp2
   go_ret
   exact⟨rfl,rfl⟩
def EP (zs vars:List Int) (i:Nat):Int:=zs.getD (vars.getD i 0).toNat 0
def jG (zs vars row:List Int) (i:Nat):Bool:=row.getD i 0 == -1 || (decide (0<=row.getD i 0)&&decide (row.getD i 0<EP zs vars i))
def nG (zs vars row:List Int):Bool:=decide (row.length=vars.length)&&(List.range row.length).all (jG zs vars row)
set_option maxRecDepth 1000000 in
theorem vU (ro vo so:Option Addr) (au ak scap:Nat) (row vars zs:List Int) (w:World) (hvl:vars.length<=4)
  (hv:∀i,i<vars.length->0<=vars.getD i 0/\vars.getD i 0<zs.length) (hr:ax w ro row) (hvs:ax w vo vars) (hs:ax w so zs):
  Calls Tryz.prog 40 #[.slice ro row.length au,.slice vo vars.length ak,.slice so zs.length scap] w fun e w'=>e= .returned (.bool (nG zs vars row))/\w'=w:=by
 by_cases hlen:row.length=vars.length
 ·have hb:((row.length:Int) != (vars.length:Int))=false:=by simp[hlen]
  rw[hlen] at hb;rw[hlen];go_enter Tryz.func40,Tryz.ntmps40
  go_wp2
  go_loop [16] (fun i=>∃k:Nat,k<=vars.length/\i= .int .i64 k/\Hid ((List.range k).all (jG zs vars row)=true)) (fun i=>vars.length-(intOf i).toNat)
  case atStart=>exact⟨0,Nat.zero_le _,rfl,rfl⟩
  case round=>
   obtain⟨k,hk,rfl,HA⟩:=hrel;by_cases hlt:k<vars.length
   ·obtain⟨b,o,rfl,_,hck⟩:=hr k (by omega)
    obtain⟨b2,o2,rfl,_,hcv⟩:=hvs k hlt;obtain⟨hv0,hv1⟩:=hv k hlt;obtain⟨q,hq⟩:∃q:Nat,vars.getD k 0=(q:Int):=⟨(vars.getD k 0).toNat,by omega⟩
    rw[hq] at hcv hv0 hv1;have hqz:q<zs.length:=by omega
    obtain⟨b3,o3,rfl,_,hcs⟩:=hs q hqz;obtain⟨y,hy⟩:∃y,row.getD k 0=y:=⟨_,rfl⟩;rw[hy] at hck;obtain⟨z,hz⟩:∃z,zs.getD q 0=z:=⟨_,rfl⟩;rw[hz] at hcs;have hsz:EP zs vars k=z:=by simp only[EP];rw[hq,Int.toNat_natCast,hz]
    have hoe:jG zs vars row k=(y == -1 || (decide (0<=y)&&decide (y<z))):=by simp only[jG];rw[hy,hsz]
    have HOE:=hd hoe;have hfalse:jG zs vars row k=false->nG zs vars row=false:=fun h=>by
     have:(List.range row.length).all (jG zs vars row)=false:=by
      rw[List.all_eq_false];exact⟨k,List.mem_range.2 (by omega),by simp[h]⟩
     simp[nG,this]
    have HF:=hd hfalse;clear hfalse hoe hsz hy hz hq hr hvs hs hv;have hki:(0:Int)<=(k:Int):=by omega
    have hgo:jG zs vars row k=true->(List.range (k+1)).all (jG zs vars row)=true:=fun h=>by
     rw[List.range_succ,List.all_append,HA.out];simp[h]
    have HG:=hd hgo;clear hgo;cases hm:(y == -1) with
    | true=>
     have HT:=hd (HG.out (by rw[HOE.out,hm];rfl))
     have hy1:y=-1:=by simpa using hm
     subst hy1;go_wp2
     exact⟨⟨k+1,by omega,by go_num,HT⟩,by simp[intOf];omega⟩
    | false=>
     have hm2:(y != -1)=true:=by simpa using hm
     by_cases hy0:0<=y
     ·by_cases hyz:y<z
      ·have HT:=hd (HG.out (by rw[HOE.out,hm];simp[hy0,hyz]))
       go_wp2
       exact⟨⟨k+1,by omega,by go_num,HT⟩,by simp[intOf];omega⟩
      ·have HK:=hd (HF.out (by rw[HOE.out,hm];simp[hyz]))
       go_wp2
       go_ret
       exact⟨by rw[HK.out];rfl,rfl⟩
     ·have HK:=hd (HF.out (by rw[HOE.out,hm];simp[hy0]))
      go_wp2
      go_ret
      exact⟨by rw[HK.out];rfl,rfl⟩
   ·obtain rfl:k=vars.length:=by omega
    have hfin:nG zs vars row=true:=by simp only[nG];rw[hlen,HA.out];simp
    have HK:=hd hfin;clear hfin;go_wp2
    go_ret
    exact⟨by rw[HK.out];rfl,rfl⟩
 ·have hfin:nG zs vars row=false:=by simp[nG,hlen]
  rw[hfin];have hb:((row.length:Int) != (vars.length:Int))=true:=by simp;omega
  clear hfin;go_enter Tryz.func40,Tryz.ntmps40
  go_wp2
  go_ret
  exact⟨rfl,rfl⟩
def dW (w:World) (ao:Option Addr) (rows:List (List Int)):Prop:=∀i,i<rows.length->∃b o ro au,ao=some ⟨b,o,none⟩/\b<w.heap.size /\
 w.cell? ⟨b,o+i,none⟩=some (.slice ro (rows.getD i []).length au)/\ax w ro (rows.getD i [])
theorem dW.nw {w w':World} {ao:Option Addr} {rows:List (List Int)} (h:dW w ao rows) (f:Nw w w'):dW w' ao rows:=by
 intro i hi;obtain⟨b,o,ro,au,rfl,hb,hc,hz⟩:=h i hi;exact⟨b,o,ro,au,rfl,Nat.lt_of_lt_of_le hb f.size,(f.cell hb (fun x=>x)).trans hc,hz.nw f⟩
def vV (way:Int):Bool:=way==1 || way==2
def jW (zs vars:List Int) (rows:List (List Int)) (i:Nat):Bool:=nG zs vars (rows.getD i [])
def bK (zs vars:List Int) (rows:List (List Int)) (way:Int):Bool:=vV way&&kZ zs.length vars&&decide (rows.length<=60)&&(List.range rows.length).all (jW zs vars rows)
theorem um {n:Nat} {vars:List Int} (h:kZ n vars=true):1<=vars.length/\vars.length<=4/\∀i,i<vars.length->0<=vars.getD i 0/\vars.getD i 0<n:=by
 simp only[kZ,Bool.and_eq_true,decide_eq_true_eq,List.all_eq_true,List.mem_range] at h;refine⟨h.1.1,h.1.2,fun i hi=>?_⟩
 have:=h.2 i hi
 simp only[lT,Bool.and_eq_true,decide_eq_true_eq] at this;exact⟨this.1.1,this.1.2⟩
set_option maxRecDepth 1000000 in
theorem DL (vo ro so:Option Addr) (ak au scap:Nat) (vars:List Int) (rows:List (List Int)) (nt:Bool) (way:Int) (zs:List Int) (w:World)
  (hl:vars.length*8<=140737488355328) (hrl:rows.length*24<=140737488355328) (nY:vars.length<=ak) (hvs:ax w vo vars) (hrs:dW w ro rows) (hs:ax w so zs):
  Calls Tryz.prog 23 #[.agg #[.slice vo vars.length ak,.slice ro rows.length au,.bool nt,.int .i64 way],.slice so zs.length scap] w fun e w'=>
   e= .returned (.bool (bK zs vars rows way))/\Nw w w':=by
 obtain⟨W,hW⟩:∃W,w.alloc (.cells #[.slice vo vars.length ak,.slice ro rows.length au,.bool nt,.int .i64 way] 41)=W:=⟨_,rfl⟩;have dM:Nw w W:=by rw[<-hW];exact(Fr.refl _ w).alloc _
 have hbW:af W w.heap.size #[.slice vo vars.length ak,.slice ro rows.length au,.bool nt,.int .i64 way] 41:=by rw[<-hW];exact af.new _ _ _
 have hvs':=hvs.nw dM;have abv:=hrs.nw dM;have hs':=hs.nw dM;cases qg:vV way with
 | false=>
  have hfin:bK zs vars rows way=false:=by simp[bK,qg]
  rw[hfin];have h1:(way != 1)=true:=by simp only[vV,Bool.or_eq_false_iff] at qg;simpa using qg.1
  have h2:(way != 2)=true:=by simp only[vV,Bool.or_eq_false_iff] at qg;simpa using qg.2
  clear hfin qg hW;go_enter Tryz.func23,Tryz.ntmps23
  go_wp2
  go_ret
  exact⟨rfl,(Fr.refl _ w).alloc _⟩
 | true=>
  have Zj:way=1\/way=2:=by simpa[vV] using qg
  cases hov:kZ zs.length vars with
  | false=>
   have hfin:bK zs vars rows way=false:=by simp[bK,hov]
   rw[hfin];have Hov:=hd hov;clear hfin hov qg;subst hW;rcases Zj with rfl | rfl
   all_goals
    go_enter Tryz.func23,Tryz.ntmps23
    go_wp2_with (go_at_call 39;refine(oL vo ak vars zs.length _ hl nY hvs').mono ?_;rw[Hov.out];rintro e w' ⟨rfl,rfl⟩)
    go_ret
    exact⟨rfl,dM⟩
  | true=>
   obtain⟨hv1,hv4,hvb⟩:=um hov;have Hov:=hd hov;subst hW;by_cases h60:rows.length<=60
   ·have hrows:(List.range rows.length).all (jW zs vars rows)=bK zs vars rows way:=by simp[bK,qg,hov,h60]
    rw[<-hrows];clear hrows qg hov;rcases Zj with rfl | rfl
    all_goals
     go_enter Tryz.func23,Tryz.ntmps23
     go_wp2_with (go_at_call 39;refine(oL vo ak vars zs.length _ hl nY hvs').mono ?_;rw[Hov.out];rintro e w' ⟨rfl,rfl⟩)
     go_loop [30] (fun i=>∃k:Nat,k<=rows.length/\i= .int .i64 k/\Hid ((List.range k).all (jW zs vars rows)=true)) (fun i=>rows.length-(intOf i).toNat)
     case atStart=>exact⟨0,Nat.zero_le _,rfl,rfl⟩
     case round=>
      obtain⟨k,hk,rfl,HA⟩:=hrel;by_cases hlt:k<rows.length
      ·obtain⟨b,o,rr,Yo,rfl,_,hck,hrow⟩:=abv k hlt;obtain⟨R,hR⟩:∃R,rows.getD k []=R:=⟨_,rfl⟩;rw[hR] at hck hrow;have hat:jW zs vars rows k=nG zs vars R:=by rw[<-hR];rfl
       have Hat:=hd hat;clear hat hR hrs abv hvs hs hbW;cases hok:nG zs vars R with
       | true=>
        have qU:=hd hok;have HT:Hid ((List.range (k+1)).all (jW zs vars rows)=true):=by
         show _=_
         rw[List.range_succ,List.all_append,HA.out];simp[Hat.out,hok]
        clear hok;go_wp2_with (go_at_call 40;refine(vU rr vo so Yo ak scap R vars zs _ hv4 hvb hrow hvs' hs').mono ?_;rw[qU.out];rintro e w' ⟨rfl,rfl⟩)
        exact⟨⟨k+1,by omega,by go_num,HT⟩,by simp[intOf];omega⟩
       | false=>
        have qU:=hd hok;have HK:Hid ((List.range rows.length).all (jW zs vars rows)=false):=by
         show _=_
         rw[List.all_eq_false];exact⟨k,List.mem_range.2 hlt,by simp[Hat.out,hok]⟩
        clear hok;go_wp2_with (go_at_call 40;refine(vU rr vo so Yo ak scap R vars zs _ hv4 hvb hrow hvs' hs').mono ?_;rw[qU.out];rintro e w' ⟨rfl,rfl⟩)
        go_ret
        exact⟨by rw[HK.out];rfl,dM⟩
      ·obtain rfl:k=rows.length:=by omega
       go_wp2
       go_ret
       exact⟨by rw[HA.out];rfl,dM⟩
   ·have hfin:bK zs vars rows way=false:=by simp[bK,h60]
    rw[hfin];clear hfin qg hov;rcases Zj with rfl | rfl
    all_goals
     go_enter Tryz.func23,Tryz.ntmps23
     go_wp2_with (go_at_call 39;refine(oL vo ak vars zs.length _ hl nY hvs').mono ?_;rw[Hov.out];rintro e w' ⟨rfl,rfl⟩)
     go_ret
     exact⟨rfl,dM⟩
set_option maxRecDepth 1000000 in
theorem vW (b o cap:Nat) (zs:List Int) (w:World) (hz:zs.length*8<=140737488355328) (h0:0<zs.length) (h:ax w (some ⟨b,o,none⟩) zs):
  Calls Tryz.prog 68 #[.slice (some ⟨b,o,none⟩) zs.length cap] w fun e w'=>
   ∃g cap',e= .returned (.agg #[.slice (some ⟨g,0,none⟩) zs.length cap'])/\Nw w w'/\Row w' (.slice (some ⟨g,0,none⟩) zs.length cap') 3 (zs.map (Value.int .i64))/\w.heap.size<=g:=by
 have hf0:Nw w (w.alloc (.cells #[.slice none 0 0] 118)):=(Fr.refl _ w).alloc _;have hb0:af (w.alloc (.cells #[.slice none 0 0] 118)) w.heap.size #[.slice none 0 0] 118:=af.new _ _ _;go_enter Tryz.func68,Tryz.ntmps68
 go_wp2_with (go_at_call 21;refine(clone_any b o cap zs _ hz h0 (h.nw hf0)).mono ?_;rintro e w1 ⟨g,cap',rfl,hf1,hr1,hg1⟩;have hb1:=hd (hb0.nw hf1);have hc1:w1.cell? ⟨w.heap.size,0,none⟩=some (.slice none 0 0):=hb1.out.cell 0;have hfz:=hb1.out.free 0)
 have hb2:=hb1.out.set 0 (.slice (some ⟨g,0,none⟩) zs.length cap');have hc2:(w1.setCell ⟨w.heap.size,0,none⟩ (.slice (some ⟨g,0,none⟩) zs.length cap')).cell? ⟨w.heap.size,0,none⟩=some (.slice (some ⟨g,0,none⟩) zs.length cap'):=by rw[hb2.cell 0];simp
 refine bodyPost_ret (v:=.agg #[.slice (some ⟨g,0,none⟩) zs.length cap']) (by simp[results,Tryz.results68,go_sem,hc2]) rfl ⟨g,cap',rfl,(hf0.trans hf1 (fun i h=>h.elim)).setCell _ _ (.inr (Nat.le_refl _)),?_,?_⟩
 ·exact hr1.fr ((Fr.refl (fun k=>k=w.heap.size) w1).setCell ⟨w.heap.size,0,none⟩ _ (.inl rfl)) (fun k hk e=>by cases hk;simp at hg1;have e':g=w.heap.size:=e;omega)
 ·simp at hg1;omega
def bf (vv:Value) (nt:Bool) (br:List Nat) (live:Nat):Array Value:=(vv :: .bool nt::(br.map (fun (x:Nat)=>Value.int .u64 (x:Int))++[.int .u64 (live:Int)])).toArray
theorem nH (vv:Value) (nt:Bool) (br:List Nat) (live j:Nat) (hj:j<br.length):(bf vv nt br live)[2+j]? = some (.int .u64 (br.getD j 0:Nat)):=by
 rw[Nat.add_comm];simp[bf,List.getElem?_append_left,hj]
theorem GG (vv:Value) (nt:Bool) (br:List Nat) (live j x:Nat) (hj:j<br.length):(bf vv nt br live).setIfInBounds (2+j) (.int .u64 (x:Int))=bf vv nt (br.set j x) live:=by
 rw[Nat.add_comm];simp[bf,hj,List.map_set]
theorem jH (vv:Value) (nt:Bool) (br:List Nat) (live:Nat) (h:br.length=24):(bf vv nt br live)[26]? = some (.int .u64 (live:Int)):=by
 simp[bf,h]
theorem mG (vv:Value) (nt:Bool) (br:List Nat) (live x:Nat) (h:br.length=24):(bf vv nt br live).setIfInBounds 26 (.int .u64 (x:Int))=bf vv nt br x:=by
 simp[bf,h]
def gJ (a:Int) (v:Nat):Bool:=a == -1 || a==(v:Int)
def jM (br:List Nat) (row:List Int) (bit m:Nat):List Nat:=br.mapIdx (fun j x=>if decide (j<m)&&gJ (row.getD (j / 6) 0) (j % 6) then x ||| bit else x)
theorem qh (br:List Nat) (row:List Int) (bit m:Nat):(jM br row bit m).length=br.length:=by simp[jM]
theorem J5 (br:List Nat) (row:List Int) (bit:Nat):jM br row bit 0=br:=by
 apply List.ext_getElem
 ·simp[jM]
 ·intro i h1 h2;simp[jM]
theorem xZ (br:List Nat) (row:List Int) (bit m j:Nat) (hj:j<br.length):(jM br row bit m).getD j 0=if decide (j<m)&&gJ (row.getD (j / 6) 0) (j % 6) then br.getD j 0 ||| bit else br.getD j 0:=by
 simp[jM,hj]
theorem OU (br:List Nat) (row:List Int) (bit i v:Nat) (hv:v<6) (hj:6*i+v<br.length) (hb:gJ (row.getD i 0) v=true):
  (jM br row bit (6*i+v)).set (6*i+v) (br.getD (6*i+v) 0 ||| bit)=jM br row bit (6*i+v+1):=by
 apply List.ext_getElem
 ·simp[jM]
 ·intro k h1 h2;simp only[jM,List.length_mapIdx,List.length_set] at h1 h2;rw[List.getElem_set];simp only[jM,List.getElem_mapIdx];by_cases hk:6*i+v=k
  ·subst hk;have e1:(6*i+v) / 6=i:=by omega
   have e2:(6*i+v) % 6=v:=by omega
   simp only[e1,e2,hb];simp[hj]
  ·rw[if_neg hk];have:(k<6*i+v+1)↔(k<6*i+v):=by omega
   simp[this]
theorem RF (br:List Nat) (row:List Int) (bit i v:Nat) (hv:v<6) (hb:gJ (row.getD i 0) v=false):jM br row bit (6*i+v)=jM br row bit (6*i+v+1):=by
 apply List.ext_getElem
 ·simp[jM]
 ·intro k h1 h2;simp only[jM,List.getElem_mapIdx];by_cases hk:6*i+v=k
  ·subst hk;have e1:(6*i+v) / 6=i:=by omega
   have e2:(6*i+v) % 6=v:=by omega
   simp only[e1,e2,hb];simp
  ·have:(k<6*i+v+1)↔(k<6*i+v):=by omega
   simp[this]
theorem DN (a:Int) (v:Nat):(a == -1 || a==(v:Int))=gJ a v:=rfl
set_option maxRecDepth 1000000 in
theorem add_any (G:Nat) (vv:Value) (nt:Bool) (br:List Nat) (live:Nat) (ro:Option Addr) (au:Nat) (row:List Int) (bit:Nat) (w:World) (hG:af w G (bf vv nt br live) 131) (sN:br.length=24)
  (hbr:∀j,br.getD j 0<18446744073709551616) (hbit:bit<18446744073709551616) (hrl:row.length<=4) (hr:ax w ro row) (hrn:∀b o,ro=some ⟨b,o,none⟩->0<row.length->b≠G):
  Calls Tryz.prog 69 #[.pointer (some ⟨G,0,none⟩),.slice ro row.length au,.int .u64 bit] w fun e w'=>
   e= .returned (.tuple #[])/\Fr (fun k=>k=G) w w'/\af w' G (bf vv nt (jM br row bit (6*row.length)) live) 131:=by
 go_enter Tryz.func69,Tryz.ntmps69
 go_wp2
 go_loopw [11] (fun i wr=>∃k:Nat,k<=row.length/\i= .int .i64 k/\Fr (fun k=>k=G) w wr/\Hid (af wr G (bf vv nt (jM br row bit (6*k)) live) 131)) (fun i _=>row.length-(intOf i).toNat)
 case atStart=>exact⟨0,Nat.zero_le _,rfl,Fr.refl _ _,by rw[Nat.mul_zero,J5];exact hG⟩
 case round=>
  obtain⟨k,hk,rfl,hf,hb⟩:=hrel;by_cases hlt:k<row.length
  ·obtain⟨b,o,rfl,hbl,hc⟩:=hr k hlt;have hck:wr.cell? ⟨b,o+k,none⟩=some (.int .i64 (row.getD k 0)):=(hf.cell hbl (hrn b o rfl (by omega))).trans hc
   clear hc;obtain⟨y,hy⟩:∃y,row.getD k 0=y:=⟨_,rfl⟩;rw[hy] at hck;have Hy:=hd hy;clear hy;go_wp2
   go_loopw [16] (fun i wi=>∃m:Nat,m<=6/\i= .int .i64 m/\Fr (fun k=>k=G) w wi/\Hid (af wi G (bf vv nt (jM br row bit (6*k+m)) live) 131)) (fun i _=>6-(intOf i).toNat)
   case atStart=>exact⟨0,Nat.zero_le _,rfl,hf,hb⟩
   case round=>
    obtain⟨m,hm,rfl,hfi,hbi⟩:=hrel;by_cases JS:m<6
    ·have hj:6*k+m<(jM br row bit (6*k+m)).length:=by rw[qh];omega
     have hj2:6*k+m<br.length:=by omega
     cases hbb:gJ y m with
     | true=>
      have Hbb:=hd hbb;have hcb:wr.cell? ⟨G,2+(6*k+m),none⟩=some (.int .u64 (br.getD (6*k+m) 0:Nat)):=by
       rw[hbi.out.cell,nH _ _ _ _ _ hj,xZ _ _ _ _ _ hj2];simp
      have hfz:=hbi.out.free (2+(6*k+m));rw[show 2+(6*k+m)=2+k*6+m from by omega] at hcb hfz
      have hx:=hbr (6*k+m);obtain⟨x,hxe⟩:∃x,br.getD (6*k+m) 0=x:=⟨_,rfl⟩;rw[hxe] at hcb hx;have Hxe:=hd hxe;have hi0:(0:Int)<=(k:Int):=by omega
      have hi4:(k:Int)<4:=by omega
      have hj0:(0:Int)<=(m:Int):=by omega
      have hj6:(m:Int)<6:=by omega
      clear hbb hxe hj hj2;go_wp2_with (go_at_call 88;refine(bears_any y m _).mono ?_;rw[DN,Hbb.out];rintro e w' ⟨rfl,rfl⟩)
      go_region
      have h5:=hbi.out.set (2+(6*k+m)) (.int .u64 ((x ||| bit:Nat):Int))
      rw[GG _ _ _ _ _ _ (by rw[qh];omega),<-Hxe.out,OU br row bit k m JS (by omega) (by rw[Hy.out];exact Hbb.out),Hxe.out] at h5
      have H5:=hd h5;clear h5;go_wp2
      refine⟨⟨m+1,by omega,by go_num,(hfi.setCell _ _ (.inl rfl)).drew,?_⟩,by simp[intOf];omega⟩
      show af _ _ _ _
      rw[u64_or_nat x bit hx hbit,show 2+k*6+m=2+(6*k+m) from by omega]
      exact H5.out.drew
     | false=>
      have Hbb:=hd hbb;clear hbb;go_wp2_with (go_at_call 88;refine(bears_any y m _).mono ?_;rw[DN,Hbb.out];rintro e w' ⟨rfl,rfl⟩)
      exact⟨⟨m+1,by omega,by go_num,hfi,by show af _ _ _ _;rw[<-Nat.add_assoc,<-RF br row bit k m JS (by rw[Hy.out];exact Hbb.out)];exact hbi.out⟩,by simp[intOf];omega⟩
    ·obtain rfl:m=6:=by omega
     go_wp2
     exact⟨⟨k+1,by omega,by go_num,hfi,by show af _ _ _ _;rw[show 6*(k+1)=6*k+6 from by omega];exact hbi.out⟩,by simp[intOf];omega⟩
  ·obtain rfl:k=row.length:=by omega
   go_wp2
   go_end0
   exact⟨rfl,hf,hb.out⟩
theorem Fr.gW {S:Nat->Prop} {a b:World} (h:Fr S a.drew b):Fr S a b:=⟨h.os,h.tape,h.output,h.size,h.block⟩
def iZ (rows:List (List Int)):Nat->List Nat
 | 0=>List.replicate 24 0
 | k+1=>jM (iZ rows k) (rows.getD k []) (2^k) (6*(rows.getD k []).length)
theorem lU (rows:List (List Int)):∀k,(iZ rows k).length=24
 | 0=>by simp[iZ]
 | k+1=>by simp[iZ,qh,lU rows k]
theorem ER (rows:List (List Int)):∀k j,(iZ rows k).getD j 0<2^k
 | 0,j=>by
  simp only[iZ,List.getD,List.getElem?_replicate]
  split <;> simp
 | k+1,j=>by
  have ih:=ER rows k j;have h2:2^(k+1)=2^k+2^k:=by omega
  by_cases hj:j<(iZ rows k).length
  ·simp only[iZ];rw[xZ _ _ _ _ _ hj];split
   ·exact Nat.or_lt_two_pow (by omega) (by have:=Nat.two_pow_pos k;omega)
   ·omega
  ·have hn:(iZ rows (k+1)).length<=j:=by rw[lU] at hj ⊢;omega
   simp only[List.getD,List.getElem?_eq_none hn]
   exact Nat.two_pow_pos _
theorem WL (k:Nat):(2^k-1) ||| 2^k=2^(k+1)-1:=by
 have h:=Nat.two_pow_add_eq_or_of_lt (i:=k) (b:=2^k-1) (by have:=Nat.two_pow_pos k;omega) 1
 rw[Nat.mul_one] at h;rw[Nat.or_comm,<-h];have:=Nat.two_pow_pos k
 omega
theorem RG (k:Nat) (hk:k<64):IntKind.u64.wrap ((2:Int)^k)=((2^k:Nat):Int):=by
 have e:((2:Int)^k)=((2^k:Nat):Int):=by simp
 have hp:2^k<18446744073709551616:=Nat.lt_of_lt_of_le (Nat.pow_lt_pow_right (by omega) hk) (by decide)
 rw[e,IntKind.wrap_u64];generalize 2^k=p at *
 omega
set_option maxRecDepth 1000000 in
theorem OV (b o:Nat) (ro:Option Addr) (ak au:Nat) (vars:List Int) (rows:List (List Int)) (nt:Bool) (way:Int) (w:World)
  (hv0:0<vars.length) (hv4:vars.length<=4) (hrl:rows.length<=60) (hrow:∀i,i<rows.length->(rows.getD i []).length<=4) (hvs:ax w (some ⟨b,o,none⟩) vars) (hrs:dW w ro rows):
  Calls Tryz.prog 42 #[.agg #[.slice (some ⟨b,o,none⟩) vars.length ak,.slice ro rows.length au,.bool nt,.int .i64 way]] w fun e w'=>
   ∃G g cap',e= .returned (.pointer (some ⟨G,0,none⟩))/\Nw w w'/\af w' G (bf (.slice (some ⟨g,0,none⟩) vars.length cap') nt (iZ rows rows.length) (2^rows.length-1)) 131 /\
    Row w' (.slice (some ⟨g,0,none⟩) vars.length cap') 3 (vars.map (Value.int .i64))/\w.heap.size<=G/\w.heap.size<=g:=by
 obtain⟨T,hT⟩:∃T,T=w.heap.size:=⟨_,rfl⟩;obtain⟨W,hW⟩:∃W,W=w.alloc (.cells #[.slice (some ⟨b,o,none⟩) vars.length ak,.slice ro rows.length au,.bool nt,.int .i64 way] 41):=⟨_,rfl⟩;have dM:Nw w W:=by rw[hW];exact(Fr.refl _ w).alloc _
 have hbW:af W T #[.slice (some ⟨b,o,none⟩) vars.length ak,.slice ro rows.length au,.bool nt,.int .i64 way] 41:=by rw[hW,hT];exact af.new _ _ _
 have Nu:=hvs.nw dM;have hrW:=hrs.nw dM;have hc0:W.cell? ⟨T,0,none⟩=some (.slice (some ⟨b,o,none⟩) vars.length ak):=hbW.cell 0
 have hc1:W.cell? ⟨T,1,none⟩=some (.slice ro rows.length au):=hbW.cell 1
 have hc2:W.cell? ⟨T,2,none⟩=some (.bool nt):=hbW.cell 2
 go_enter Tryz.func42,Tryz.ntmps42
 go_upto_region 1 with fail
 rw[<-hW,<-hT];clear hW hT hvs hrs;go_cut [3] (fun p wx=>∃G g cap',p= .pointer (some ⟨G,0,none⟩)/\Nw W wx/\Hid (af wx G (bf (.slice (some ⟨g,0,none⟩) vars.length cap') nt (iZ rows 0) (2^0-1)) 131) /\
       Row wx (.slice (some ⟨g,0,none⟩) vars.length cap') 3 (vars.map (Value.int .i64))/\W.heap.size<=G/\W.heap.size<=g)
 case first=>
  go_region_held3 (fun w'=>w'.cell? ⟨T,0,none⟩=some (.slice (some ⟨b,o,none⟩) vars.length ak)/\w'.cell? ⟨T,2,none⟩=some (.bool nt))
   (first | (go_keep;done) | (exact⟨aed,aee⟩))
   (first | (go_at_call 68;refine(vW b o ak vars _ (by omega) hv0 (by exact Nu)).mono ?_;rintro e w1 ⟨g,cap',rfl,hf1,hr1,hg1⟩;have aed:w1.cell? ⟨T,0,none⟩=some (.slice (some ⟨b,o,none⟩) vars.length ak):=(hbW.drew.nw hf1).cell 0;have aee:w1.cell? ⟨T,2,none⟩=some (.bool nt):=(hbW.drew.nw hf1).cell 2))
  have hf2:Nw W w1:=hf1.gW;have hsz:W.heap.size<=w1.heap.size:=hf2.size;go_wp2
  go_meet
  case rel=>
   refine⟨w1.heap.size,g,cap',rfl,hf2.alloc _,?_,hr1.alloc _,hsz,hg1⟩
   exact af.new _ _ _
 case rest=>
  obtain⟨G,g,cap',rfl,hfx,hbx,hrx,hGx,hgx⟩:=hcut;have pU:af wc T #[.slice (some ⟨b,o,none⟩) vars.length ak,.slice ro rows.length au,.bool nt,.int .i64 way] 41:=hbW.nw hfx;have hc1':wc.cell? ⟨T,1,none⟩=some (.slice ro rows.length au):=pU.cell 1
  have hrc:=hrW.nw hfx;clear hc0 hc1 hc2 pU;have uI:g<wc.heap.size:=hrx.lt rfl;have Nv:g≠G:=fun e=>by subst e;exact hrx.ne hbx.out (by decide) rfl
  have aef:Nw w wc:=dM.trans hfx (fun i h=>h.elim)
  have hsW:=dM.size;go_wp2
  go_loopw [16] (fun i wr=>∃k:Nat,k<=rows.length/\i= .int .i64 k/\Fr (fun k=>k=G) wc wr/\Hid (af wr G (bf (.slice (some ⟨g,0,none⟩) vars.length cap') nt (iZ rows k) (2^k-1)) 131)) (fun i _=>rows.length-(intOf i).toNat)
  case atStart=>exact⟨0,Nat.zero_le _,rfl,Fr.refl _ _,hbx⟩
  case round=>
   obtain⟨k,hk,rfl,hf,hb⟩:=hrel;by_cases hlt:k<rows.length
   ·obtain⟨b1,o1,rr,Yp,rfl,hb1,hck,hrr⟩:=hrW k hlt;have Zk:Fr (fun j=>j=G) W wr:=(hfx.mono (fun i h=>h.elim)).trans hf (fun i h=>.inl h)
    have aeg:wr.cell? ⟨b1,o1+k,none⟩=some (.slice rr (rows.getD k []).length Yp):=(Zk.cell hb1 (by omega)).trans hck
    have hR4:=hrow k hlt;have hbs:iZ rows (k+1)=jM (iZ rows k) (rows.getD k []) (2^k) (6*(rows.getD k []).length):=rfl;have Zl:∀b o,rr=some ⟨b,o,none⟩->0<(rows.getD k []).length->b<W.heap.size:=fun b o e h0=>by
     obtain⟨b',o',e',hb',_⟩:=hrr 0 h0;rw[e] at e';cases e';exact hb'
    obtain⟨R,hR⟩:∃R,rows.getD k []=R:=⟨_,rfl⟩;rw[hR] at hrr aeg hR4 hbs Zl;have abw:ax wr rr R:=fun i hi=>by
     obtain⟨b',o',e',hb',hcc⟩:=hrr i hi;exact⟨b',o',e',Nat.lt_of_lt_of_le hb' Zk.size,(Zk.cell hb' (by omega)).trans hcc⟩
    have Zm:=hd hbs;have Hrr:=hd abw;have sN:=lU rows k;have hblt:=ER rows k;have WM:2^k<18446744073709551616:=Nat.lt_of_lt_of_le (Nat.pow_lt_pow_right (by omega) (show k<60 by omega)) (by decide)
    have hcl:wr.cell? ⟨G,26,none⟩=some (.int .u64 ((2^k-1:Nat):Int)):=(hb.out.cell 26).trans (jH _ _ _ _ sN)
    have hfz:=hb.out.free 26;have hwk:=RG k (by omega)
    have hor:=WL k;obtain⟨pk,hpk⟩:∃pk,2^k=pk:=⟨_,rfl⟩;rw[hpk] at hcl hwk WM hor hblt Zm hb;obtain⟨lv,hlv⟩:∃lv,pk-1=lv:=⟨_,rfl⟩;have abx:lv<18446744073709551616:=by omega
    rw[hlv] at hcl hor hb;have Hor:=hd hor;have Yq:∀j,(iZ rows k).getD j 0<18446744073709551616:=fun j=>Nat.lt_trans (hblt j) WM
    have aeh:=hd Yq;have H24:=hd sN;clear hck hrr abw hR hbs hrW hrc hpk hlv hor hblt Yq sN;go_wp2_with fail
    go_region
    have hb2:=hb.out.set 26 (.int .u64 ((lv ||| pk:Nat):Int))
    rw[mG _ _ _ _ _ H24.out,<-u64_or_nat lv pk abx WM] at hb2;have Hb2:=hd hb2.drew;clear hb2;have hf2:Fr (fun j=>j=G) wr (wr.setCell ⟨G,26,none⟩ (.int .u64 (bits .or .u64 (lv:Int) (pk:Int)))).drew:=((Fr.refl (fun j=>j=G) wr).setCell _ _ (.inl rfl)).drew
    have aby:ax (wr.setCell ⟨G,26,none⟩ (.int .u64 (bits .or .u64 (lv:Int) (pk:Int)))).drew rr R:=fun i hi=>by
     obtain⟨b',o',e',hb',hcc⟩:=Hrr.out i hi;exact⟨b',o',e',Nat.lt_of_lt_of_le hb' hf2.size,(hf2.cell hb' (by have:=Zl b' o' e' (by omega);omega)).trans hcc⟩
    have aei:=hd aby;clear aby;go_wp2_with (go_at_call 69;refine(add_any G (.slice (some ⟨g,0,none⟩) vars.length cap') nt (iZ rows k) (lv ||| pk) rr Yp R pk _ Hb2.out H24.out aeh.out WM hR4 aei.out (fun b o e h0=>by have:=Zl b o e h0;omega)).mono ?_;rintro e w' ⟨rfl,hf3,hb3⟩)
    refine⟨⟨k+1,by omega,by go_num,(hf.trans hf2 (fun i h=>.inl h)).trans hf3 (fun i h=>.inl h),?_⟩,by simp[intOf];omega⟩
    rw[Zm.out,<-Hor.out];exact hb3
   ·obtain rfl:k=rows.length:=by omega
    go_wp2
    go_ret
    refine⟨G,g,cap',rfl,aef.trans hf (fun i h=>.inr (by omega)),hb.out,hrx.fr hf (fun j hj e=>Nv (by cases hj;exact e)),by omega,by omega⟩
set_option maxRecDepth 1000000 in
theorem OW (b o:Nat) (ro:Option Addr) (ak au:Nat) (vars:List Int) (rows:List (List Int)) (nt:Bool) (dv:Array Value) (w:World)
  (hv0:0<vars.length) (hv4:vars.length<=4) (hrl:rows.length<=60) (hrow:∀i,i<rows.length->(rows.getD i []).length<=4) (hvs:ax w (some ⟨b,o,none⟩) vars) (hrs:dW w ro rows):
  Calls Tryz.prog 26 #[.agg #[.slice (some ⟨b,o,none⟩) vars.length ak,.slice ro rows.length au,.bool nt,.int .i64 1],.agg dv] w fun e w'=>
   ∃G g cap',e= .returned (.iface 91 (.pointer (some ⟨G,0,none⟩)))/\Nw w w'/\af w' G (bf (.slice (some ⟨g,0,none⟩) vars.length cap') nt (iZ rows rows.length) (2^rows.length-1)) 131 /\
    Row w' (.slice (some ⟨g,0,none⟩) vars.length cap') 3 (vars.map (Value.int .i64))/\w.heap.size<=G/\w.heap.size<=g:=by
 have hf0:Nw w ((w.alloc (.cells #[.slice (some ⟨b,o,none⟩) vars.length ak,.slice ro rows.length au,.bool nt,.int .i64 1] 41)).alloc (.cells dv 60)):=((Fr.refl _ w).alloc _).alloc _;go_enter Tryz.func26,Tryz.ntmps26
 go_wp2_with (go_at_call 42;refine(OV b o ro ak au vars rows nt 1 _ hv0 hv4 hrl hrow (hvs.nw hf0) (hrs.nw hf0)).mono ?_;rintro e w1 ⟨G,g,cap',rfl,hf1,hb1,hr1,hG1,hg1⟩)
 go_ret
 simp at hG1 hg1
 exact⟨G,g,cap',rfl,hf0.trans hf1 (fun i h=>h.elim),hb1,hr1,by omega,by omega⟩
abbrev ay (d:List Nat):Array Value:=(d.map (fun (x:Nat)=>Value.int .u8 (x:Int))).toArray
theorem dh (d:List Nat) (i:Nat) (h:i<d.length):(ay d)[i]? = some (.int .u8 (d.getD i 0:Nat)):=by
 simp[ay,h]
theorem ry (d:List Nat) (i x:Nat):(ay d).setIfInBounds i (.int .u8 (x:Int))=ay (d.set i x):=by
 simp[ay,List.map_set]
theorem nZ {d:List Nat} (h:d.length=8):∃d0 d1 d2 d3 d4 d5 d6 d7,d=[d0,d1,d2,d3,d4,d5,d6,d7]:=by
 match d,h with
 | [d0,d1,d2,d3,d4,d5,d6,d7],_=>exact⟨d0,d1,d2,d3,d4,d5,d6,d7,rfl⟩
theorem Fr.mJ {S:Nat->Prop} {a b:World} (h:Fr S a b) (g o0 o1 o2 o3 o4 o5 o6 o7:Nat) (v0 v1 v2 v3 v4 v5 v6 v7:Value) (hg:S g\/a.heap.size<=g):
  Fr S a ((((((((b.setCell ⟨g,o0,none⟩ v0).setCell ⟨g,o1,none⟩ v1).setCell ⟨g,o2,none⟩ v2).setCell ⟨g,o3,none⟩ v3).setCell ⟨g,o4,none⟩ v4).setCell ⟨g,o5,none⟩ v5).setCell ⟨g,o6,none⟩ v6).setCell ⟨g,o7,none⟩ v7):=
 (((((((h.setCell ⟨g,o0,none⟩ v0 hg).setCell ⟨g,o1,none⟩ v1 hg).setCell ⟨g,o2,none⟩ v2 hg).setCell ⟨g,o3,none⟩ v3 hg).setCell ⟨g,o4,none⟩ v4 hg).setCell ⟨g,o5,none⟩ v5 hg).setCell ⟨g,o6,none⟩ v6 hg).setCell ⟨g,o7,none⟩ v7 hg
theorem af.mJ {b:World} {g:Nat} {cur:Array Value} {e:TypeId} (h:af b g cur e) (o0 o1 o2 o3 o4 o5 o6 o7:Nat) (v0 v1 v2 v3 v4 v5 v6 v7:Value):
  af ((((((((b.setCell ⟨g,o0,none⟩ v0).setCell ⟨g,o1,none⟩ v1).setCell ⟨g,o2,none⟩ v2).setCell ⟨g,o3,none⟩ v3).setCell ⟨g,o4,none⟩ v4).setCell ⟨g,o5,none⟩ v5).setCell ⟨g,o6,none⟩ v6).setCell ⟨g,o7,none⟩ v7) g ((((((((cur.setIfInBounds o0 v0).setIfInBounds o1 v1).setIfInBounds o2 v2).setIfInBounds o3 v3).setIfInBounds o4 v4).setIfInBounds o5 v5).setIfInBounds o6 v6).setIfInBounds o7 v7) e:=
 (((((((h.set o0 v0).set o1 v1).set o2 v2).set o3 v3).set o4 v4).set o5 v5).set o6 v6).set o7 v7
theorem J6 (a0 a1 a2 a3 a4 a5 a6 a7 v0 v1 v2 v3 v4 v5 v6 v7:Value):((((((((#[a0,a1,a2,a3,a4,a5,a6,a7].setIfInBounds 0 v0).setIfInBounds 1 v1).setIfInBounds 2 v2).setIfInBounds 3 v3).setIfInBounds 4 v4).setIfInBounds 5 v5).setIfInBounds 6 v6).setIfInBounds 7 v7)=#[v0,v1,v2,v3,v4,v5,v6,v7]:=by simp
theorem cZ {w:World} {g:Nat} {v0 v1 v2 v3 v4 v5 v6 v7:Value} {e:TypeId} (h:af w g #[v0,v1,v2,v3,v4,v5,v6,v7] e):
  w.cell? ⟨g,0,none⟩=some v0/\w.cell? ⟨g,1,none⟩=some v1/\w.cell? ⟨g,2,none⟩=some v2/\w.cell? ⟨g,3,none⟩=some v3/\w.cell? ⟨g,4,none⟩=some v4/\w.cell? ⟨g,5,none⟩=some v5/\w.cell? ⟨g,6,none⟩=some v6/\w.cell? ⟨g,7,none⟩=some v7:=
 ⟨h.cell 0,h.cell 1,h.cell 2,h.cell 3,h.cell 4,h.cell 5,h.cell 6,h.cell 7⟩
def dX (vars:List Int) (a b:List Nat) (k:Nat):Bool:=(List.range k).any (fun i=>a.getD (vars.getD i 0).toNat 0 != b.getD (vars.getD i 0).toNat 0)
set_option maxRecDepth 1000000 in
theorem GH (vo:Option Addr) (cap:Nat) (vars:List Int) (a b:List Nat) (w:World) (h4:vars.length<=4) (hv:∀i,i<vars.length->0<=vars.getD i 0/\vars.getD i 0<8) (hvs:ax w vo vars)
  (ha:a.length=8) (hb:b.length=8):
  Calls Tryz.prog 116 #[.agg #[.slice vo vars.length cap],.agg (ay a),.agg (ay b)] w fun e w'=>
   e= .returned (.bool (dX vars a b vars.length))/\Nw w w':=by
 obtain⟨T,hT⟩:∃T,T=w.heap.size:=⟨_,rfl⟩;obtain⟨W,hW⟩:∃W,W=((w.alloc (.cells #[.slice vo vars.length cap] 118)).alloc (.cells (ay a) 60)).alloc (.cells (ay b) 60):=⟨_,rfl⟩;have dM:Nw w W:=by rw[hW];exact(((Fr.refl _ w).alloc _).alloc _).alloc _
 have Rj:af W (T+1) (ay a) 60:=by
  rw[hW,hT];have:=(af.new (w.alloc (.cells #[.slice vo vars.length cap] 118)) (ay a) 60).alloc (.cells (ay b) 60)
  simpa using this
 have hbB:af W (T+2) (ay b) 60:=by
  rw[hW,hT];have:=af.new ((w.alloc (.cells #[.slice vo vars.length cap] 118)).alloc (.cells (ay a) 60)) (ay b) 60
  simpa using this
 have Nu:=hvs.nw dM;go_enter Tryz.func116,Tryz.ntmps116
 go_wp2_with fail
 rw[<-hW,<-hT];clear hW hT hvs;go_loopw [12] (fun i wr=>∃k:Nat,k<=vars.length/\i= .int .i64 k/\(∃n,wr=W.drewN n)/\Hid (dX vars a b k=false)) (fun i _=>vars.length-(intOf i).toNat)
 case atStart=>exact⟨0,Nat.zero_le _,rfl,⟨0,rfl⟩,rfl⟩
 case round=>
  obtain⟨k,hk,rfl,⟨n,rfl⟩,HC⟩:=hrel;by_cases hlt:k<vars.length
  ·obtain⟨b1,o1,rfl,_,hck⟩:=Nu k hlt;obtain⟨hv0,jv⟩:=hv k hlt;obtain⟨q,hq⟩:∃q:Nat,vars.getD k 0=(q:Int):=⟨(vars.getD k 0).toNat,by omega⟩
   have hcs:dX vars a b (k+1)=(dX vars a b k || (a.getD q 0 != b.getD q 0)):=by
    simp only[dX,List.range_succ,List.any_append,List.any_cons,List.any_nil,Bool.or_false];rw[hq,Int.toNat_natCast]
   have hmono:dX vars a b (k+1)=true->dX vars a b vars.length=true:=fun h=>by
    simp only[dX,List.any_eq_true,List.mem_range] at h ⊢;obtain⟨i,hi,h'⟩:=h;exact⟨i,by omega,h'⟩
   rw[hq] at hck hv0 jv;have hcA:W.cell? ⟨T+1,q,none⟩=some (.int .u8 (a.getD q 0:Nat)):=(Rj.cell q).trans (dh a q (by omega))
   have hcB:W.cell? ⟨T+2,q,none⟩=some (.int .u8 (b.getD q 0:Nat)):=(hbB.cell q).trans (dh b q (by omega))
   have J7:=hd hcs;have abz:=hd hmono;obtain⟨x,hx⟩:∃x,a.getD q 0=x:=⟨_,rfl⟩;obtain⟨y,hy⟩:∃y,b.getD q 0=y:=⟨_,rfl⟩;rw[hx] at hcA J7;rw[hy] at hcB J7;clear hcs hmono hq hx hy Nu hv Rj hbB;by_cases hxy:x=y
   ·subst hxy;go_wp2
    go_quiet (fail)
    go_wp2
    refine⟨⟨k+1,by omega,by go_num,⟨_,rfl⟩,?_⟩,by simp[intOf];omega⟩
    show _=_
    rw[J7.out,HC.out];simp
   ·have hxy':((x:Int) != (y:Int))=true:=by simp;omega
    go_wp2
    go_quiet (fail)
    go_wp2
    go_ret
    refine⟨?_,(dM.drewN _).drewN _⟩
    rw[abz.out (by rw[J7.out,HC.out];simp[hxy])]
    rfl
  ·obtain rfl:k=vars.length:=by omega
   go_wp2
   go_ret
   exact⟨by rw[HC.out];rfl,dM.drewN _⟩
def eu (vars:List Int) (d s:List Nat):Nat->List Nat
 | 0=>d
 | k+1=>(eu vars d s k).set (vars.getD k 0).toNat (s.getD (vars.getD k 0).toNat 0)
theorem gy (vars:List Int) (d s:List Nat):∀k,(eu vars d s k).length=d.length
 | 0=>rfl
 | k+1=>by simp[eu,gy vars d s k]
set_option maxRecDepth 1000000 in
theorem qi (vo:Option Addr) (cap:Nat) (vars:List Int) (a b:List Nat) (w:World) (h4:vars.length<=4) (hv:∀i,i<vars.length->0<=vars.getD i 0/\vars.getD i 0<8) (hvs:ax w vo vars)
  (ha:a.length=8) (hb:b.length=8):
  Calls Tryz.prog 122 #[.agg #[.slice vo vars.length cap],.agg (ay a),.agg (ay b)] w fun e w'=>
   e= .returned (.agg (ay (eu vars a b vars.length)))/\Nw w w':=by
 obtain⟨T,hT⟩:∃T,T=w.heap.size:=⟨_,rfl⟩;obtain⟨Z,hZ⟩:∃Z,Z=#[Value.int .u8 0,.int .u8 0,.int .u8 0,.int .u8 0,.int .u8 0,.int .u8 0,.int .u8 0,.int .u8 0]:=⟨_,rfl⟩;obtain⟨W,hW⟩:∃W,W=(((w.alloc (.cells #[.slice vo vars.length cap] 118)).alloc (.cells (ay a) 60)).alloc (.cells (ay b) 60)).alloc (.cells Z 60):=⟨_,rfl⟩;have dM:Nw w W:=by rw[hW];exact((((Fr.refl _ w).alloc _).alloc _).alloc _).alloc _
 have Rj:af W (T+1) (ay a) 60:=by
  rw[hW,hT];have:=((af.new (w.alloc (.cells #[.slice vo vars.length cap] 118)) (ay a) 60).alloc (.cells (ay b) 60)).alloc (.cells Z 60)
  simpa using this
 have hbB:af W (T+2) (ay b) 60:=by
  rw[hW,hT];have:=(af.new ((w.alloc (.cells #[.slice vo vars.length cap] 118)).alloc (.cells (ay a) 60)) (ay b) 60).alloc (.cells Z 60)
  simpa using this
 have hbR:af W (T+3) Z 60:=by
  rw[hW,hT];have:=af.new (((w.alloc (.cells #[.slice vo vars.length cap] 118)).alloc (.cells (ay a) 60)).alloc (.cells (ay b) 60)) Z 60
  simpa using this
 have Nu:=hvs.nw dM;have aej:∀b o,vo=some ⟨b,o,none⟩->0<vars.length->b<T:=fun b o e h0=>by
  obtain⟨b',o',e',hb',_⟩:=hvs 0 h0;rw[e] at e';cases e';omega
 have HsT:=hd hT.symm;have HZ:=hd hZ;have HW:=hd hW;have HT:=hd hT;clear hW hT hZ;go_enter Tryz.func122,Tryz.ntmps122
 go_wp2_with fail
 rw[<-HZ.out,<-HW.out,<-HT.out];clear hvs HW HT;go_loopw [12] (fun i wr=>∃k:Nat,k<=vars.length/\i= .int .i64 k/\Fr (fun j=>j=T+1) W wr/\Hid (af wr (T+1) (ay (eu vars a b k)) 60)) (fun i _=>vars.length-(intOf i).toNat)
 case atStart=>exact⟨0,Nat.zero_le _,rfl,Fr.refl _ _,Rj⟩
 case round=>
  obtain⟨k,hk,rfl,hf,hbk⟩:=hrel;have hrlen:(eu vars a b k).length=8:=by rw[gy];exact ha
  by_cases hlt:k<vars.length
  ·obtain⟨b1,o1,rfl,hb1,hck0⟩:=Nu k hlt;have agF:=aej b1 o1 rfl (by omega)
   have hck:wr.cell? ⟨b1,o1+k,none⟩=some (.int .i64 (vars.getD k 0)):=(hf.cell hb1 (by omega)).trans hck0
   obtain⟨hv0,jv⟩:=hv k hlt;obtain⟨q,hq⟩:∃q:Nat,vars.getD k 0=(q:Int):=⟨(vars.getD k 0).toNat,by omega⟩
   have hcs:eu vars a b (k+1)=(eu vars a b k).set q (b.getD q 0):=by
    simp only[eu];rw[hq,Int.toNat_natCast]
   rw[hq] at hck hv0 jv;have OX:af wr (T+2) (ay b) 60:=hbB.fr hf (by omega)
   have hcB:wr.cell? ⟨T+2,q,none⟩=some (.int .u8 (b.getD q 0:Nat)):=(OX.cell q).trans (dh b q (by omega))
   have hcA:wr.cell? ⟨T+1,q,none⟩=some (.int .u8 ((eu vars a b k).getD q 0:Nat)):=(hbk.out.cell q).trans (dh _ q (by omega))
   have hfz:=hbk.out.free q;have J7:=hd hcs;obtain⟨y,hy⟩:∃y,b.getD q 0=y:=⟨_,rfl⟩;obtain⟨x,hx⟩:∃x,(eu vars a b k).getD q 0=x:=⟨_,rfl⟩;rw[hy] at hcB J7;rw[hx] at hcA;clear hcs hq hx hy Nu hv Rj hbB OX hck0 hbR;go_wp2
   refine⟨⟨k+1,by omega,by go_num,hf.setCell _ _ (.inl rfl),?_⟩,by simp[intOf];omega⟩
   show af _ _ _ _
   rw[J7.out,<-ry];exact hbk.out.set q _
  ·obtain rfl:k=vars.length:=by omega
   have zK:af wr (T+3) Z 60:=hbR.fr hf (by omega)
   rw[HZ.out] at zK;obtain⟨d0,d1,d2,d3,d4,d5,d6,d7,hd8⟩:=nZ hrlen;have hb8:=hbk.out;rw[hd8] at hb8;have r0:wr.cell? ⟨T+1,0,none⟩=some (.int .u8 (d0:Int)):=hb8.cell 0
   have r1:wr.cell? ⟨T+1,1,none⟩=some (.int .u8 (d1:Int)):=hb8.cell 1
   have r2:wr.cell? ⟨T+1,2,none⟩=some (.int .u8 (d2:Int)):=hb8.cell 2
   have r3:wr.cell? ⟨T+1,3,none⟩=some (.int .u8 (d3:Int)):=hb8.cell 3
   have r4:wr.cell? ⟨T+1,4,none⟩=some (.int .u8 (d4:Int)):=hb8.cell 4
   have r5:wr.cell? ⟨T+1,5,none⟩=some (.int .u8 (d5:Int)):=hb8.cell 5
   have r6:wr.cell? ⟨T+1,6,none⟩=some (.int .u8 (d6:Int)):=hb8.cell 6
   have r7:wr.cell? ⟨T+1,7,none⟩=some (.int .u8 (d7:Int)):=hb8.cell 7
   have s0:wr.cell? ⟨T+3,0,none⟩=some (.int .u8 0):=zK.cell 0
   have s1:wr.cell? ⟨T+3,1,none⟩=some (.int .u8 0):=zK.cell 1
   have s2:wr.cell? ⟨T+3,2,none⟩=some (.int .u8 0):=zK.cell 2
   have s3:wr.cell? ⟨T+3,3,none⟩=some (.int .u8 0):=zK.cell 3
   have s4:wr.cell? ⟨T+3,4,none⟩=some (.int .u8 0):=zK.cell 4
   have s5:wr.cell? ⟨T+3,5,none⟩=some (.int .u8 0):=zK.cell 5
   have s6:wr.cell? ⟨T+3,6,none⟩=some (.int .u8 0):=zK.cell 6
   have s7:wr.cell? ⟨T+3,7,none⟩=some (.int .u8 0):=zK.cell 7
   have f0:∀i,wr.frozen? ⟨T+3,i,none⟩=false:=zK.free
   have Hd8:=hd hd8;have HR:=hd zK;clear hb8 hd8 hbk Nu hv Rj hbB hbR zK hrlen;go_wp2
   have hB:=HR.out.mJ 0 1 2 3 4 5 6 7 (.int .u8 (d0:Int)) (.int .u8 (d1:Int)) (.int .u8 (d2:Int)) (.int .u8 (d3:Int)) (.int .u8 (d4:Int)) (.int .u8 (d5:Int)) (.int .u8 (d6:Int)) (.int .u8 (d7:Int));have hF:Nw w wr:=dM.trans hf (fun i h=>.inr (by have:=HsT.out;omega))
   have tV:=hF.mJ (T+3) 0 1 2 3 4 5 6 7 (.int .u8 (d0:Int)) (.int .u8 (d1:Int)) (.int .u8 (d2:Int)) (.int .u8 (d3:Int)) (.int .u8 (d4:Int)) (.int .u8 (d5:Int)) (.int .u8 (d6:Int)) (.int .u8 (d7:Int)) (.inr (by have:=HsT.out;omega))
   have jv:ay (eu vars a b vars.length)=#[.int .u8 (d0:Int),.int .u8 (d1:Int),.int .u8 (d2:Int),.int .u8 (d3:Int),.int .u8 (d4:Int),.int .u8 (d5:Int),.int .u8 (d6:Int),.int .u8 (d7:Int)]:=by rw[Hd8.out];rfl
   generalize hX:((((((((wr.setCell ⟨T+1+1+1,0,none⟩ (Value.int .u8 (d0:Int))).setCell ⟨T+1+1+1,1,none⟩ (Value.int .u8 (d1:Int))).setCell ⟨T+1+1+1,2,none⟩ (Value.int .u8 (d2:Int))).setCell ⟨T+1+1+1,3,none⟩ (Value.int .u8 (d3:Int))).setCell ⟨T+1+1+1,4,none⟩ (Value.int .u8 (d4:Int))).setCell ⟨T+1+1+1,5,none⟩ (Value.int .u8 (d5:Int))).setCell ⟨T+1+1+1,6,none⟩ (Value.int .u8 (d6:Int))).setCell ⟨T+1+1+1,7,none⟩ (Value.int .u8 (d7:Int)))=X
   rw[show T+3=T+1+1+1 from rfl] at hB tV
   rw[hX] at hB tV;rw[J6] at hB;obtain⟨q0,q1,q2,q3,q4,q5,q6,q7⟩:=cZ hB;refine bodyPost_ret (v:=.agg (ay (eu vars a b vars.length))) ?_ rfl ⟨rfl,tV⟩
   rw[jv];simp[results,Tryz.results122,go_sem,q0,q1,q2,q3,q4,q5,q6,q7]
theorem Tryz.Zn:Tryz.prog.underlying 60=some (.array 8 58):=by kernel_rfl
theorem J8 (n:Nat) (hn:n<=8) (b:Nat) (W:World):(Instr.sliceAt 60 (.pointer (some ⟨b,0,none⟩)) none (some (.int .i64 (n:Int))) none).run Tryz.prog W= .ok (.slice (some ⟨b,0,none⟩) n 8) W:=by
 have h1:Tryz.prog.arrayLen 60=8:=by kernel_rfl
 have h2:Tryz.prog.elem 60=58:=by kernel_rfl
 rw[run_sliceAt_array_h W 60 ⟨b,0,none⟩ (by rw[h1,h2];exact Tryz.Zn) .i64 n (by omega) (by rw[h1];omega),h1,h2]
 simp[go_sem,slicedAt]
theorem Ai (b o n cap:Nat) (xs:List Nat) (w:World) (hn:xs.length=n) (hl:xs.length<=1000)
  (hc:∀i,i<xs.length->w.cell? ⟨b,o+i,none⟩=some (.int .u8 (xs.getD i 0:Nat))):
  Calls Tryz.prog 70 #[.slice (some ⟨b,o,none⟩) n cap,.int .u8 0] w fun e w'=>e= .returned (.bool (xs.contains 0))/\w'=w:=by
 subst hn;exact zI b o cap xs w hl hc
def Aj (n:Nat) (dn:List Nat):Bool:=(dn.take n).contains 0
set_option maxRecDepth 1000000 in
theorem GK (X:Nat) (az:Value) (d:List Nat) (tv:Value) (l:Rest) (zs:List Int) (dn:List Nat) (w:World) (hX:af w X (ah az d tv l) 66)
  (hsz:Row w az 3 (zs.map (Value.int .i64))) (hl:zs.length<=8) (h8:dn.length=8):
  Calls Tryz.prog 43 #[.pointer (some ⟨X,0,none⟩),.agg (ay dn)] w fun e w'=>e= .returned (.bool (Aj zs.length dn))/\Nw w w':=by
 have hf0:Nw w (w.alloc (.cells (ay dn) 60)):=(Fr.refl _ w).alloc _;have hb0:af (w.alloc (.cells (ay dn) 60)) w.heap.size (ay dn) 60:=af.new _ _ _;have hXlt:=hX.lt;have h1:w.cell? ⟨X,0,none⟩=some az:=(hX.cell 0).trans (iC ..)
 have htl:(dn.take zs.length).length=zs.length:=by simp;omega
 have hcs:∀i,i<(dn.take zs.length).length->(w.alloc (.cells (ay dn) 60)).cell? ⟨w.heap.size,0+i,none⟩=some (.int .u8 ((dn.take zs.length).getD i 0:Nat)):=fun i hi=>by
  rw[Nat.zero_add,hb0.cell,dh dn i (by omega)]
  rw[htl] at hi;simp[List.getElem?_take_of_lt hi]
 obtain⟨ao,cap,hf,_⟩:=hsz.form;simp only[List.length_map] at hf;rw[hf] at h1;have hsl:=J8 zs.length hl;obtain⟨eb,heb⟩:∃eb,Aj zs.length dn=eb:=⟨_,rfl⟩;have abA:(dn.take zs.length).contains 0=eb:=heb;rw[heb];have Heb:=hd abA;clear heb abA;have J7:=hd hcs;have Hb0:=hd hb0;clear hf hX hsz hcs hb0;go_enter Tryz.func43,Tryz.ntmps43
 go_wp2_with (go_at_call 70;refine(Ai w.heap.size 0 zs.length _ (dn.take zs.length) _ htl (by omega) J7.out).mono ?_;rw[Heb.out];rintro e w' ⟨rfl,rfl⟩)
 go_ret
 exact⟨rfl,hf0⟩
end Go.Proofs.YtkjfpdfkcfgfkaaGreat
namespace Go.Proofs.YtkjfpdfkcfgfkaaGreat
open Go.RowKit Go.Shelf
def Marks (A:World) (base:Nat) (Ds:List Nat):Prop:=Ds.Nodup/\∀D∈Ds,base<=D/\A.heap[D]? = some (.deferred (some []))
theorem Marks.nil (A:World) (base:Nat):Marks A base []:=⟨List.nodup_nil,fun D h=>by cases h⟩
theorem Marks.keeps {A B:World} {base:Nat} {Ds:List Nat} (h:Marks A base Ds) (k:jV A B):Marks B base Ds:=
 ⟨h.1,fun D hD=>⟨(h.2 D hD).1,k.same D _ (h.2 D hD).2 rfl⟩⟩
theorem Marks.lt {A:World} {base:Nat} {Ds:List Nat} (h:Marks A base Ds):∀D∈Ds,D<A.heap.size:=fun D hD=>lt_of_block (h.2 D hD).2
theorem Marks.bk {A B:World} {base lo:Nat} {Ds:List Nat} (h:Marks A base Ds) (hl:∀D∈Ds,D<lo) (hb:Bk lo A B):Marks B base Ds:=by
 obtain⟨row,hg,hr⟩:=hb;refine⟨h.1,fun D hD=>⟨(h.2 D hD).1,?_⟩⟩
 rw[hg.block D (h.lt D hD) (fun e=>by have:=(hr D e.symm).1;have:=hl D hD;omega)]
 exact(h.2 D hD).2
theorem Marks.cons {A:World} {base D:Nat} {Ds:List Nat} (h:Marks A base Ds) (hb:base<=D) (hn:∀E∈Ds,E<D) (hD:A.heap[D]? = some (.deferred (some []))):Marks A base (D::Ds):=by
 refine⟨List.nodup_cons.2 ⟨fun hm=>?_,h.1⟩,fun E hE=>?_⟩
 ·have:=hn D hm;omega
 ·rcases List.mem_cons.1 hE with rfl | hE
  ·exact⟨hb,hD⟩
  ·exact h.2 E hE
theorem qj {n:Nat} {fn:Func} {tmps:Array Value} {R:Ending->World->Prop} (J:World->Prop) (base:Nat) (hJ:∀A B,J A->Bk base A B->J B)
  (hend:∀A,J A->LeavesInM Fence.wide n Tryz.prog fn tmps R [] .returning A):∀(Ds:List Nat) (A:World),J A->Marks A base Ds->LeavesInM Fence.wide n Tryz.prog fn tmps R (Ds.map mark) .returning A
 | [],A,hA,_=>hend A hA
 | D::Ds,A,hA,hM=>by
  have hD:=hM.2 D (List.mem_cons_self ..);have hnd:=List.nodup_cons.1 hM.1;refine⟨by simp,.inl ⟨D,A.putObj D (.deferred none),rfl,run_takeDeferred hD.2,?_⟩⟩
  refine qj J base hJ hend Ds _ (hJ _ _ hA (Bk.put (.deferred none) hD.1 hD.2 rfl)) ⟨hnd.2,fun E hE=>⟨(hM.2 E (List.mem_cons_of_mem _ hE)).1,?_⟩⟩
  rw[World.putObj_heap_other (fun e=>hnd.1 (by rw[e] at hE;exact hE))]
  exact(hM.2 E (List.mem_cons_of_mem _ hE)).2
end Go.Proofs.YtkjfpdfkcfgfkaaGreat
namespace Go.Proofs.YtkjfpdfkcfgfkaaGreat
open Go.RowKit Go.Shelf
theorem RH {P:Program} {Q:Exit->Act->World->Prop} {a:Act} {w:World} {l:List Oper} (n:Nat) (hB:Region.lexTailB .any l.toArray n=true)
  (h:wpStill P l.toArray w (fun a'=>wpList P l.toArray Q (l.drop n) a' w) (l.take n) a):
  wpAny P .any l.toArray Q l.toArray.size (Array.replicate l.toArray.size false) a w:=by
 simp only[Region.lexTailB,Bool.and_eq_true,decide_eq_true_eq] at hB;have hn:n<l.length:=by simpa using hB.1.1.1.2
 have ht:(l.take n).length=n:=by rw[List.length_take];omega
 have hr:(l.drop n).length=l.toArray.size-n:=by simp
 have start:HeadInv .any l.toArray n (Array.replicate l.toArray.size false):=by
  refine⟨by simp,fun j oj _ hj=>?_,fun t _ h2=>getD_in (by simpa using h2) (getD_replicate_false _ _)⟩
  rw[getD_replicate_false] at hj;cases hj
 have hhead:=wpAnyL_lex (md:=.any) (g:=l.toArray.size-n) hB.1.1.1.1 hB.1.1.2 hB.1.2 hB.1.1.1.2 (l.take n) 0 _ a
  (fun j hj=>by rw[ht] at hj;simp[hj]) (by rw[Nat.zero_add];exact ht) start (by rw[ht];exact hB.2) h
 have hall:=wpAny_of_head (Q':=Q) (g:=l.toArray.size-n) (fun listed a' hL=>by
  have hseq:=wpAny_of_seq (md:=.any) (Q':=Q) (l.drop n) n listed a' w (fun j=>by simp[List.getElem?_drop]) (by rw[hr];exact hL.1) hL.2
  rwa [hr] at hseq) _ _ _ hhead
 rw[ht,show n+(l.toArray.size-n)=l.toArray.size by simp;omega] at hall
 exact hall
theorem WN {P:Program} {o:Oper} {a:Act} {w:World} {K:Act->World->Prop} {Q:Exit->Act->World->Prop} (lp m:Nat) (hnd:∀c,o.op≠.defer c)
  (h:o.wp P a w K Q):o.wpIn (Fence.wide.inRound lp) m P a w K Q:=by
 refine⟨fun _ _=>trivial,?_⟩
 rw[Oper.semAt_eq _ _ _ hnd];unfold Oper.wp at h;generalize hr:(execOp a.eval o).run P w=r at *
 cases r with
 | ok x w'=>
  cases x with
  | enter f args=>exact⟨(fun h=>by cases h),CallsIn.inRound lp (callsIn_wide.2 h)⟩
  | row row args=>exact⟨(fun h=>by cases h),fun c cs _=>let ⟨v,w2,r,s⟩:=h c cs;⟨v,w2,r,stepsIn_wide.2 s⟩⟩
  | round l f tmps assign body=>exact(h:False).elim
  | _=>exact h
 | halt x w'=>cases x <;> exact h
theorem x8 {P:Program} {md:Region.Mode} {ops:Array Oper} {Q:Exit->Act->World->Prop} (lp m:Nat) (hQ:∀a w,¬Q .outgrown a w) (hnd:∀(j:Nat) (o:Oper),ops[j]? = some o->∀c,o.op≠.defer c):
  ∀(fuel:Nat) (listed:Array Bool) (a:Act) (w:World),wpAny P md ops Q fuel listed a w->wpAnyIn (Fence.wide.inRound lp) m P md ops Q fuel listed a w
 | 0,_,_,_,h=>h
 | fuel+1,listed,a,w,h=>by
  refine⟨h.1,fun i hi=>?_⟩
  have hw:=h.2 i hi;unfold wpOp at hw;unfold wpOpIn;cases ho:ops[i]? with
  | none=>simp only[ho] at hw;exact x8 lp m hQ hnd fuel _ _ _ hw
  | some o=>
   simp only[ho] at hw;by_cases hwant:Region.wanted o (yielded ops a.tmps)=true
   ·simp only[hwant,if_true] at hw ⊢;rcases hw with hw | ⟨_,x,y,hxy⟩
    ·exact Oper.wpIn_mono (fun a w h'=>x8 lp m hQ hnd fuel _ a w h') (WN lp m (hnd i o ho) hw)
    ·exact(hQ x y hxy).elim
   ·simp only[hwant] at hw ⊢;exact⟨fun _ _=>trivial,x8 lp m hQ hnd fuel _ _ _ hw⟩
def sO (l:List Oper):Bool:=l.all (fun o=>match o.op with | .defer _=>false | _=>true)
theorem lq {Q:Exit->Act->World->Prop} {a:Act} {w:World} {l:List Oper} {id lp k:Nat} (m:Nat) (hB:Region.lexTailB .any l.toArray m=true) (hnd:sO l=true) (hQ:∀a w,¬Q .outgrown a w)
  (h:wpStill Tryz.prog l.toArray w.drew (fun a'=>wpList Tryz.prog l.toArray Q (l.drop m) a' w.drew) (l.take m) a):
  (Code.region id l.toArray true).wpIn (Fence.wide.inRound lp) k Tryz.prog Q a w:=by
 refine wpIn_region_any (by kernel_rfl) (x8 lp k hQ (fun j o ho c hc=>?_) _ _ _ _ (RH m hB h))
 have hmem:o∈l:=by
  have:=List.mem_of_getElem? (l:=l) (i:=j) (a:=o) (by simpa using ho)
  exact this
 have:=List.all_eq_true.1 hnd o hmem
 rw[hc] at this;cases this
end Go.Proofs.YtkjfpdfkcfgfkaaGreat
namespace Go.Proofs.YtkjfpdfkcfgfkaaGreat
open Go.RowKit Go.Shelf
attribute [local go_sem] Oper.semAt_some
def x9 (br:List Nat) (i:Nat) (vs:List Nat):Nat:=vs.foldl (fun acc v=>acc ||| br.getD (6*i+v) 0) 0
theorem OY (br:List Nat) (i:Nat) (vs:List Nat) (v:Nat):x9 br i (vs++[v])=x9 br i vs ||| br.getD (6*i+v) 0:=by simp[x9]
theorem Ny (br:List Nat) (i:Nat) (hbr:∀j,br.getD j 0<18446744073709551616) (vs:List Nat):x9 br i vs<18446744073709551616:=by
 suffices h:∀(vs:List Nat) (acc:Nat),acc<2^64->vs.foldl (fun acc v=>acc ||| br.getD (6*i+v) 0) acc<2^64 from h vs 0 (by decide)
 intro vs;induction vs with
 | nil=>intro acc h;exact h
 | cons v vs ih=>intro acc h;exact ih _ (Nat.or_lt_two_pow h (hbr _))
def jw (br:List Nat) (vars:List Int) (dn:List Nat) (live:Nat):Nat->Nat
 | 0=>live
 | k+1=>jw br vars dn live k &&& x9 br k (vals (dn.getD (vars.getD k 0).toNat 0))
theorem o9 (br:List Nat) (vars:List Int) (dn:List Nat) (live:Nat) (hl:live<18446744073709551616):∀k,jw br vars dn live k<18446744073709551616
 | 0=>hl
 | k+1=>Nat.lt_of_le_of_lt Nat.and_le_left (o9 br vars dn live hl k)
theorem ES:∀s:Fin 64,∀v∈vals s.val,v<6:=by decide +kernel
theorem fE {s v:Nat} (hs:s<64) (hv:v∈vals s):v<6:=ES ⟨s,hs⟩ v hv
structure lV (w wr:World) (G g cap T:Nat) (nt:Bool) (br:List Nat) (live:Nat) (vars:List Int) (dn Ds:List Nat):Prop where
 fr:Fr (fun k=>k=G) w wr
 bG:af wr G (bf (.slice (some ⟨g,0,none⟩) vars.length cap) nt br live) 131
 bT:af wr T #[.pointer (some ⟨G,0,none⟩)] 91
 bD:af wr (T+1) (ay dn) 60
 rv:Row wr (.slice (some ⟨g,0,none⟩) vars.length cap) 3 (vars.map (Value.int .i64))
 ms:Marks wr w.heap.size Ds
theorem lV.ext {w wr wx:World} {G g cap T:Nat} {nt:Bool} {br:List Nat} {live:Nat} {vars:List Int} {dn Ds:List Nat} {S:Nat->Prop} (h:lV w wr G g cap T nt br live vars dn Ds) (f:Fr S wr wx)
  (hs:∀k,S k->wr.heap.size<=k):lV w wx G g cap T nt br live vars dn Ds:=by
 have hn:∀k,k<wr.heap.size->¬S k:=fun k hk hS=>by have:=hs k hS;omega
 have f':Nw wr wx:=f.mono (fun k hk=>.inr (hs k hk))
 exact⟨h.fr.trans f' (fun i x=>x.elim),h.bG.nw f',h.bT.nw f',h.bD.nw f',h.rv.nw f',h.ms.keeps (f'.keeps (fun k x=>x.elim))⟩
theorem lV.bk {w wr wx:World} {G g cap T lo:Nat} {nt:Bool} {br:List Nat} {live:Nat} {vars:List Int} {dn Ds:List Nat} (h:lV w wr G g cap T nt br live vars dn Ds) (hb:Bk lo wr wx) (hl:w.heap.size<=lo) (hD:∀D∈Ds,D<lo):
  lV w wx G g cap T nt br live vars dn Ds:=⟨h.fr.bk hb hl,h.bG.bk hb,h.bT.bk hb,h.bD.bk hb,h.rv.bk hb,h.ms.bk hD hb⟩
theorem lV.put {w wr:World} {G g cap T:Nat} {nt:Bool} {br:List Nat} {live:Nat} {vars:List Int} {dn Ds:List Nat} (h:lV w wr G g cap T nt br live vars dn Ds) (p:Addr) (u:Value) {cur:Array Value} {e:TypeId} (hp:af wr p.block cur e)
  (h1:p.block≠G) (h2:p.block≠T) (h3:p.block≠T+1) (h4:p.block≠g) (h5:w.heap.size<=p.block):lV w (wr.setCell p u) G g cap T nt br live vars dn Ds:=by
 have f:Fr (fun k=>k=p.block) wr (wr.setCell p u):=(Fr.refl _ wr).setCell p u (.inl rfl)
 exact⟨h.fr.setCell p u (.inr h5),h.bG.other p u h1.symm,h.bT.other p u h2.symm,h.bD.other p u h3.symm,h.rv.fr f (fun k hk e=>h4 (by cases hk;exact e.symm)),
  h.ms.keeps (f.keeps (fun k hk=>by subst hk;exact⟨_,_,hp⟩))⟩
theorem lV.drew {w wr:World} {G g cap T:Nat} {nt:Bool} {br:List Nat} {live:Nat} {vars:List Int} {dn Ds:List Nat} (h:lV w wr G g cap T nt br live vars dn Ds):lV w wr.drew G g cap T nt br live vars dn Ds:=
 ⟨h.fr.drew,h.bG,h.bT,h.bD,h.rv.drew,h.ms⟩
set_option maxRecDepth 1000000 in
theorem GL (G g cap:Nat) (nt:Bool) (br:List Nat) (live:Nat) (vars:List Int) (dn:List Nat) (w:World) (hG:af w G (bf (.slice (some ⟨g,0,none⟩) vars.length cap) nt br live) 131)
  (hvs:Row w (.slice (some ⟨g,0,none⟩) vars.length cap) 3 (vars.map (Value.int .i64))) (h8:dn.length=8) (sN:br.length=24) (hbr:∀j,br.getD j 0<18446744073709551616) (hlive:live<18446744073709551616)
  (h4:vars.length<=4) (hv:∀i,i<vars.length->0<=vars.getD i 0/\vars.getD i 0<8) (aX:∀q,dn.getD q 0<64):
  Calls Tryz.prog 126 #[.pointer (some ⟨G,0,none⟩),.agg (ay dn)] w fun e w'=>e= .returned (.tuple #[])/\Fr (fun k=>k=G) w w' /\
   af w' G (bf (.slice (some ⟨g,0,none⟩) vars.length cap) nt br (jw br vars dn live vars.length)) 131:=by
 have hmf:∀(fn:Fn) (first cap:Array Value) (w:World),(Instr.makeFunc fn first cap).run Tryz.prog w= .ok (.func fn first cap) w:=fun _ _ _ _=>rfl
 refine(callsIn_wide (n:=9)).1 ?_
 refine callsIn_of_wp_marks Tryz.func126 rfl trivial ?_ rfl
 simp only[Tryz.ntmps126,List.size_toArray,List.length_cons,List.length_nil,Nat.reduceAdd,Nat.reduceSub,Array.replicate_succ,Array.replicate_zero,List.push_toArray,List.append_toArray,List.nil_append,List.cons_append];have hc0:w.cell? ⟨G,0,none⟩=some (.slice (some ⟨g,0,none⟩) vars.length cap):=hG.cell 0
 have uI:=hG.lt;have OZ:g<w.heap.size:=hvs.lt rfl;have Nv:g≠G:=fun e=>by subst e;exact hvs.ne hG (by decide) rfl
 have DJ:Nw w ((w.alloc (.cells #[.pointer (some ⟨G,0,none⟩)] 91)).alloc (.cells (ay dn) 60)):=((Fr.refl _ w).alloc _).alloc _;have hI0:lV w ((w.alloc (.cells #[.pointer (some ⟨G,0,none⟩)] 91)).alloc (.cells (ay dn) 60)) G g cap w.heap.size nt br live vars dn []:=
  ⟨DJ.mono (fun i h=>h.elim),hG.nw DJ,(af.new w _ _).alloc _,by have:=af.new (w.alloc (.cells #[.pointer (some ⟨G,0,none⟩)] 91)) (ay dn) 60;simpa using this,hvs.nw DJ,Marks.nil _ _⟩
 gi_wp2_with fail
 have HI0:=hd hI0;clear hI0 hG hvs hc0 DJ;refine wpIn_loop (fun a wr=>∃(k:Nat) (Ds:List Nat) (u4 u5 u6 u7 u15 u16 u17 u18 u19 u20 u21 u22 u23 u24 u25 u26 u27 u28 u29 u30 u31 u32 u33 u34 u35 u36 u37 u38 u39 u40 u41 u42:Value),k<=vars.length/\lV w wr G g cap w.heap.size nt br (jw br vars dn live k) vars dn Ds /\
  a={tmps:=#[.pointer (some ⟨G,0,none⟩),.agg (ay dn),.pointer (some ⟨w.heap.size,0,none⟩),.pointer (some ⟨w.heap.size+1,0,none⟩),u4,u5,u6,u7,.pointer (some ⟨G,0,none⟩),.pointer (some ⟨G,0,none⟩),.pointer (some ⟨G,0,none⟩),.pointer (some ⟨G,0,none⟩),.slice (some ⟨g,0,none⟩) vars.length cap,.int .i64 vars.length,.int .i64 k,u15,u16,u17,u18,u19,u20,u21,u22,u23,u24,u25,u26,u27,u28,u29,u30,u31,u32,u33,u34,u35,u36,u37,u38,u39,u40,u41,u42],defers:=Ds.map mark}) (fun a _=>vars.length-(intOf (a.tmps.getD 14 undef)).toNat) ?start ?round
 case start=>exact⟨0,[],undef,undef,undef,undef,undef,undef,undef,undef,undef,undef,undef,undef,undef,undef,undef,undef,undef,undef,undef,undef,undef,undef,undef,undef,undef,undef,undef,undef,undef,undef,undef,undef,Nat.zero_le _,HI0.out,rfl⟩
 case round=>
  rintro a wr ⟨k,Ds,u4,u5,u6,u7,u15,u16,u17,u18,u19,u20,u21,u22,u23,u24,u25,u26,u27,u28,u29,u30,u31,u32,u33,u34,u35,u36,u37,u38,u39,u40,u41,u42,hk,hI,rfl⟩
  clear HI0;by_cases hlt:k<vars.length
  ·have hvk:=(hI.rv.at_ k (by simpa using hlt)).1
   simp only[List.getElem_map] at hvk;obtain⟨hv0,jv⟩:=hv k hlt;have hgd:vars.getD k 0=vars[k]:=by simp[hlt]
   rw[hgd] at hv0 jv;obtain⟨q,hq⟩:∃q:Nat,vars[k]=(q:Int):=⟨vars[k].toNat,by omega⟩
   rw[hq] at hvk hv0 jv;have hq8:q<8:=by omega
   have hsx:=aX q;have hcD:∀A B,((wr.alloc A).alloc B).cell? ⟨w.heap.size+1,q,none⟩=some (.int .u8 (dn.getD q 0:Nat)):=fun A B=>(((hI.bD.alloc A).alloc B).cell q).trans (dh dn q (by omega))
   have hnext:jw br vars dn live (k+1)=jw br vars dn live k &&& x9 br k (vals (dn.getD q 0)):=by
    simp only[jw];rw[hgd,hq,Int.toNat_natCast]
   obtain⟨sx,mM⟩:∃sx,dn.getD q 0=sx:=⟨_,rfl⟩;rw[mM] at hcD hsx hnext;have gY:=hd hnext;have HI:=hd hI;have aek:w.heap.size+1<wr.heap.size:=hI.bD.lt;clear hnext mM hgd hq hI;gi_wp2_with fail
   obtain⟨W0,hW0⟩:∃W0,W0=(wr.alloc (.cells #[.int .i64 (k:Int)] 3)).alloc (.cells #[.int .u64 0] 127):=⟨_,rfl⟩;have hI1:lV w W0 G g cap w.heap.size nt br (jw br vars dn live k) vars dn Ds:=by
    rw[hW0];exact HI.out.ext (((Fr.refl (fun _=>False) wr).alloc _).alloc _) (fun k x=>x.elim)
   have hb4:af W0 wr.heap.size #[.int .i64 (k:Int)] 3:=by rw[hW0];exact(af.new wr _ _).alloc _
   have hb6:af W0 (wr.heap.size+1) #[.int .u64 0] 127:=by
    rw[hW0];have:=af.new (wr.alloc (.cells #[.int .i64 (k:Int)] 3)) #[.int .u64 0] 127
    simpa using this
   have hsz0:W0.heap.size=wr.heap.size+2:=by rw[hW0];simp
   have hDlt:∀D∈Ds,D<W0.heap.size:=hI1.ms.lt;rw[<-hW0];have RI:=hd hsz0;have RJ:=hd hDlt;clear hW0 hsz0 hDlt;refine pX (show sx<256 by omega) rfl (by simp) (fun pre W=>lV w W G g cap w.heap.size nt br (jw br vars dn live k) vars dn Ds/\af W wr.heap.size #[.int .i64 (k:Int)] 3/\af W (wr.heap.size+1) #[.int .u64 (x9 br k pre:Nat)] 127)
    (fun pre A B h hb=>⟨h.1.bk hb (by have:=RI.out;omega) RJ.out,h.2.1.bk hb,h.2.2.bk hb⟩) ⟨hI1,hb4,hb6⟩ ?body ?done
   case body=>
    rintro l pre v W hpre ⟨hI2,RN,yc⟩
    have hv6:v<6:=fE hsx (by have:=hpre.subset (List.mem_append_right pre (List.mem_singleton.2 rfl));exact this)
    have yf:W.cell? ⟨G,2+(6*k+v),none⟩=some (.int .u64 (br.getD (6*k+v) 0:Nat)):=(hI2.bG.cell _).trans (nH _ _ _ _ _ (by omega))
    rw[show 2+(6*k+v)=2+k*6+v from by omega] at yf
    have zU:W.cell? ⟨w.heap.size,0,none⟩=some (.pointer (some ⟨G,0,none⟩)):=hI2.bT.cell 0
    have hc4:W.cell? ⟨wr.heap.size,0,none⟩=some (.int .i64 (k:Int)):=RN.cell 0
    have hc6:W.cell? ⟨wr.heap.size+1,0,none⟩=some (.int .u64 (x9 br k pre:Nat)):=yc.cell 0
    have nI:=yc.free 0;have hol:=Ny br k hbr pre;have hbl:=hbr (6*k+v);have hsn:=OY br k pre v;obtain⟨acc,hacc⟩:∃acc,x9 br k pre=acc:=⟨_,rfl⟩;obtain⟨x,hx⟩:∃x,br.getD (6*k+v) 0=x:=⟨_,rfl⟩;rw[hacc] at hc6 hol hsn;rw[hx] at yf hbl hsn;have Hsn:=hd hsn;have HI2:=hd hI2;have Hb4:=hd RN;have V3:=hd yc;have hk0:(0:Int)<=(k:Int):=by omega
    have hk4:(k:Int)<4:=by omega
    have hv0':(0:Int)<=(v:Int):=by omega
    have RP:(v:Int)<6:=by omega
    clear hsn hacc hx hI2 RN yc hI1 hb4 hb6 HI hvk hcD;gi_wp2_with fail
    refine lq 10 (by kernel_rfl) (by kernel_rfl) (fun a w h=>h) ?_
    simp only[List.take_succ_cons,List.take_zero,List.drop_succ_cons,List.drop_zero];repeat still_step
    refine wpStill_nil ?_
    go_wp2
    have O1:=(HI2.out.put ⟨wr.heap.size+1,0,none⟩ (.int .u64 (bits .or .u64 (acc:Int) (x:Int))) V3.out (by show wr.heap.size+1≠G;omega) (by show wr.heap.size+1≠w.heap.size;omega) (by show wr.heap.size+1≠w.heap.size+1;omega) (by show wr.heap.size+1≠g;omega) (by show w.heap.size<=wr.heap.size+1;omega)).drew
    have hF:Fr (fun j=>j=wr.heap.size+1) W (W.setCell ⟨wr.heap.size+1,0,none⟩ (.int .u64 (bits .or .u64 (acc:Int) (x:Int)))).drew:=((Fr.refl (fun j=>j=wr.heap.size+1) W).setCell _ _ (.inl rfl)).drew
    refine⟨hF.keeps (fun j hj=>by subst hj;exact⟨_,_,V3.out⟩),O1,Hb4.out.fr hF (by omega),?_⟩
    have h6:=V3.out.set 0 (.int .u64 (bits .or .u64 (acc:Int) (x:Int)));rw[Hsn.out,<-u64_or_nat acc x hol hbl];exact h6.drew
   case done=>
    rintro D W hD ⟨hI2,RN,yc⟩ hK
    have hol:=Ny br k hbr (vals sx);have hdl:=o9 br vars dn live hlive k;have hDs:Marks W w.heap.size (D::Ds):=hI2.ms.cons (by have:=RI.out;omega) (fun E hE=>by have:=RJ.out E hE;omega) hK
    have zU:W.cell? ⟨w.heap.size,0,none⟩=some (.pointer (some ⟨G,0,none⟩)):=hI2.bT.cell 0
    have hcL:W.cell? ⟨G,26,none⟩=some (.int .u64 (jw br vars dn live k:Nat)):=(hI2.bG.cell 26).trans (jH _ _ _ _ sN)
    have hfL:=hI2.bG.free 26;have hc6:W.cell? ⟨wr.heap.size+1,0,none⟩=some (.int .u64 (x9 br k (vals sx):Nat)):=yc.cell 0
    obtain⟨acc,hacc⟩:∃acc,x9 br k (vals sx)=acc:=⟨_,rfl⟩;obtain⟨lv,hlv⟩:∃lv,jw br vars dn live k=lv:=⟨_,rfl⟩;rw[hacc] at hc6 hol gY;rw[hlv] at hcL hdl gY hI2;have HI2:=hd hI2;have V4:=hd hDs;clear hacc hlv hI2 RN yc hI1 hb4 hb6 HI hvk hcD hDs hK;gi_wp2_with fail
    refine wpIn_wide.2 ?_
    go_still_tail 8,(by kernel_rfl)
    go_wp2
    have hF:Fr (fun j=>j=G) W (W.setCell ⟨G,26,none⟩ (.int .u64 (bits .and .u64 (lv:Int) (acc:Int)))).drew:=((Fr.refl (fun j=>j=G) W).setCell _ _ (.inl rfl)).drew
    have O1:lV w (W.setCell ⟨G,26,none⟩ (.int .u64 (bits .and .u64 (lv:Int) (acc:Int)))).drew G g cap w.heap.size nt br (jw br vars dn live (k+1)) vars dn (D::Ds):=by
     refine⟨HI2.out.fr.trans hF (fun i h=>.inl h),?_,HI2.out.bT.fr hF (by omega),HI2.out.bD.fr hF (by omega),HI2.out.rv.fr hF (fun j hj e=>Nv (by cases hj;exact e)),V4.out.keeps (hF.keeps (fun j hj=>by subst hj;exact⟨_,_,HI2.out.bG⟩))⟩
     have h6:=HI2.out.bG.set 26 (.int .u64 ((lv &&& acc:Nat):Int));rw[mG _ _ _ _ _ sN,<-u64_and_nat lv acc hdl hol,<-gY.out] at h6;exact h6.drew
    have HI3:=hd O1;clear O1;gi_wp2
    refine⟨⟨k+1,D::Ds,_,_,_,_,_,_,_,_,_,_,_,_,_,_,_,_,_,_,_,_,_,_,_,_,_,_,_,_,_,_,_,_,by omega,HI3.out,rfl⟩,by simp[intOf];omega⟩
  ·obtain rfl:k=vars.length:=by omega
   gi_wp2
   refine qj (fun A=>Fr (fun j=>j=G) w A/\af A G (bf (.slice (some ⟨g,0,none⟩) vars.length cap) nt br (jw br vars dn live vars.length)) 131) w.heap.size
    (fun A B h hb=>⟨h.1.bk hb (Nat.le_refl _),h.2.bk hb⟩) (fun A h=>⟨_,results_none rfl _ _ _,rfl,h.1,h.2⟩) Ds wr ⟨hI.fr,hI.bG⟩ hI.ms
end Go.Proofs.YtkjfpdfkcfgfkaaGreat
namespace Go.Proofs.YtkjfpdfkcfgfkaaGreat
open Go.RowKit Go.Shelf
attribute [local go_sem] Oper.semAt_some
def iF (br:List Nat) (live k:Nat) (vs:List Nat) (init:Nat):Nat:=vs.foldl (fun acc v=>if live &&& br.getD (6*k+v) 0=0 then acc else acc ||| 2^v) init
theorem GM (br:List Nat) (live k:Nat) (vs:List Nat) (v init:Nat):
  iF br live k (vs++[v]) init=if live &&& br.getD (6*k+v) 0=0 then iF br live k vs init else iF br live k vs init ||| 2^v:=by simp[iF]
theorem DR (br:List Nat) (live k:Nat) (vs:List Nat) (hv:∀v∈vs,v<6):∀init,init<64->iF br live k vs init<64:=by
 induction vs with
 | nil=>intro init h;exact h
 | cons v vs ih=>
  intro init h;have hv6:v<6:=hv v (List.mem_cons_self ..);have hp:2^v<2^6:=Nat.pow_lt_pow_right (by omega) hv6
  show iF br live k vs (if live &&& br.getD (6*k+v) 0=0 then init else init ||| 2^v)<64
  refine ih (fun x hx=>hv x (List.mem_cons_of_mem _ hx)) _ ?_
  split
  ·exact h
  ·exact Nat.or_lt_two_pow (n:=6) h hp
def fV (br:List Nat) (live:Nat) (vars:List Int) (dn sp:List Nat):Nat->List Nat
 | 0=>sp
 | k+1=>(fV br live vars dn sp k).set (vars.getD k 0).toNat (iF br live k (vals (dn.getD (vars.getD k 0).toNat 0)) ((fV br live vars dn sp k).getD (vars.getD k 0).toNat 0))
theorem lG (br:List Nat) (live:Nat) (vars:List Int) (dn sp:List Nat):∀k,(fV br live vars dn sp k).length=sp.length
 | 0=>rfl
 | k+1=>by simp[fV,lG br live vars dn sp k]
theorem DT (br:List Nat) (live:Nat) (vars:List Int) (dn sp:List Nat) (hd:∀q,dn.getD q 0<64) (hs:∀q,sp.getD q 0<64):∀k q,(fV br live vars dn sp k).getD q 0<64
 | 0,q=>hs q
 | k+1,q=>by
  have ih:=DT br live vars dn sp hd hs k;generalize hx:(vars.getD k 0).toNat=x
  have hstep:fV br live vars dn sp (k+1)=(fV br live vars dn sp k).set x (iF br live k (vals (dn.getD x 0)) ((fV br live vars dn sp k).getD x 0)):=by
   simp only[fV];rw[hx]
  rw[hstep];have hf:=DR br live k (vals (dn.getD x 0)) (fun v hv=>fE (hd x) hv) _ (ih x)
  generalize iF br live k (vals (dn.getD x 0)) ((fV br live vars dn sp k).getD x 0)=y at hf
  have hq:=ih q;generalize fV br live vars dn sp k=m at hq
  simp only[List.getD,List.getElem?_set] at hq ⊢
  split
  ·split
   ·exact hf
   ·simp
  ·exact hq
structure lW (w wr:World) (G g cap T Dm Sp:Nat) (nt:Bool) (br:List Nat) (live:Nat) (vars:List Int) (dn sp Ds:List Nat):Prop where
 fr:Fr (fun k=>k=Sp) w wr
 bG:af wr G (bf (.slice (some ⟨g,0,none⟩) vars.length cap) nt br live) 131
 bT:af wr T #[.pointer (some ⟨G,0,none⟩)] 91
 bP:af wr (T+1) #[.pointer (some ⟨Sp,0,none⟩)] 116
 bD:af wr Dm (ay dn) 60
 bS:af wr Sp (ay sp) 60
 rv:Row wr (.slice (some ⟨g,0,none⟩) vars.length cap) 3 (vars.map (Value.int .i64))
 ms:Marks wr w.heap.size Ds
theorem lW.nw {w wr wx:World} {G g cap T Dm Sp:Nat} {nt:Bool} {br:List Nat} {live:Nat} {vars:List Int} {dn sp Ds:List Nat} (h:lW w wr G g cap T Dm Sp nt br live vars dn sp Ds) (f:Nw wr wx):
  lW w wx G g cap T Dm Sp nt br live vars dn sp Ds:=
 ⟨h.fr.trans f (fun _ x=>x.elim),h.bG.nw f,h.bT.nw f,h.bP.nw f,h.bD.nw f,h.bS.nw f,h.rv.nw f,h.ms.keeps (f.keeps (fun _ x=>x.elim))⟩
theorem lW.bk {w wr wx:World} {G g cap T Dm Sp lo:Nat} {nt:Bool} {br:List Nat} {live:Nat} {vars:List Int} {dn sp Ds:List Nat} (h:lW w wr G g cap T Dm Sp nt br live vars dn sp Ds) (hb:Bk lo wr wx) (hl:w.heap.size<=lo) (hD:∀D∈Ds,D<lo):
  lW w wx G g cap T Dm Sp nt br live vars dn sp Ds:=⟨h.fr.bk hb hl,h.bG.bk hb,h.bT.bk hb,h.bP.bk hb,h.bD.bk hb,h.bS.bk hb,h.rv.bk hb,h.ms.bk hD hb⟩
theorem lW.put {w wr:World} {G g cap T Dm Sp:Nat} {nt:Bool} {br:List Nat} {live:Nat} {vars:List Int} {dn sp Ds:List Nat} (h:lW w wr G g cap T Dm Sp nt br live vars dn sp Ds) (q x:Nat)
  (h1:Sp≠G) (h2:Sp≠T) (h3:Sp≠T+1) (h4:Sp≠Dm) (h5:Sp≠g):lW w (wr.setCell ⟨Sp,q,none⟩ (.int .u8 (x:Int))) G g cap T Dm Sp nt br live vars dn (sp.set q x) Ds:=by
 have f:Fr (fun k=>k=Sp) wr (wr.setCell ⟨Sp,q,none⟩ (.int .u8 (x:Int))):=(Fr.refl _ wr).setCell _ _ (.inl rfl)
 refine⟨h.fr.trans f (fun i e=>.inl e),h.bG.fr f (fun e=>h1 e.symm),h.bT.fr f (fun e=>h2 e.symm),h.bP.fr f (fun e=>h3 e.symm),h.bD.fr f (fun e=>h4 e.symm),?_,h.rv.fr f (fun k hk e=>h5 (by cases hk;exact e.symm)),h.ms.keeps (f.keeps (fun k hk=>by subst hk;exact⟨_,_,h.bS⟩))⟩
 rw[<-ry];exact h.bS.set q _
theorem lW.drew {w wr:World} {G g cap T Dm Sp:Nat} {nt:Bool} {br:List Nat} {live:Nat} {vars:List Int} {dn sp Ds:List Nat} (h:lW w wr G g cap T Dm Sp nt br live vars dn sp Ds):lW w wr.drew G g cap T Dm Sp nt br live vars dn sp Ds:=
 ⟨h.fr.drew,h.bG,h.bT,h.bP,h.bD,h.bS,h.rv.drew,h.ms⟩
set_option maxRecDepth 1000000 in
theorem zL (G g cap Dm Sp:Nat) (nt:Bool) (br:List Nat) (live:Nat) (vars:List Int) (dn sp:List Nat) (w:World) (hG:af w G (bf (.slice (some ⟨g,0,none⟩) vars.length cap) nt br live) 131)
  (hvs:Row w (.slice (some ⟨g,0,none⟩) vars.length cap) 3 (vars.map (Value.int .i64))) (yg:af w Dm (ay dn) 60) (hSp:af w Sp (ay sp) 60) (hne:Sp≠Dm)
  (h8:dn.length=8) (hs8:sp.length=8) (sN:br.length=24) (hbr:∀j,br.getD j 0<18446744073709551616) (hlive:live<18446744073709551616)
  (h4:vars.length<=4) (hv:∀i,i<vars.length->0<=vars.getD i 0/\vars.getD i 0<8) (aX:∀q,dn.getD q 0<64) (zM:∀q,sp.getD q 0<64):
  Calls Tryz.prog 128 #[.pointer (some ⟨G,0,none⟩),.pointer (some ⟨Dm,0,none⟩),.pointer (some ⟨Sp,0,none⟩)] w fun e w'=>e= .returned (.tuple #[])/\Fr (fun k=>k=Sp) w w' /\
   af w' Sp (ay (fV br live vars dn sp vars.length)) 60:=by
 have hmf:∀(fn:Fn) (first cap:Array Value) (w:World),(Instr.makeFunc fn first cap).run Tryz.prog w= .ok (.func fn first cap) w:=fun _ _ _ _=>rfl
 refine(callsIn_wide (n:=9)).1 ?_
 refine callsIn_of_wp_marks Tryz.func128 rfl trivial ?_ rfl
 simp only[Tryz.ntmps128,List.size_toArray,List.length_cons,List.length_nil,Nat.reduceAdd,Nat.reduceSub,Array.replicate_succ,Array.replicate_zero,List.push_toArray,List.append_toArray,List.nil_append,List.cons_append];have hc0:w.cell? ⟨G,0,none⟩=some (.slice (some ⟨g,0,none⟩) vars.length cap):=hG.cell 0
 have uI:=hG.lt;have abB:=hSp.lt;have ags:=yg.lt;have OZ:g<w.heap.size:=hvs.lt rfl;have Nv:g≠G:=fun e=>by subst e;exact hvs.ne hG (by decide) rfl
 have hSG:Sp≠G:=fun e=>by subst e;have:=(hSp.inj hG).2;revert this;decide
 have hSg:Sp≠g:=fun e=>by subst e;exact hvs.ne hSp (by decide) rfl
 have DJ:Nw w ((w.alloc (.cells #[.pointer (some ⟨G,0,none⟩)] 91)).alloc (.cells #[.pointer (some ⟨Sp,0,none⟩)] 116)):=((Fr.refl _ w).alloc _).alloc _;have hI0:lW w ((w.alloc (.cells #[.pointer (some ⟨G,0,none⟩)] 91)).alloc (.cells #[.pointer (some ⟨Sp,0,none⟩)] 116)) G g cap w.heap.size Dm Sp nt br live vars dn sp []:=
  ⟨DJ.mono (fun i h=>h.elim),hG.nw DJ,(af.new w _ _).alloc _,by have:=af.new (w.alloc (.cells #[.pointer (some ⟨G,0,none⟩)] 91)) #[.pointer (some ⟨Sp,0,none⟩)] 116;simpa using this,yg.nw DJ,hSp.nw DJ,hvs.nw DJ,Marks.nil _ _⟩
 gi_wp2_with fail
 have HI0:=hd hI0;clear hI0 hG hvs hc0 DJ yg hSp;refine wpIn_loop (fun a wr=>∃(k:Nat) (Ds:List Nat) (u6 u7 u8 u16 u17 u18 u19 u20 u21 u22 u23 u24 u25 u26 u27 u28 u29 u30 u31 u32 u33 u34 u35 u36 u37 u38 u39 u40 u41 u42 u43 u44 u45 u46 u47 u48 u49 u50 u51:Value),k<=vars.length/\lW w wr G g cap w.heap.size Dm Sp nt br live vars dn (fV br live vars dn sp k) Ds /\
  a={tmps:=#[.pointer (some ⟨G,0,none⟩),.pointer (some ⟨Dm,0,none⟩),.pointer (some ⟨Sp,0,none⟩),.pointer (some ⟨w.heap.size,0,none⟩),undef,.pointer (some ⟨w.heap.size+1,0,none⟩),u6,u7,u8,.pointer (some ⟨G,0,none⟩),.pointer (some ⟨G,0,none⟩),.pointer (some ⟨G,0,none⟩),.pointer (some ⟨G,0,none⟩),.slice (some ⟨g,0,none⟩) vars.length cap,.int .i64 vars.length,.int .i64 k,u16,u17,u18,u19,u20,u21,u22,u23,u24,u25,u26,u27,u28,u29,u30,u31,u32,u33,u34,u35,u36,u37,u38,u39,u40,u41,u42,u43,u44,u45,u46,u47,u48,u49,u50,u51],defers:=Ds.map mark}) (fun a _=>vars.length-(intOf (a.tmps.getD 15 undef)).toNat) ?start ?round
 case start=>exact⟨0,[],undef,undef,undef,undef,undef,undef,undef,undef,undef,undef,undef,undef,undef,undef,undef,undef,undef,undef,undef,undef,undef,undef,undef,undef,undef,undef,undef,undef,undef,undef,undef,undef,undef,undef,undef,undef,undef,undef,undef,Nat.zero_le _,HI0.out,rfl⟩
 case round=>
  rintro a wr ⟨k,Ds,u6,u7,u8,u16,u17,u18,u19,u20,u21,u22,u23,u24,u25,u26,u27,u28,u29,u30,u31,u32,u33,u34,u35,u36,u37,u38,u39,u40,u41,u42,u43,u44,u45,u46,u47,u48,u49,u50,u51,hk,hI,rfl⟩
  clear HI0;by_cases hlt:k<vars.length
  ·have hvk:=(hI.rv.at_ k (by simpa using hlt)).1
   simp only[List.getElem_map] at hvk;obtain⟨hv0,jv⟩:=hv k hlt;have hgd:vars.getD k 0=vars[k]:=by simp[hlt]
   rw[hgd] at hv0 jv;obtain⟨q,hq⟩:∃q:Nat,vars[k]=(q:Int):=⟨vars[k].toNat,by omega⟩
   rw[hq] at hvk hv0 jv;have hq8:q<8:=by omega
   have hsx:=aX q;have hml:=lG br live vars dn sp k;have abC:=DT br live vars dn sp aX zM k q;have hnext:fV br live vars dn sp (k+1)=(fV br live vars dn sp k).set q (iF br live k (vals (dn.getD q 0)) ((fV br live vars dn sp k).getD q 0)):=by
    simp only[fV];rw[hgd,hq,Int.toNat_natCast]
   obtain⟨sx,mM⟩:∃sx,dn.getD q 0=sx:=⟨_,rfl⟩;obtain⟨m0,hm0⟩:∃m0,fV br live vars dn sp k=m0:=⟨_,rfl⟩;rw[mM] at hsx hnext;rw[hm0] at hnext hml abC hI;have hcD:∀A B,((wr.alloc A).alloc B).cell? ⟨Dm,q,none⟩=some (.int .u8 (sx:Int)):=fun A B=>by
    rw[<-mM];exact(((hI.bD.alloc A).alloc B).cell q).trans (dh dn q (by omega))
   have gY:=hd hnext;have HI:=hd hI;have aek:w.heap.size+1<wr.heap.size:=hI.bP.lt;clear hnext mM hgd hq hI hm0;gi_wp2_with fail
   obtain⟨W0,hW0⟩:∃W0,W0=(wr.alloc (.cells #[.int .i64 (k:Int)] 3)).alloc (.cells #[.int .i64 (q:Int)] 3):=⟨_,rfl⟩;have hI1:lW w W0 G g cap w.heap.size Dm Sp nt br live vars dn m0 Ds:=by
    rw[hW0];exact HI.out.nw (((Fr.refl (fun _=>False) wr).alloc _).alloc _)
   have hb6:af W0 wr.heap.size #[.int .i64 (k:Int)] 3:=by rw[hW0];exact(af.new wr _ _).alloc _
   have hb7:af W0 (wr.heap.size+1) #[.int .i64 (q:Int)] 3:=by
    rw[hW0];have:=af.new (wr.alloc (.cells #[.int .i64 (k:Int)] 3)) #[.int .i64 (q:Int)] 3
    simpa using this
   have hsz0:W0.heap.size=wr.heap.size+2:=by rw[hW0];simp
   have hDlt:∀D∈Ds,D<W0.heap.size:=hI1.ms.lt;have agG:W0.cell? ⟨Dm,q,none⟩=some (.int .u8 (sx:Int)):=by rw[hW0];exact hcD _ _
   have hc7:W0.cell? ⟨wr.heap.size+1,0,none⟩=some (.int .i64 (q:Int)):=hb7.cell 0
   rw[<-hW0];have RI:=hd hsz0;have RJ:=hd hDlt;have HI1:=hd hI1;have V3:=hd hb6;have Hb7:=hd hb7;clear hW0 hsz0 hDlt hI1 hb6 hb7 hcD;refine wpIn_wide.2 ?_
   go_still (by kernel_rfl)
   go_wp2
   gi_wp2_with fail
   have Yr:m0.set q (iF br live k [] (m0.getD q 0))=m0:=by
    show m0.set q (m0.getD q 0)=m0
    apply List.ext_getElem
    ·simp
    ·intro i h1 h2;rw[List.getElem_set];split
     ·rename_i e;subst e;simp[h2]
     ·rfl
   have abD:=hd Yr;clear Yr;show Code.wpIn _ _ _ _ _ _ W0.drew
   refine pX (show sx<256 by omega) rfl (by simp) (fun pre W=>lW w W G g cap w.heap.size Dm Sp nt br live vars dn (m0.set q (iF br live k pre (m0.getD q 0))) Ds/\af W wr.heap.size #[.int .i64 (k:Int)] 3/\af W (wr.heap.size+1) #[.int .i64 (q:Int)] 3)
    (fun pre A B h hb=>⟨h.1.bk hb (by have:=RI.out;show w.heap.size<=W0.heap.size;omega) RJ.out,h.2.1.bk hb,h.2.2.bk hb⟩) ⟨by rw[abD.out];exact HI1.out.drew,V3.out.drew,Hb7.out.drew⟩ ?body ?done
   case body=>
    rintro l pre v W hpre ⟨hI2,yc,RQ⟩
    have hmem:∀x∈pre++[v],x∈vals sx:=fun x hx=>hpre.subset hx
    have hv6:v<6:=fE hsx (hmem v (List.mem_append_right pre (List.mem_singleton.2 rfl)));have yf:W.cell? ⟨G,2+(6*k+v),none⟩=some (.int .u64 (br.getD (6*k+v) 0:Nat)):=(hI2.bG.cell _).trans (nH _ _ _ _ _ (by omega))
    rw[show 2+(6*k+v)=2+k*6+v from by omega] at yf
    have hcL:W.cell? ⟨G,26,none⟩=some (.int .u64 (live:Int)):=(hI2.bG.cell 26).trans (jH _ _ _ _ sN)
    have zU:W.cell? ⟨w.heap.size,0,none⟩=some (.pointer (some ⟨G,0,none⟩)):=hI2.bT.cell 0
    have hcP:W.cell? ⟨w.heap.size+1,0,none⟩=some (.pointer (some ⟨Sp,0,none⟩)):=hI2.bP.cell 0
    have hc6:W.cell? ⟨wr.heap.size,0,none⟩=some (.int .i64 (k:Int)):=yc.cell 0
    have hc7:W.cell? ⟨wr.heap.size+1,0,none⟩=some (.int .i64 (q:Int)):=RQ.cell 0
    have abE:iF br live k pre (m0.getD q 0)<64:=DR br live k pre (fun x hx=>fE hsx (hmem x (List.mem_append_left _ hx))) _ abC
    have hcS:W.cell? ⟨Sp,q,none⟩=some (.int .u8 (iF br live k pre (m0.getD q 0):Nat)):=by
     rw[hI2.bS.cell,dh _ _ (by simp;omega)]
     simp[show q<m0.length by omega]
    have hfS:=hI2.bS.free q;have hbl:=hbr (6*k+v);have hsn:=GM br live k pre v (m0.getD q 0);obtain⟨acc,hacc⟩:∃acc,iF br live k pre (m0.getD q 0)=acc:=⟨_,rfl⟩;obtain⟨x,hx⟩:∃x,br.getD (6*k+v) 0=x:=⟨_,rfl⟩;rw[hacc] at hcS abE hsn hI2;rw[hx] at yf hbl hsn;have hand:=u64_and_nat live x hlive hbl;have hk0:(0:Int)<=(k:Int):=by omega
    have hk4:(k:Int)<4:=by omega
    have hv0':(0:Int)<=(v:Int):=by omega
    have RP:(v:Int)<6:=by omega
    have abG:(0:Int)<=(q:Int):=by omega
    have abH:(q:Int)<8:=by omega
    have Hsn:=hd hsn;have HI2:=hd hI2;have V3:=hd yc;have Hb7:=hd RQ;have RU:=hd hmem;clear hsn hacc hx hI2 yc RQ HI1 HI hvk hmem;by_cases hz:live &&& x=0
    ·rw[hz] at hand;have hcond:iF br live k (pre++[v]) (m0.getD q 0)=acc:=by rw[Hsn.out,if_pos hz]
     have Nz:=hd hcond;clear hcond;gi_wp2_with fail
     refine lq 13 (by kernel_rfl) (by kernel_rfl) (fun a w h=>h) ?_
     simp only[List.take_succ_cons,List.take_zero,List.drop_succ_cons,List.drop_zero];repeat still_step
     refine wpStill_nil ?_
     go_wp2
     gi_wp2
     refine⟨((Fr.refl (fun _=>False) W).drew).keeps (fun _ x=>x.elim),?_,V3.out.drew,Hb7.out.drew⟩
     rw[Nz.out];exact HI2.out.drew
    ·have hnz:(((live &&& x:Nat):Int) != 0)=true:=by simp;omega
     have hcond:iF br live k (pre++[v]) (m0.getD q 0)=acc ||| 2^v:=by rw[Hsn.out,if_neg hz]
     have Nz:=hd hcond;have hpv:2^v<64:=Nat.pow_lt_pow_right (m:=v) (n:=6) (by omega) hv6
     have hor:=u8_or_nat acc (2^v) (by omega) (by omega)
     have hone:=one_any v W.drew.drew (by omega)
     obtain⟨pv,CZ⟩:∃pv,2^v=pv:=⟨_,rfl⟩;rw[CZ] at Nz hpv hor hone;have RV:=hd hone;clear hcond CZ hz hone;gi_wp2_with fail
     refine lq 13 (by kernel_rfl) (by kernel_rfl) (fun a w h=>h) ?_
     simp only[List.take_succ_cons,List.take_zero,List.drop_succ_cons,List.drop_zero];repeat still_step
     refine wpStill_nil ?_
     go_wp2
     gi_wp2_with fail
     refine lq 10 (by kernel_rfl) (by kernel_rfl) (fun a w h=>h) ?_
     simp only[List.take_succ_cons,List.take_zero,List.drop_succ_cons,List.drop_zero];still_step
     still_step
     still_step
     still_step
     still_step
     still_step
     still_call RV.out
     repeat still_step
     refine wpStill_nil ?_
     go_wp2
     have hF:Fr (fun j=>j=Sp) W (W.setCell ⟨Sp,q,none⟩ (.int .u8 ((acc ||| pv:Nat):Int))).drew.drew:=(((Fr.refl (fun j=>j=Sp) W).setCell _ _ (.inl rfl)).drew).drew
     refine⟨hF.keeps (fun j hj=>by subst hj;exact⟨_,_,HI2.out.bS⟩),?_,V3.out.fr hF (by omega),Hb7.out.fr hF (by omega)⟩
     rw[Nz.out];have h5:=((HI2.out.put q (acc ||| pv) hSG (by omega) (by omega) hne hSg).drew).drew
     rw[List.set_set] at h5;exact h5
   case done=>
    rintro D W hD ⟨hI2,yc,RQ⟩ hK
    have hDs:Marks W w.heap.size (D::Ds):=hI2.ms.cons (by have:=RI.out;have hD':W0.heap.size<=D:=hD;omega) (fun E hE=>by have:=RJ.out E hE;have hD':W0.heap.size<=D:=hD;omega) hK
    have O1:lW w W G g cap w.heap.size Dm Sp nt br live vars dn (fV br live vars dn sp (k+1)) (D::Ds):=by
     rw[gY.out];exact⟨hI2.fr,hI2.bG,hI2.bT,hI2.bP,hI2.bD,hI2.bS,hI2.rv,hDs⟩
    have HI3:=hd O1;clear O1 hDs hI2 yc RQ hK hvk HI HI1;gi_wp2
    refine⟨⟨k+1,D::Ds,_,_,_,_,_,_,_,_,_,_,_,_,_,_,_,_,_,_,_,_,_,_,_,_,_,_,_,_,_,_,_,_,_,_,_,_,_,_,_,by omega,HI3.out,rfl⟩,by simp[intOf];omega⟩
  ·obtain rfl:k=vars.length:=by omega
   gi_wp2
   refine qj (fun A=>Fr (fun j=>j=Sp) w A/\af A Sp (ay (fV br live vars dn sp vars.length)) 60) w.heap.size
    (fun A B h hb=>⟨h.1.bk hb (Nat.le_refl _),h.2.bk hb⟩) (fun A h=>⟨_,results_none rfl _ _ _,rfl,h.1,h.2⟩) Ds wr ⟨hI.fr,hI.bS⟩ hI.ms
end Go.Proofs.YtkjfpdfkcfgfkaaGreat
namespace Go.Proofs.YtkjfpdfkcfgfkaaGreat
open Go.RowKit
theorem Row.ints {w:World} {g cap:Nat} {zs:List Int} (h:Row w (.slice (some ⟨g,0,none⟩) zs.length cap) 3 (zs.map (Value.int .i64))):ax w (some ⟨g,0,none⟩) zs:=fun i hi=>by
 refine⟨g,0,rfl,h.lt rfl,?_⟩
 rw[Nat.zero_add,(h.at_ i (by simpa using hi)).1]
 simp[hi]
def aQ:List Nat:=[0,0,0,0,0,0,0,0]
def jy (br:List Nat) (live:Nat) (vars:List Int) (dn:List Nat):Nat:=jw br vars dn live vars.length
def J9 (br:List Nat) (live:Nat) (vars:List Int) (dn:List Nat):List Nat:=eu vars dn (fV br (jy br live vars dn) vars dn aQ vars.length) vars.length
theorem iV {d:List Nat} (h:d.length=8):∃v0 v1 v2 v3 v4 v5 v6 v7:Value,ay d=#[v0,v1,v2,v3,v4,v5,v6,v7]:=by
 obtain⟨d0,d1,d2,d3,d4,d5,d6,d7,rfl⟩:=nZ h;exact⟨_,_,_,_,_,_,_,_,rfl⟩
theorem iO (d:List Nat) {v0 v1 v2 v3 v4 v5 v6 v7:Value} (h:ay d=#[v0,v1,v2,v3,v4,v5,v6,v7]):
  (∃x:Int,v0= .int .u8 x)/\(∃x:Int,v1= .int .u8 x)/\(∃x:Int,v2= .int .u8 x)/\(∃x:Int,v3= .int .u8 x)/\(∃x:Int,v4= .int .u8 x)/\(∃x:Int,v5= .int .u8 x)/\(∃x:Int,v6= .int .u8 x)/\(∃x:Int,v7= .int .u8 x):=by
 have hl:d.length=8:=by have:=congrArg Array.size h;simpa[ay] using this
 obtain⟨d0,d1,d2,d3,d4,d5,d6,d7,rfl⟩:=nZ hl;simp only[ay,List.map_cons,List.map_nil] at h;injection h with h
 simp only[List.cons.injEq,and_true] at h;obtain⟨h0,h1,h2,h3,h4,h5,h6,h7⟩:=h;exact⟨⟨_,h0.symm⟩,⟨_,h1.symm⟩,⟨_,h2.symm⟩,⟨_,h3.symm⟩,⟨_,h4.symm⟩,⟨_,h5.symm⟩,⟨_,h6.symm⟩,⟨_,h7.symm⟩⟩
theorem rC (q:Nat):aQ.getD q 0<64:=by
 simp only[aQ,List.getD];rcases q with _ | _ | _ | _ | _ | _ | _ | _ | q <;> simp
set_option maxRecDepth 1000000 in
theorem Ko (G g cap:Nat) (br:List Nat) (live:Nat) (vars:List Int) (dn:List Nat) (w:World) (hG:af w G (bf (.slice (some ⟨g,0,none⟩) vars.length cap) false br live) 131)
  (hvs:Row w (.slice (some ⟨g,0,none⟩) vars.length cap) 3 (vars.map (Value.int .i64)))
  (h8:dn.length=8) (sN:br.length=24) (hbr:∀j,br.getD j 0<18446744073709551616) (hlive:live<18446744073709551616)
  (h4:vars.length<=4) (hv:∀i,i<vars.length->0<=vars.getD i 0/\vars.getD i 0<8) (aX:∀q,dn.getD q 0<64):
  Calls Tryz.prog 124 #[.pointer (some ⟨G,0,none⟩),.agg (ay dn)] w fun e w'=>e= .returned (.agg (ay (J9 br live vars dn)))/\Fr (fun k=>k=G) w w' /\
   af w' G (bf (.slice (some ⟨g,0,none⟩) vars.length cap) false br (jy br live vars dn)) 131:=by
 obtain⟨v0,v1,v2,v3,v4,v5,v6,v7,hdv⟩:=iV h8;have uI:=hG.lt;have OZ:g<w.heap.size:=hvs.lt rfl;have Nv:g≠G:=fun e=>by subst e;exact hvs.ne hG (by decide) rfl
 obtain⟨W,hW⟩:∃W,W=(w.alloc (.cells (ay dn) 60)).alloc (.cells (ay aQ) 60):=⟨_,rfl⟩;have dM:Nw w W:=by rw[hW];exact((Fr.refl _ w).alloc _).alloc _
 have hbD:af W w.heap.size (ay dn) 60:=by rw[hW];exact(af.new _ _ _).alloc _
 have hbR:af W (w.heap.size+1) (ay aQ) 60:=by
  rw[hW];have:=af.new (w.alloc (.cells (ay dn) 60)) (ay aQ) 60
  simpa using this
 have hsW:W.heap.size=w.heap.size+2:=by rw[hW];simp
 have JU:=hG.nw dM;have Nu:=hvs.nw dM;obtain⟨c0,c1,c2,c3,c4,c5,c6,c7⟩:=cZ (hdv▸hbD);have tX:=hd hbD;have NC:=hd hbR;have HW:=hd hW;have uq:=hd hsW;have Hdv:=hd hdv;have HGW:=hd JU;have HvW:=hd Nu;clear hW hsW hbD hbR hdv hG hvs JU Nu;go_enter Tryz.func124,Tryz.ntmps124
 go_upto_region 1 with fail
 rw[show (w.alloc (Obj.cells (ay dn) 60)).alloc (Obj.cells #[Value.int .u8 0,.int .u8 0,.int .u8 0,.int .u8 0,.int .u8 0,.int .u8 0,.int .u8 0,.int .u8 0] 60)=W from HW.out.symm]
 go_wp2_with fail
 rw[<-Hdv.out];refine(GL G g cap false br live vars dn W HGW.out HvW.out h8 sN hbr hlive h4 hv aX).mono ?_
 rintro e w1 ⟨rfl,hf1,hb1⟩
 have hs1:w.heap.size+2<=w1.heap.size:=by have:=hf1.size;have:=uq.out;omega
 have RX:af w1 w.heap.size (ay dn) 60:=tX.out.fr hf1 (by omega)
 have RY:af w1 (w.heap.size+1) (ay aQ) 60:=NC.out.fr hf1 (by omega)
 have RZ:=HvW.out.fr hf1 (fun k hk e=>Nv (by cases hk;exact e))
 have hnt:w1.cell? ⟨G,1,none⟩=some (.bool false):=hb1.cell 1
 have hb1':af w1 G (bf (.slice (some ⟨g,0,none⟩) vars.length cap) false br (jy br live vars dn)) 131:=hb1;have hlv:jy br live vars dn<18446744073709551616:=o9 br vars dn live hlive _;obtain⟨X,hX⟩:∃X,X=w1.alloc (.cells (ay aQ) 60):=⟨_,rfl⟩;have hfX:Nw w1 X:=by rw[hX];exact(Fr.refl _ w1).alloc _
 have hbS:af X w1.heap.size (ay aQ) 60:=by rw[hX];exact af.new _ _ _
 have ael:X.cell? ⟨G,1,none⟩=some (.bool false):=(hb1.nw hfX).cell 1
 have HX:=hd hX;have HbS:=hd hbS;have Hb1:=hd (hb1'.nw hfX);have Si:=hd (RX.nw hfX);have Zo:=hd (RY.nw hfX);have Sj:=hd (RZ.nw hfX);clear hb1 hb1' RX RY RZ hX hbS c0 c1 c2 c3 c4 c5 c6 c7 hnt;go_upto_region 3 with fail
 rw[show w1.alloc (Obj.cells #[Value.int .u8 0,.int .u8 0,.int .u8 0,.int .u8 0,.int .u8 0,.int .u8 0,.int .u8 0,.int .u8 0] 60)=X from HX.out.symm]
 obtain⟨m,hm⟩:∃m,fV br (jy br live vars dn) vars dn aQ vars.length=m:=⟨_,rfl⟩;have GN:m.length=8:=by rw[<-hm,lG];rfl
 have hfin:J9 br live vars dn=eu vars dn m vars.length:=by simp only[J9];rw[hm]
 have Hm:=hd hm;have fQ:=hd hfin;clear hm hfin;go_wp2_with (go_at_call 128;refine(zL G g cap w.heap.size w1.heap.size false br (jy br live vars dn) vars dn aQ X Hb1.out Sj.out Si.out HbS.out (by omega) h8 rfl sN hbr hlv h4 hv aX rC).mono ?_;rintro e w2 ⟨rfl,hf2,hb2⟩)
 have hs2:=hf2.size;have aem:=hfX.size;have hb2':af w2 w1.heap.size (ay m) 60:=by rw[<-Hm.out];exact hb2
 have hG2:=Hb1.out.fr hf2 (by omega)
 have hD2:=Si.out.fr hf2 (by omega)
 have hR2:=Zo.out.fr hf2 (by omega)
 have hv2:=Sj.out.fr hf2 (fun k hk e=>by
  have e':g=w1.heap.size:=by cases hk;exact e
  omega)
 have yf:w2.cell? ⟨G,0,none⟩=some (.slice (some ⟨g,0,none⟩) vars.length cap):=hG2.cell 0
 obtain⟨m0,m1,m2,m3,m4,m5,m6,m7,hmv⟩:=iV GN;obtain⟨c0,c1,c2,c3,c4,c5,c6,c7⟩:=cZ (Hdv.out▸hD2);obtain⟨s0,s1,s2,s3,s4,s5,s6,s7⟩:=cZ (hmv▸hb2');have Hv2:=hd (hv2.drew.ints);have HG2:=hd hG2;have HR2:=hd hR2;have C9:=hd hmv;have HF2:Hid (Fr (fun k=>k=G) w w2):=((dM.mono (fun i h=>h.elim)).trans hf1 (fun i h=>.inl h)).trans (hfX.mono (fun i h=>h.elim)) (fun i h=>.inl h) |>.trans hf2 (fun i h=>.inr (by omega))
 clear hb2 hb2' hG2 hD2 hR2 hv2 hmv;go_still_tail 6,(by kernel_rfl)
 go_wp2_with fail
 rw[<-Hdv.out,<-C9.out];refine(qi (some ⟨g,0,none⟩) cap vars dn m _ h4 hv Hv2.out h8 GN).mono ?_
 rintro e w3 ⟨rfl,hf3⟩
 have hrl:(eu vars dn m vars.length).length=8:=by rw[gy];exact h8
 obtain⟨r0,r1,r2,r3,r4,r5,r6,r7,yT⟩:=iV hrl;obtain⟨a0,a1,a2,a3,a4,a5,a6,a7,hav⟩:=iV (d:=aQ) rfl;have Dc:af w3 (w.heap.size+1) #[a0,a1,a2,a3,a4,a5,a6,a7] 60:=hav▸(HR2.out.drew.nw hf3);obtain⟨t0,t1,t2,t3,t4,t5,t6,t7⟩:=cZ Dc;have hfz:∀i,w3.frozen? ⟨w.heap.size+1,i,none⟩=false:=Dc.free
 have o0:∀i,i<8->(#[r0,r1,r2,r3,r4,r5,r6,r7]:Array Value).size=8:=fun _ _=>rfl
 rw[yT];have V5:=hd yT;have HR3:=hd Dc;have HF3:Hid (Fr (fun k=>k=G) w w3):=(HF2.out.drew).trans hf3 (fun i h=>h.elim)
 have Zp:=hd (HG2.out.drew.nw hf3);have ho:=iO (eu vars dn m vars.length) yT;clear yT hav Dc c0 c1 c2 c3 c4 c5 c6 c7 s0 s1 s2 s3 s4 s5 s6 s7 o0;obtain⟨⟨y0,rfl⟩,⟨y1,rfl⟩,⟨y2,rfl⟩,⟨y3,rfl⟩,⟨y4,rfl⟩,⟨y5,rfl⟩,⟨y6,rfl⟩,⟨y7,rfl⟩⟩:=ho;go_wp2
 have hB:=HR3.out.mJ 0 1 2 3 4 5 6 7 (.int .u8 y0) (.int .u8 y1) (.int .u8 y2) (.int .u8 y3) (.int .u8 y4) (.int .u8 y5) (.int .u8 y6) (.int .u8 y7);have tV:=HF3.out.mJ (w.heap.size+1) 0 1 2 3 4 5 6 7 (.int .u8 y0) (.int .u8 y1) (.int .u8 y2) (.int .u8 y3) (.int .u8 y4) (.int .u8 y5) (.int .u8 y6) (.int .u8 y7) (.inr (by omega))
 have hFg:=(Fr.refl (fun k=>k=w.heap.size+1) w3).mJ (w.heap.size+1) 0 1 2 3 4 5 6 7 (.int .u8 y0) (.int .u8 y1) (.int .u8 y2) (.int .u8 y3) (.int .u8 y4) (.int .u8 y5) (.int .u8 y6) (.int .u8 y7) (.inl rfl)
 have hG8:=Zp.out.fr hFg (by omega)
 rw[J6] at hB;generalize hX8:((((((((w3.setCell ⟨w.heap.size+1,0,none⟩ (Value.int .u8 y0)).setCell ⟨w.heap.size+1,1,none⟩ (Value.int .u8 y1)).setCell ⟨w.heap.size+1,2,none⟩ (Value.int .u8 y2)).setCell ⟨w.heap.size+1,3,none⟩ (Value.int .u8 y3)).setCell ⟨w.heap.size+1,4,none⟩ (Value.int .u8 y4)).setCell ⟨w.heap.size+1,5,none⟩ (Value.int .u8 y5)).setCell ⟨w.heap.size+1,6,none⟩ (Value.int .u8 y6)).setCell ⟨w.heap.size+1,7,none⟩ (Value.int .u8 y7))=X8 at hB tV hG8 ⊢
 obtain⟨q0,q1,q2,q3,q4,q5,q6,q7⟩:=cZ hB;refine bodyPost_ret (v:=.agg (ay (J9 br live vars dn))) ?_ rfl ⟨rfl,tV,hG8⟩
 rw[fQ.out,V5.out];simp[results,Tryz.results124,go_sem,q0,q1,q2,q3,q4,q5,q6,q7]
abbrev mkV (b:Bool):Array Value:=#[.bool b,.bool false,.bool false,.bool false,.bool false,.bool false,.bool false,.bool false,.bool false,.bool false,.bool false,.bool false]
theorem ql (G:Nat) (v:Value) (W:World) (h:W.cell? ⟨G,0,none⟩=some v):
  (method 292 91 (.pointer (some ⟨G, 0, none⟩)) "Changed").run Tryz.prog W = .ok (116, .agg #[v]) W := by
 have h1 : (method 292 91 (.pointer (some ⟨G, 0, none⟩)) "Changed").run Tryz.prog W =
   match W.cell? ⟨G,0,none⟩ with
   | some v=>.ok (116,.agg #[v]) W
   | none=>match W.farLoad Tryz.prog ⟨G,0,none⟩ (Mode.plain == .atomic) with
    | .ok (v,_)=>.ok (116,.agg #[v]) W
    | .error h=>.halt h W:=by kernel_rfl
 rw[h1,h]
theorem rE (G : Nat) (W : World) : (method 292 91 (.pointer (some ⟨G, 0, none⟩)) "Narrow").run Tryz.prog W = .ok (124, .pointer (some ⟨G, 0, none⟩)) W := by kernel_rfl
end Go.Proofs.YtkjfpdfkcfgfkaaGreat
