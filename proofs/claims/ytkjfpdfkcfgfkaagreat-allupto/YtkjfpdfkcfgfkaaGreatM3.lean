/- Parts of the proof, number 3: contracts of the functions that the statement calls. -/
import Derived.Test.YtkjfpdfkcfgfkaaGreatM2
import Derived.Test.YtkjfpdfkcfgfkaaGreatM0
import Derived.Test.YtkjfpdfkcfgfkaaGreatM1
import Derived.Deep.AppendLies
import Derived.Deep.DeepCutAuto
import Derived.Deep.RegionLaw
import Derived.BigQuiet
set_option maxHeartbeats 1600000
namespace Go.Proofs.YtkjfpdfkcfgfkaaGreat
theorem uO (os ex:List (List Nat)) (old v:Nat) (h:old<os.length):nodeAt (os++ex) old v=nodeAt os old v:=by
 simp[nodeAt,List.getD,List.getElem?_append_left h]
theorem Fe (os ex:List (List Nat)):∀(m old:Nat),bI os m old->bI (os++ex) m old
 | 0,_,h=>h
 | m+1,old,h=>by
  rcases h with h | ⟨h2,hl,h⟩
  ·exact .inl h
  ·refine .inr ⟨h2,by simp;omega,fun v hv=>?_⟩
   rw[uO os ex old v hl];exact Fe os ex m _ (h v hv)
def Pre (ns ns':List (List Nat)):Prop:=∃ex,ns'=ns++ex
theorem Pre.refl (ns:List (List Nat)):Pre ns ns:=⟨[],by simp⟩
theorem Pre.trans {a b c:List (List Nat)} (h:Pre a b) (k:Pre b c):Pre a c:=by
 obtain⟨x,rfl⟩:=h;obtain⟨y,rfl⟩:=k;exact⟨x++y,by simp⟩
theorem Pre.uz {a b:List (List Nat)} (h:Pre a b) {m old:Nat} (hl:bI a m old):bI b m old:=by
 obtain⟨x,rfl⟩:=h;exact Fe a x m old hl
theorem wE (os:List (List Nat)):∀m,bI os m 0
 | 0=>by show 0<2;omega
 | _+1=>.inl rfl
theorem NK (n:List Nat):∀(l:List (List Nat)) (k j:Nat),idx n l k=some j->k<=j/\l.getD (j-k) []=n
 | [],k,j,h=>by simp[idx] at h
 | x::r,k,j,h=>by
  simp only[idx] at h;split at h
  ·rename_i hx;cases h;simp[hx]
  ·have:=NK n r (k+1) j h
   refine⟨by omega,?_⟩
   rw[show j-k=(j-(k+1))+1 by omega]
   simpa using this.2
theorem D7 (ns:List (List Nat)) (n:List Nat) (k:Nat) (h:numOf ns n=some k):2<=k/\k<ns.length/\ns.getD k []=n:=by
 have h1:=NK n (ns.drop 2) 2 k h;have h2:=Kz n (ns.drop 2) 2 k h;simp only[List.length_drop] at h2;refine⟨h1.1,by omega,?_⟩
 have h3:=h1.2;simp only[List.getD,List.getElem?_drop] at h3 ⊢
 rw[show 2+(k-2)=k by omega] at h3
 exact h3
theorem mZ (ns:List (List Nat)) (n:List Nat):Pre ns (aB ns n).1:=by
 unfold aB;split
 ·exact Pre.refl _
 ·split
  ·exact Pre.refl _
  ·exact⟨[n],rfl⟩
theorem qA (ns:List (List Nat)) (h2:2<=ns.length) (n:List Nat) (m:Nat) (h:∀v,v<6->bI ns m (n.getD v 0)):bI (aB ns n).1 (m+1) (aB ns n).2:=by
 unfold aB;split
 ·exact .inl rfl
 ·split
  ·rename_i k hk;obtain⟨h1,h3,h4⟩:=D7 ns n k hk;refine .inr ⟨h1,h3,fun v hv=>?_⟩
   show bI ns m ((ns.getD k []).getD v 0)
   rw[h4];exact h v hv
  ·refine .inr ⟨h2,by simp,fun v hv=>?_⟩
   show bI (ns++[n]) m (((ns++[n]).getD ns.length []).getD v 0)
   have e:(ns++[n]).getD ns.length []=n:=by simp[List.getD]
   rw[e];exact Fe ns [n] m _ (h v hv)
theorem pG (vars:List Int) (nt:Bool) (dn:List Nat):∀(m i:Nat) (rows:List (List Int)) (ns:List (List Nat)),2<=ns.length->Pre ns (aY vars nt dn m i rows ns).1/\bI (aY vars nt dn m i rows ns).1 m (aY vars nt dn m i rows ns).2
 | 0,i,rows,ns,_=>by
  unfold aY;split
  ·exact⟨Pre.refl _,by show 0<2;omega⟩
  ·split
   ·exact⟨Pre.refl _,by show 0<2;omega⟩
   ·exact⟨Pre.refl _,by show 1<2;omega⟩
 | m+1,i,rows,ns,h2=>by
  unfold aY;split
  ·exact⟨Pre.refl _,.inl rfl⟩
  ·have key:=lu (fun (st:List (List Nat)×List Nat)=>Pre ns st.1/\st.2.length=6/\∀v,v<6->bI st.1 m (st.2.getD v 0)) (dA (aY vars nt dn m (i+1)) rows i) (vals (dn.getD (vars.getD i 0).toNat 0)) (ns,zero6)
    (fun st v _ hst=>by
     have hl:2<=st.1.length:=by
      obtain⟨ex,he⟩:=hst.1;rw[he];simp
      omega
     have ih:=pG vars nt dn m (i+1) (aJ rows i v) st.1 hl;refine⟨hst.1.trans ih.1,by simp[dA,hst.2.1],fun u hu=>?_⟩
     show bI (aY vars nt dn m (i+1) (aJ rows i v) st.1).1 m ((st.2.set v (aY vars nt dn m (i+1) (aJ rows i v) st.1).2).getD u 0)
     by_cases hvu:v=u
     ·subst hvu;have e:(st.2.set v (aY vars nt dn m (i+1) (aJ rows i v) st.1).2).getD v 0=(aY vars nt dn m (i+1) (aJ rows i v) st.1).2:=by simp[List.getD,hst.2.1,hu]
      rw[e];exact ih.2
     ·have e:(st.2.set v (aY vars nt dn m (i+1) (aJ rows i v) st.1).2).getD u 0=st.2.getD u 0:=by simp[List.getD,hvu]
      rw[e];exact ih.1.uz (hst.2.2 u hu)) ⟨Pre.refl _,rfl,fun v hv=>by
     have e:zero6.getD v 0=0:=by
      rcases v with _ | _ | _ | _ | _ | _ | v <;> first | rfl | omega
     show bI ns m (zero6.getD v 0)
     rw[e];exact wE ns m⟩
   generalize (vals (dn.getD (vars.getD i 0).toNat 0)).foldl (dA (aY vars nt dn m (i+1)) rows i) (ns,zero6)=st at key
   have hl:2<=st.1.length:=by
    obtain⟨ex,he⟩:=key.1;rw[he];simp
    omega
   exact⟨key.1.trans (mZ st.1 st.2),qA st.1 hl st.2 m key.2.2⟩
def NZ (ns:List (List Nat)):Prop:=∀k,2<=k->k<ns.length->∃v,v<6/\nodeAt ns k v≠0
theorem wF (os:List (List Nat)) (hz:NZ os):∀(m m' k:Nat),k≠0->bI os m k->bI os m' k->m=m'
 | 0,0,_,_,_,_=>rfl
 | 0,m'+1,k,h0,h,h'=>by
  have h1:k<2:=h;rcases h' with h' | ⟨h2,_⟩ <;> omega
 | m+1,0,k,h0,h,h'=>by
  have h1:k<2:=h';rcases h with h | ⟨h2,_⟩ <;> omega
 | m+1,m'+1,k,h0,h,h'=>by
  rcases h with h | ⟨h2,hl,h⟩
  ·exact absurd h h0
  ·rcases h' with h' | ⟨_,_,h'⟩
   ·exact absurd h' h0
   ·obtain⟨v,hv,hn⟩:=hz k h2 hl;rw[wF os hz m m' _ hn (h v hv) (h' v hv)]
theorem S9 (n:List Nat) (h6:n.length=6) (h:n≠zero6):∃v,v<6/\n.getD v 0≠0:=by
 refine Classical.byContradiction fun hc=>h ?_
 refine List.ext_getElem (by rw[h6];rfl) fun i h1 h2=>?_
 have h3:n.getD i 0=0:=Classical.byContradiction fun hx=>hc ⟨i,by omega,hx⟩
 have h4:n[i]=0:=by
  simpa[List.getD,List.getElem?_eq_getElem h1] using h3
 rw[h4];have h5:i<6:=by omega
 rcases i with _ | _ | _ | _ | _ | _ | i <;> first | rfl | omega
theorem rP (ns:List (List Nat)) (hz:NZ ns) (n:List Nat) (h6:n.length=6):NZ (aB ns n).1:=by
 unfold aB;split
 ·exact hz
 ·rename_i hn;split
  ·exact hz
  ·intro k h2 hk;by_cases hl:k<ns.length
   ·obtain⟨v,hv,hx⟩:=hz k h2 hl;exact⟨v,hv,by rw[uO ns [n] k v hl];exact hx⟩
   ·have e:k=ns.length:=by simp at hk;omega
    subst e;obtain⟨v,hv,hx⟩:=S9 n h6 hn;exact⟨v,hv,by simpa[nodeAt,List.getD] using hx⟩
structure Pz (os:List (List Nat)) (s:CS):Prop where
 two:2<=s.ns.length
 nz:NZ s.ns
 mv:∀k x,s.mv k=some x->∀m,2<=k->bI os m k->bI s.ns m x
theorem yw (os:List (List Nat)) (hz:NZ os) (vars:List Int) (dn:List Nat) (hd:∀q,dn.getD q 0<64):∀(m i old:Nat) (s:CS),bI os m old->Pz os s->Pre s.ns (dO os vars dn m i old s).1.ns/\Pz os (dO os vars dn m i old s).1/\bI (dO os vars dn m i old s).1.ns m (dO os vars dn m i old s).2
 | 0,i,old,s,hl,h=>⟨Pre.refl _,h,hl⟩
 | m+1,i,old,s,hl,h=>by
  unfold dO;by_cases ho:old<2
  ·rw[if_pos ho];refine⟨Pre.refl _,h,?_⟩
   rcases hl with hl | ⟨h2,_⟩
   ·exact .inl hl
   ·omega
  ·rw[if_neg ho];cases hm:s.mv old with
   | some k=>exact⟨Pre.refl _,h,h.mv old k hm (m+1) (by omega) hl⟩
   | none=>
    dsimp only
    have hl':∀v,v<6->bI os m (nodeAt os old v):=by
     rcases hl with h1 | h1
     ·exact absurd (by omega) ho
     ·exact h1.2.2
    have key:=lu (fun (st:CS×List Nat)=>Pre s.ns st.1.ns/\Pz os st.1/\st.2.length=6/\∀v,v<6->bI st.1.ns m (st.2.getD v 0)) (gX (dO os vars dn m (i+1)) os old (vars.getD i 0).toNat) (vals (dn.getD (vars.getD i 0).toNat 0)) (s,zero6)
     (fun st v hv hst=>by
      have hv6:v<6:=fE (hd _) hv;have ih:=yw os hz vars dn hd m (i+1) (nodeAt os old v) st.1 (hl' v hv6) hst.2.1;refine⟨hst.1.trans ih.1,⟨ih.2.1.two,ih.2.1.nz,ih.2.1.mv⟩,by simp[gX,hst.2.2.1],fun u hu=>?_⟩
      show bI (dO os vars dn m (i+1) (nodeAt os old v) st.1).1.ns m ((st.2.set v (dO os vars dn m (i+1) (nodeAt os old v) st.1).2).getD u 0)
      by_cases hvu:v=u
      ·subst hvu;have e:(st.2.set v (dO os vars dn m (i+1) (nodeAt os old v) st.1).2).getD v 0=(dO os vars dn m (i+1) (nodeAt os old v) st.1).2:=by simp[List.getD,hst.2.2.1,hu]
       rw[e];exact ih.2.2
      ·have e:(st.2.set v (dO os vars dn m (i+1) (nodeAt os old v) st.1).2).getD u 0=st.2.getD u 0:=by simp[List.getD,hvu]
       rw[e];exact ih.1.uz (hst.2.2.2 u hu)) ⟨Pre.refl _,h,rfl,fun v hv=>by
      have e:zero6.getD v 0=0:=by
       rcases v with _ | _ | _ | _ | _ | _ | v <;> first | rfl | omega
      show bI s.ns m (zero6.getD v 0)
      rw[e];exact wE s.ns m⟩
    generalize (vals (dn.getD (vars.getD i 0).toNat 0)).foldl (gX (dO os vars dn m (i+1)) os old (vars.getD i 0).toNat) (s,zero6)=st at key
    obtain⟨k1,k2,k3,k4⟩:=key;have hp:=mZ st.1.ns st.2;have hlv:=qA st.1.ns k2.two st.2 m k4;refine⟨k1.trans hp,⟨?_,rP st.1.ns k2.nz st.2 k3,?_⟩,hlv⟩
    ·obtain⟨ex,he⟩:=hp;show 2<=(aB st.1.ns st.2).1.length
     rw[he];have:=k2.two
     simp
     omega
    ·intro k x hx m' hk2 hkl;have hx':(if k=old then some (aB st.1.ns st.2).2 else st.1.mv k)=some x:=hx
     split at hx'
     ·rename_i hko;subst hko;cases hx';rw[wF os hz m' (m+1) k (by omega) hkl hl]
      exact hlv
     ·exact hp.uz (k2.mv k x hx' m' hk2 hkl)
theorem AX (vars:List Int) (nt:Bool) (dn:List Nat):∀(m i:Nat) (rows:List (List Int)) (ns:List (List Nat)),NZ ns->NZ (aY vars nt dn m i rows ns).1
 | 0,i,rows,ns,h=>by
  unfold aY;split
  ·exact h
  ·split <;> exact h
 | m+1,i,rows,ns,h=>by
  unfold aY;split
  ·exact h
  ·have key:=lu (fun (st:List (List Nat)×List Nat)=>NZ st.1/\st.2.length=6) (dA (aY vars nt dn m (i+1)) rows i) (vals (dn.getD (vars.getD i 0).toNat 0)) (ns,zero6)
    (fun st v _ hst=>⟨AX vars nt dn m (i+1) (aJ rows i v) st.1 hst.1,by simp[dA,hst.2]⟩) ⟨h,rfl⟩
   exact rP _ key.1 _ key.2
end Go.Proofs.YtkjfpdfkcfgfkaaGreat
namespace Go.Proofs.YtkjfpdfkcfgfkaaGreat
open Go.RowKit
inductive TS where
 | rs (nt:Bool) (br:List Nat) (live:Nat)
 | dg (nv:Value) (os:List (List Nat)) (root:Nat)
def oN (w:World) (G g cap:Nat) (vars:List Int):TS->Prop
 | .rs nt br live=>af w G (bf (.slice (some ⟨g,0,none⟩) vars.length cap) nt br live) 131/\Row w (.slice (some ⟨g,0,none⟩) vars.length cap) 3 (vars.map (Value.int .i64)) /\
   br.length=24/\(∀j,br.getD j 0<18446744073709551616)/\live<18446744073709551616/\vars.length<=cap
 | .dg nv os root=>yZ w G g cap nv vars os root/\os.length<=100000/\bI os vars.length root/\NZ os
def TS.nodes:TS->Nat->Prop
 | .rs ..=>fun _=>False
 | .dg nv _ _=>fun k=>nv.ownBlock=some k
def TS.ty:TS->TypeId
 | .rs ..=>91
 | .dg ..=>89
def TS.kG:TS->FuncId
 | .rs ..=>124
 | .dg ..=>118
def TS.ni:TS->FuncId
 | .rs ..=>125
 | .dg ..=>119
def TS.state:TS->Array Value
 | .rs _ _ live=>#[.int .u64 (live:Int),.slice none 0 0,.int .i64 0]
 | .dg nv _ root=>#[.int .u64 0,nv,.int .i64 (root:Int)]
def rQ (vars:List Int) (dn:List Nat):TS->List Nat
 | .rs false br live=>J9 br live vars dn
 | .rs true br live=>Aw br live vars dn
 | .dg _ os root=>Pq os root vars dn
def TS.Next (vars:List Int) (dn:List Nat):TS->TS->Prop
 | .rs nt br live,t'=>t'= .rs nt br (jy br live vars dn)
 | .dg _ os root,t'=>∃uy,t'= .dg uy (tZ os root vars dn).1.ns (tZ os root vars dn).2
theorem oN.fr {S:Nat->Prop} {w w':World} {G g cap:Nat} {vars:List Int} {t:TS} (h:oN w G g cap vars t) (f:Fr S w w') (hn:∀k,(k=G\/k=g\/t.nodes k)->¬S k):oN w' G g cap vars t:=by
 cases t with
 | rs nt br live=>exact⟨h.1.fr f (hn _ (.inl rfl)),h.2.1.fr f (fun k hk=>hn k (.inr (.inl (by cases hk;rfl)))),h.2.2⟩
 | dg nv os root=>exact⟨h.1.fr f hn,h.2⟩
theorem oN.nw {w w':World} {G g cap:Nat} {vars:List Int} {t:TS} (h:oN w G g cap vars t) (f:Nw w w'):oN w' G g cap vars t:=h.fr f (fun _ _ x=>x)
theorem oN.lt {w:World} {G g cap:Nat} {vars:List Int} {t:TS} (h:oN w G g cap vars t) {k:Nat} (hk:k=G\/k=g\/t.nodes k):k<w.heap.size:=by
 cases t with
 | rs nt br live=>
  rcases hk with rfl | rfl | hk
  ·exact h.1.lt
  ·exact h.2.1.lt rfl
  ·exact hk.elim
 | dg nv os root=>exact h.1.lt hk
theorem TS.KH (t : TS) (G : Nat) (W : World) : (method 292 t.ty (.pointer (some ⟨G, 0, none⟩)) "State").run Tryz.prog W = .ok (t.ni, .pointer (some ⟨G, 0, none⟩)) W := by
 cases t with
 | rs nt br live=>
  simp only[TS.ty,TS.ni];kernel_rfl
 | dg nv os root=>
  simp only[TS.ty,TS.ni];exact Hw G W
theorem TS.rE (t : TS) (G : Nat) (W : World) : (method 292 t.ty (.pointer (some ⟨G, 0, none⟩)) "Narrow").run Tryz.prog W = .ok (t.kG, .pointer (some ⟨G, 0, none⟩)) W := by
 cases t with
 | rs nt br live=>
  simp only[TS.ty,TS.kG];exact Go.Proofs.YtkjfpdfkcfgfkaaGreat.rE G W
 | dg nv os root=>
  simp only[TS.ty,TS.kG];exact Fb G W
theorem H7 (G:Nat) (vv:Value) (nt:Bool) (br:List Nat) (live:Nat) (w:World) (hG:af w G (bf vv nt br live) 131) (sN:br.length=24):
  Calls Tryz.prog 125 #[.pointer (some ⟨G,0,none⟩)] w fun e w'=>e= .returned (.agg #[.int .u64 live,.slice none 0 0,.int .i64 0])/\Nw w w':=by
 have h1:w.cell? ⟨G,26,none⟩=some (.int .u64 (live:Int)):=(hG.cell 26).trans (by simp[bf,sN])
 have uI:=hG.lt;clear hG;go_enter Tryz.func125,Tryz.ntmps125
 go_wp2
 refine bodyPost_ret (v:=.agg #[.int .u64 live,.slice none 0 0,.int .i64 0]) ?_ rfl ⟨rfl,(Fr.refl _ w).alloc _⟩
 simp[results,Tryz.results125,go_sem]
theorem KI (G g cap:Nat) (vars:List Int) (t:TS) (w:World) (h:oN w G g cap vars t):Calls Tryz.prog t.ni #[.pointer (some ⟨G,0,none⟩)] w fun e w'=>e= .returned (.agg t.state)/\Nw w w':=by
 cases t with
 | rs nt br live=>exact H7 G _ nt br live w h.1 h.2.2.1
 | dg nv os root=>exact KF G g cap nv vars os root w h.1
theorem KJ (os:List (List Nat)):Pz os s0:=⟨by decide,fun k h2 hk=>absurd hk (by show ¬k<2;omega),fun k x h=>by cases h⟩
theorem H9 (os:List (List Nat)) (root:Nat) (vars:List Int) (dn:List Nat) (hz:NZ os) (hd:∀q,dn.getD q 0<64) (h4:vars.length<=4) (hl:bI os vars.length root):
  (tZ os root vars dn).1.ns.length<=100000/\bI (tZ os root vars dn).1.ns vars.length (tZ os root vars dn).2/\NZ (tZ os root vars dn).1.ns:=by
 have h1:=yw os hz vars dn hd vars.length 0 root s0 hl (KJ os);have h2:=pF os vars dn hd vars.length 0 root s0 2 (by omega) hl ⟨by decide,by decide,by decide,rfl,rC,fun k x h=>by cases h⟩
 have hc:cnt vars.length<=259:=by
  have:∀n:Fin 5,cnt n.val<=259:=by decide
  exact this ⟨vars.length,by omega⟩
 refine⟨?_,h1.2.2,h1.2.1.nz⟩
 have:=h2.1.ns
 show (dO os vars dn vars.length 0 root s0).1.ns.length<=100000
 omega
theorem Ia (G g cap:Nat) (vars:List Int) (t:TS) (dn:List Nat) (w:World) (h:oN w G g cap vars t) (h8:dn.length=8) (h4:vars.length<=4) (hv:∀i,i<vars.length->0<=vars.getD i 0/\vars.getD i 0<8) (aX:∀q,dn.getD q 0<64):
  Calls Tryz.prog t.kG #[.pointer (some ⟨G,0,none⟩),.agg (ay dn)] w fun e w'=>e= .returned (.agg (ay (rQ vars dn t)))/\Fr (fun k=>k=G) w w' /\
   ∃t',TS.Next vars dn t t'/\oN w' G g cap vars t'/\∀k,t'.nodes k->w.heap.size<=k:=by
 cases t with
 | rs nt br live=>
  obtain⟨hb,hr,sN,hbr,hlive,hcap⟩:=h;have Nv:g≠G:=fun e=>by subst e;exact hr.ne hb (by decide) rfl
  have fin:∀(w':World),Fr (fun k=>k=G) w w'->af w' G (bf (.slice (some ⟨g,0,none⟩) vars.length cap) nt br (jy br live vars dn)) 131 ->
    ∃t',TS.Next vars dn (.rs nt br live) t'/\oN w' G g cap vars t'/\∀k,t'.nodes k->w.heap.size<=k:=fun w' f b=>
   ⟨_,rfl,⟨b,hr.fr f (fun k hk=>by cases hk;exact Nv),sN,hbr,o9 br vars dn live hlive _,hcap⟩,fun k hk=>hk.elim⟩
  cases nt with
  | false=>exact(Ko G g cap br live vars dn w hb hr h8 sN hbr hlive h4 hv aX).mono fun e w' ⟨h1,h2,h3⟩=>⟨h1,h2,fin w' h2 h3⟩
  | true=>exact(GV G g cap br live vars dn w hb hr h8 sN hbr hlive h4 hcap hv aX).mono fun e w' ⟨h1,h2,h3⟩=>⟨h1,h2,fin w' h2 h3⟩
 | dg nv os root=>
  obtain⟨hD,hol,kS,hz⟩:=h;exact(G9 G g cap nv vars os root dn w hD h8 h4 hv aX hol kS).mono fun e w' ⟨h1,h2,uy,h3,h4'⟩=>⟨h1,h2,_,⟨uy,rfl⟩,⟨h3,H9 os root vars dn hz aX h4 kS⟩,h4'⟩
theorem Row.cap {w:World} {g n cap:Nat} {e:TypeId} {xs:List Value} (h:Row w (.slice (some ⟨g,0,none⟩) n cap) e xs):n<=cap:=by
 rcases h.2 with ⟨h2,_⟩ | ⟨g',cap',cur,he,_,_,hc,_⟩
 ·cases h2
 ·cases he;exact hc
def TS.Made (vars:List Int) (rows:List (List Int)) (nt:Bool) (dn:List Nat):Int->TS->Prop
 | 1,t=>t= .rs nt (iZ rows rows.length) (2^rows.length-1)
 | _,t=>∃nv,t= .dg nv (aY vars nt dn vars.length 0 rows [zero6,zero6]).1 (aY vars nt dn vars.length 0 rows [zero6,zero6]).2
theorem PD (vb iT:Nat) (ro:Option Addr) (ak au:Nat) (vars:List Int) (rows:List (List Int)) (nt:Bool) (way:Int) (qg:way=1\/way=2) (dn:List Nat) (w:World) (h8:dn.length=8) (hv0:0<vars.length) (h4:vars.length<=4)
  (hv:∀i,i<vars.length->0<=vars.getD i 0/\vars.getD i 0<8) (aX:∀q,dn.getD q 0<64) (hrl:rows.length<=60) (hrow:∀j,j<rows.length->(rows.getD j []).length=vars.length)
  (hvs:ax w (some ⟨vb,iT,none⟩) vars) (hrs:dW w ro rows):
  Calls Tryz.prog 26 #[.agg #[.slice (some ⟨vb,iT,none⟩) vars.length ak,.slice ro rows.length au,.bool nt,.int .i64 way],.agg (ay dn)] w fun e w'=>
   ∃G g cap t,e= .returned (.iface t.ty (.pointer (some ⟨G,0,none⟩)))/\Nw w w'/\TS.Made vars rows nt dn way t/\oN w' G g cap vars t/\(∀k,(k=G\/k=g\/t.nodes k)->w.heap.size<=k):=by
 rcases qg with rfl | rfl
 ·refine(OW vb iT ro ak au vars rows nt (ay dn) w hv0 h4 hrl (fun i hi=>by rw[hrow i hi];exact h4) hvs hrs).mono ?_
  rintro e w' ⟨G,g,cap,rfl,hf,hb,hr,hG,hg⟩
  have hp:2^rows.length<=2^60:=Nat.pow_le_pow_right (by omega) hrl
  refine⟨G,g,cap,.rs nt (iZ rows rows.length) (2^rows.length-1),rfl,hf,rfl,⟨hb,hr,lU _ _,fun j=>Nat.lt_of_lt_of_le (ER rows rows.length j) (by omega),by omega,hr.cap⟩,?_⟩
  rintro k (rfl | rfl | hk)
  ·exact hG
  ·exact hg
  ·exact hk.elim
 ·refine(Px vb iT ro ak au vars rows nt dn w h8 hv0 h4 hv aX hrl hrow hvs hrs).mono ?_
  rintro e w' ⟨G,g,cap,nv,rfl,hf,hD,hG,hg,hn⟩
  have hc:cnt vars.length<=259:=by
   have:∀n:Fin 5,cnt n.val<=259:=by decide
   exact this ⟨vars.length,by omega⟩
  have hl:=pq vars nt dn aX vars.length 0 rows [zero6,zero6] (by decide)
  have hl2:[zero6,zero6].length=2:=rfl;refine⟨G,g,cap,.dg nv _ _,rfl,hf,⟨nv,rfl⟩,⟨hD,by omega,(pG vars nt dn vars.length 0 rows [zero6,zero6] (by decide)).2,AX vars nt dn vars.length 0 rows [zero6,zero6] (fun k h2 hk=>absurd hk (by show ¬k<2;omega))⟩,?_⟩
  rintro k (rfl | rfl | hk)
  ·exact hG
  ·exact hg
  ·exact hn k hk
def TS.JX (w:World) (G:Nat) (vars:List Int):TS->TS->Prop
 | .rs nt br _,.rs nt0 br0 live0=>nt0=nt/\br0=br/\live0<18446744073709551616
 | .dg _ _ _,.dg nv0 os0 NL=>w.ownsRow 0 151 6 nv0 os0.length (os0.flatMap aT)/\(∀n∈os0,jP n)/\2<=os0.length/\nv0.ownBlock≠some G/\os0.length<=100000/\bI os0 vars.length NL/\NZ os0
 | _,_=>False
theorem Ff (G g cap:Nat) (vars:List Int) (t t0:TS) (w:World) (h:oN w G g cap vars t) (h0:TS.JX w G vars t t0):
  Calls Tryz.prog 74 #[.iface t.ty (.pointer (some ⟨G,0,none⟩)),.agg t0.state] w fun e w'=>e= .returned (.tuple #[])/\Fr (fun k=>k=G) w w'/\oN w' G g cap vars t0:=by
 cases t with
 | rs nt br live=>
  cases t0 with
  | rs nt0 br0 live0=>
   obtain⟨rfl,rfl,hl0⟩:=h0;obtain⟨hb,hr,sN,hbr,hlive,hcap⟩:=h;have Nv:g≠G:=fun e=>by subst e;exact hr.ne hb (by decide) rfl
   exact(KG G _ nt0 br0 live live0 _ 0 w sN hb).mono fun e w' ⟨h1,h2,h3⟩=>⟨h1,h2,⟨h3,hr.fr h2 (fun k hk=>by cases hk;exact Nv),sN,hbr,hl0,hcap⟩⟩
  | dg nv0 os0 NL=>exact h0.elim
 | dg nv os root=>
  cases t0 with
  | rs nt0 br0 live0=>exact h0.elim
  | dg nv0 os0 NL=>
   obtain⟨hrow,hok,h2,We,hrest⟩:=h0;exact(Py G g cap nv nv0 vars os os0 root NL _ w h.1 hrow hok h2 We).mono fun e w' ⟨h1,h2,h3⟩=>⟨h1,h2,⟨h3,hrest⟩⟩
end Go.Proofs.YtkjfpdfkcfgfkaaGreat
namespace Go.Proofs.YtkjfpdfkcfgfkaaGreat
def bZ (vars:List Int) (dn:List Nat) (l:List Nat):Prop:=l.length=vars.length/\∀i,i<vars.length->(dn.getD (vars.getD i 0).toNat 0).testBit (l.getD i 0)=true
def lD (row:List Int) (l:List Nat):Prop:=∀i,i<l.length->gJ (row.getD i 0) (l.getD i 0)=true
def wG (rows:List (List Int)) (nt:Bool) (l:List Nat):Prop:=if nt then ∀j,j<rows.length->¬lD (rows.getD j []) l else ∃j,j<rows.length/\lD (rows.getD j []) l
def uP (vars:List Int) (rows:List (List Int)) (nt:Bool) (dn:List Nat) (i v:Nat):Prop:=∃l,bZ vars dn l/\l.getD i 0=v/\wG rows nt l
theorem gm {s v:Nat} (hs:s<64):v∈vals s↔s.testBit v=true:=by
 simp only[vals,List.mem_filter,List.mem_range];refine⟨fun h=>h.2,fun h=>⟨?_,h⟩⟩
 refine Classical.byContradiction fun hc=>?_
 have:s.testBit v=false:=Nat.testBit_lt_two_pow (Nat.lt_of_lt_of_le hs (Nat.le_trans (show 64<=2^6 by decide) (Nat.pow_le_pow_right (by omega) (by omega))))
 rw[this] at h;cases h
theorem kH (rows:List (List Int)) (i v:Nat) (hi:i<4) (hv:v<6):∀k r,((iZ rows k).getD (6*i+v) 0).testBit r=true↔r<k/\i<(rows.getD r []).length/\gJ ((rows.getD r []).getD i 0) v=true
 | 0,r=>by
  have e:(iZ rows 0).getD (6*i+v) 0=0:=by
   simp only[iZ,List.getD,List.getElem?_replicate]
   split <;> rfl
  rw[e];simp
 | k+1,r=>by
  have hj:6*i+v<(iZ rows k).length:=by rw[lU];omega
  have ih:=kH rows i v hi hv k r;simp only[iZ];rw[xZ _ _ _ _ _ hj,show (6*i+v) / 6=i by omega,show (6*i+v) % 6=v by omega]
  have hd:decide (6*i+v<6*(rows.getD k []).length)=decide (i<(rows.getD k []).length):=by
   apply decide_eq_decide.2
   omega
  rw[hd];by_cases hb:(decide (i<(rows.getD k []).length)&&gJ ((rows.getD k []).getD i 0) v)=true
  ·rw[if_pos hb,Nat.testBit_or,Bool.or_eq_true,ih,Nat.testBit_two_pow];simp only[Bool.and_eq_true,decide_eq_true_eq] at hb ⊢;constructor
   ·rintro(⟨h1,h2⟩ | rfl)
    ·exact⟨by omega,h2⟩
    ·exact⟨by omega,hb⟩
   ·rintro⟨h1,h2⟩
    by_cases hr:k=r
    ·exact .inr hr
    ·exact .inl ⟨by omega,h2⟩
  ·rw[if_neg hb,ih];simp only[Bool.and_eq_true,decide_eq_true_eq] at hb;constructor
   ·rintro⟨h1,h2⟩
    exact⟨by omega,h2⟩
   ·rintro⟨h1,h2⟩
    refine⟨?_,h2⟩
    by_cases hr:k=r
    ·subst hr;exact absurd h2 hb
    ·omega
theorem Tc (br:List Nat) (i r:Nat) (vs:List Nat):(x9 br i vs).testBit r=true↔∃v∈vs,(br.getD (6*i+v) 0).testBit r=true:=by
 suffices h:∀(vs:List Nat) (acc:Nat),(vs.foldl (fun acc v=>acc ||| br.getD (6*i+v) 0) acc).testBit r=true↔acc.testBit r=true\/∃v∈vs,(br.getD (6*i+v) 0).testBit r=true by
  have:=h vs 0
  simpa[x9] using this
 intro vs;induction vs with
 | nil=>intro acc;simp
 | cons a l ih=>
  intro acc;rw[List.foldl_cons,ih];simp only[Nat.testBit_or,Bool.or_eq_true,List.mem_cons];constructor
  ·rintro((h | h) | ⟨v,hv,h⟩)
   ·exact .inl h
   ·exact .inr ⟨a,.inl rfl,h⟩
   ·exact .inr ⟨v,.inr hv,h⟩
  ·rintro(h | ⟨v,rfl | hv,h⟩)
   ·exact .inl (.inl h)
   ·exact .inl (.inr h)
   ·exact .inr ⟨v,hv,h⟩
theorem AY (br:List Nat) (vars:List Int) (dn:List Nat) (live r:Nat):∀k,(jw br vars dn live k).testBit r=true↔live.testBit r=true/\∀i,i<k->∃v∈vals (dn.getD (vars.getD i 0).toNat 0),(br.getD (6*i+v) 0).testBit r=true
 | 0=>by simp[jw]
 | k+1=>by
  simp only[jw,Nat.testBit_and,Bool.and_eq_true,AY br vars dn live r k,Tc];constructor
  ·rintro⟨⟨h1,h2⟩,h3⟩
   refine⟨h1,fun i hi=>?_⟩
   by_cases hk:i=k
   ·subst hk;exact h3
   ·exact h2 i (by omega)
  ·rintro⟨h1,h2⟩
   exact⟨⟨h1,fun i hi=>h2 i (by omega)⟩,h2 k (by omega)⟩
theorem pI (l:List Nat) (q p x:Nat) (hq:q<l.length):(l.set q x).getD p 0=if q=p then x else l.getD p 0:=by
 simp only[List.getD,List.getElem?_set]
 split
 ·simp
 ·rfl
theorem nM (vars:List Int) (d s:List Nat) (hv:∀i,i<vars.length->(vars.getD i 0).toNat<d.length) (q:Nat):∀k,k<=vars.length->(eu vars d s k).getD q 0=if ∃i,i<k/\(vars.getD i 0).toNat=q then s.getD q 0 else d.getD q 0
 | 0,_=>by simp[eu]
 | k+1,hk=>by
  simp only[eu];rw[pI _ _ _ _ (by rw[gy];exact hv k (by omega)),nM vars d s hv q k (by omega)]
  by_cases h:(vars.getD k 0).toNat=q
  ·rw[if_pos h,if_pos ⟨k,by omega,h⟩,h]
  ·rw[if_neg h];by_cases h2:∃i,i<k/\(vars.getD i 0).toNat=q
   ·obtain⟨i,hi,e⟩:=h2;rw[if_pos ⟨i,hi,e⟩,if_pos ⟨i,by omega,e⟩]
   ·rw[if_neg h2,if_neg];rintro⟨i,hi,e⟩
    by_cases hk:i=k
    ·subst hk;exact h e
    ·exact h2 ⟨i,by omega,e⟩
theorem KL (br:List Nat) (live k v:Nat) (vs:List Nat):∀init,(iF br live k vs init).testBit v=true↔init.testBit v=true\/(v∈vs/\live &&& br.getD (6*k+v) 0≠0):=by
 induction vs with
 | nil=>intro init;simp[iF]
 | cons a l ih=>
  intro init;have e:iF br live k (a::l) init=iF br live k l (if live &&& br.getD (6*k+a) 0=0 then init else init ||| 2^a):=rfl
  rw[e,ih];by_cases h0:live &&& br.getD (6*k+a) 0=0
  ·rw[if_pos h0];constructor
   ·rintro(h | ⟨h1,h2⟩)
    ·exact .inl h
    ·exact .inr ⟨List.mem_cons_of_mem _ h1,h2⟩
   ·rintro(h | ⟨h1,h2⟩)
    ·exact .inl h
    ·rcases List.mem_cons.1 h1 with rfl | h1
     ·exact absurd h0 h2
     ·exact .inr ⟨h1,h2⟩
  ·rw[if_neg h0,Nat.testBit_or,Bool.or_eq_true,Nat.testBit_two_pow,decide_eq_true_eq];constructor
   ·rintro((h | rfl) | ⟨h1,h2⟩)
    ·exact .inl h
    ·exact .inr ⟨List.mem_cons_self ..,h0⟩
    ·exact .inr ⟨List.mem_cons_of_mem _ h1,h2⟩
   ·rintro(h | ⟨h1,h2⟩)
    ·exact .inl (.inl h)
    ·rcases List.mem_cons.1 h1 with rfl | h1
     ·exact .inl (.inr rfl)
     ·exact .inr ⟨h1,h2⟩
theorem AZ (br:List Nat) (live:Nat) (vars:List Int) (dn sp:List Nat) (hv:∀i,i<vars.length->(vars.getD i 0).toNat<sp.length) (q v:Nat):∀k,k<=vars.length ->
  (((fV br live vars dn sp k).getD q 0).testBit v=true↔(sp.getD q 0).testBit v=true\/∃i,i<k/\(vars.getD i 0).toNat=q/\v∈vals (dn.getD q 0)/\live &&& br.getD (6*i+v) 0≠0)
 | 0,_=>by simp[fV]
 | k+1,hk=>by
  have ih:=AZ br live vars dn sp hv q v k (by omega)
  simp only[fV];rw[pI _ _ _ _ (by rw[lG];exact hv k (by omega))]
  by_cases h:(vars.getD k 0).toNat=q
  ·rw[if_pos h,h,KL,ih];constructor
   ·rintro((h1 | ⟨i,hi,h2⟩) | h1)
    ·exact .inl h1
    ·exact .inr ⟨i,by omega,h2⟩
    ·exact .inr ⟨k,by omega,h,h1⟩
   ·rintro(h1 | ⟨i,hi,h2⟩)
    ·exact .inl (.inl h1)
    ·by_cases hik:i=k
     ·subst hik;exact .inr h2.2
     ·exact .inl (.inr ⟨i,by omega,h2⟩)
  ·rw[if_neg h,ih];constructor
   ·rintro(h1 | ⟨i,hi,h2⟩)
    ·exact .inl h1
    ·exact .inr ⟨i,by omega,h2⟩
   ·rintro(h1 | ⟨i,hi,h2⟩)
    ·exact .inl h1
    ·by_cases hik:i=k
     ·subst hik;exact absurd h2.1 h
     ·exact .inr ⟨i,by omega,h2⟩
theorem wH (vars:List Int) (dn:List Nat) (P:Nat->Nat->Prop) (h:∀i,i<vars.length->∃v,(dn.getD (vars.getD i 0).toNat 0).testBit v=true/\P i v):∃l,bZ vars dn l/\∀i,i<vars.length->P i (l.getD i 0):=by
 let f:Nat->Nat:=fun i=>if hi:i<vars.length then Classical.choose (h i hi) else 0
 have hf:∀i,(hi:i<vars.length)->((List.range vars.length).map f).getD i 0=Classical.choose (h i hi):=by
  intro i hi;simp[List.getD,hi,f]
 refine⟨(List.range vars.length).map f,⟨by simp,fun i hi=>?_⟩,fun i hi=>?_⟩
 ·rw[hf i hi];exact(Classical.choose_spec (h i hi)).1
 ·rw[hf i hi];exact(Classical.choose_spec (h i hi)).2
theorem bZ.set {vars:List Int} {dn l:List Nat} (h:bZ vars dn l) (i v:Nat) (hv:(dn.getD (vars.getD i 0).toNat 0).testBit v=true):bZ vars dn (l.set i v):=by
 refine⟨by simp[h.1],fun k hk=>?_⟩
 by_cases hki:i=k
 ·subst hki;have e:(l.set i v).getD i 0=v:=by simp[List.getD,h.1,hk]
  rw[e];exact hv
 ·have e:(l.set i v).getD k 0=l.getD k 0:=by simp[List.getD,hki]
  rw[e];exact h.2 k hk
theorem lD.set {row:List Int} {l:List Nat} (h:lD row l) (i v:Nat) (hv:gJ (row.getD i 0) v=true):lD row (l.set i v):=by
 intro k hk;have hk':k<l.length:=by simpa using hk
 by_cases hki:i=k
 ·subst hki;have e:(l.set i v).getD i 0=v:=by simp[List.getD,hk']
  rw[e];exact hv
 ·have e:(l.set i v).getD k 0=l.getD k 0:=by simp[List.getD,hki]
  rw[e];exact h k hk'
def A7 (vars:List Int) (rows:List (List Int)) (dn:List Nat) (live:Nat):Prop:=(∀j,live.testBit j=true->j<rows.length)/\∀j,j<rows.length->(∃l,bZ vars dn l/\lD (rows.getD j []) l)->live.testBit j=true
theorem iL {s v:Nat} (hs:s<64) (h:s.testBit v=true):v<6:=fE hs ((gm hs).2 h)
theorem nC (vars:List Int) (rows:List (List Int)) (dn:List Nat) (live:Nat) (h4:vars.length<=4) (hd:∀q,dn.getD q 0<64) (hrow:∀j,j<rows.length->(rows.getD j []).length=vars.length) (hR:A7 vars rows dn live) (j:Nat):
  (jy (iZ rows rows.length) live vars dn).testBit j=true↔j<rows.length/\∃l,bZ vars dn l/\lD (rows.getD j []) l:=by
 unfold jy;rw[AY];constructor
 ·rintro⟨h1,h2⟩
  have hj:=hR.1 j h1;obtain⟨l,hl,hc⟩:=wH vars dn (fun i v=>gJ ((rows.getD j []).getD i 0) v=true) (fun i hi=>by
   obtain⟨v,hv,hb⟩:=h2 i hi;have hb':=(kH rows i v (by omega) (fE (hd _) hv) rows.length j).1 hb
   exact⟨v,(gm (hd _)).1 hv,hb'.2.2⟩)
  exact⟨hj,l,hl,fun i hi=>hc i (by rw[<-hl.1];exact hi)⟩
 ·rintro⟨hj,l,hl,hc⟩
  refine⟨hR.2 j hj ⟨l,hl,hc⟩,fun i hi=>⟨l.getD i 0,(gm (hd _)).2 (hl.2 i hi),?_⟩⟩
  exact(kH rows i _ (by omega) (iL (hd _) (hl.2 i hi)) rows.length j).2 ⟨hj,by rw[hrow j hj];exact hi,hc i (by rw[hl.1];exact hi)⟩
theorem PE (vars:List Int) (rows:List (List Int)) (dn:List Nat) (live:Nat) (h4:vars.length<=4) (hd:∀q,dn.getD q 0<64) (hrow:∀j,j<rows.length->(rows.getD j []).length=vars.length) (hR:A7 vars rows dn live):
  A7 vars rows dn (jy (iZ rows rows.length) live vars dn):=
 ⟨fun j hj=>((nC vars rows dn live h4 hd hrow hR j).1 hj).1,fun j hj h=>(nC vars rows dn live h4 hd hrow hR j).2 ⟨hj,h⟩⟩
structure lF (vars:List Int):Prop where
 four:vars.length<=4
 ok:∀i,i<vars.length->0<=vars.getD i 0/\vars.getD i 0<8
 one:∀i k,i<vars.length->k<vars.length->vars.getD i 0=vars.getD k 0->i=k
theorem lF.lt {vars:List Int} (h:lF vars) {i:Nat} (hi:i<vars.length):(vars.getD i 0).toNat<8:=by
 have:=h.ok i hi
 omega
theorem lF.nat {vars:List Int} (h:lF vars) {i k:Nat} (hi:i<vars.length) (hk:k<vars.length) (e:(vars.getD i 0).toNat=(vars.getD k 0).toNat):i=k:=by
 have h1:=h.ok i hi;have h2:=h.ok k hk;exact h.one i k hi hk (by omega)
theorem zf (a b:Nat):a &&& b≠0↔∃j,a.testBit j=true/\b.testBit j=true:=by
 constructor
 ·intro h;refine Classical.byContradiction fun hc=>h ?_
  apply Nat.eq_of_testBit_eq
  intro j;rw[Nat.testBit_and,Nat.zero_testBit];cases h1:a.testBit j with
  | false=>rfl
  | true=>
   cases h2:b.testBit j with
   | false=>rfl
   | true=>exact absurd ⟨j,h1,h2⟩ hc
 ·rintro⟨j,h1,h2⟩ h0
  have h3:(a &&& b).testBit j=false:=by rw[h0];exact Nat.zero_testBit j
  rw[Nat.testBit_and,h1,h2] at h3;cases h3
theorem Td (vars:List Int) (rows:List (List Int)) (dn:List Nat) (live:Nat) (h8:dn.length=8) (hV:lF vars) (hd:∀q,dn.getD q 0<64) (hrow:∀j,j<rows.length->(rows.getD j []).length=vars.length) (hR:A7 vars rows dn live)
  (i v:Nat) (hi:i<vars.length):((J9 (iZ rows rows.length) live vars dn).getD (vars.getD i 0).toNat 0).testBit v=true↔uP vars rows false dn i v:=by
 unfold J9;rw[nM vars dn _ (fun k hk=>by rw[h8];exact hV.lt hk) _ _ (Nat.le_refl _),if_pos ⟨i,hi,rfl⟩,AZ _ _ vars dn aQ (fun k hk=>hV.lt hk) _ _ _ (Nat.le_refl _)]
 have hz:aQ.getD (vars.getD i 0).toNat 0=0:=by
  have:=hV.lt hi
  generalize (vars.getD i 0).toNat=q at this
  rcases q with _ | _ | _ | _ | _ | _ | _ | _ | q <;> first | rfl | omega
 rw[hz];constructor
 ·rintro(h | ⟨k,hk,hq,hv,h⟩)
  ·simp at h
  ·have hki:=hV.nat hk hi hq;subst hki;obtain⟨j,h1,h2⟩:=(zf _ _).1 h;obtain⟨hj,l,hl,hc⟩:=(nC vars rows dn live hV.four hd hrow hR j).1 h1;have hb:=(kH rows k v (by have:=hV.four;omega) (fE (hd _) hv) rows.length j).1 h2
   refine⟨l.set k v,hl.set k v ((gm (hd _)).1 hv),by simp[List.getD,hl.1,hk],?_⟩
   exact⟨j,hj,hc.set k v hb.2.2⟩
 ·rintro⟨l,hl,rfl,h⟩
  obtain⟨j,hj,hc⟩:∃j,j<rows.length/\lD (rows.getD j []) l:=h;have hb:=hl.2 i hi;refine .inr ⟨i,hi,rfl,(gm (hd _)).2 hb,(zf _ _).2 ⟨j,(nC vars rows dn live hV.four hd hrow hR j).2 ⟨hj,l,hl,hc⟩,?_⟩⟩
  exact(kH rows i _ (by have:=hV.four;omega) (iL (hd _) hb) rows.length j).2 ⟨hj,by rw[hrow j hj];exact hi,hc i (by rw[hl.1];exact hi)⟩
end Go.Proofs.YtkjfpdfkcfgfkaaGreat
namespace Go.Proofs.YtkjfpdfkcfgfkaaGreat
theorem sV {α β:Type} (R:List α->β->Prop) (f:β->α->β):∀(l pre:List α) (b:β),R pre b->(∀p a b,a∈l->R p b->R (p++[a]) (f b a))->R (pre++l) (l.foldl f b)
 | [],pre,b,h,_=>by simpa using h
 | a::l,pre,b,h,hs=>by
  have:=sV R f l (pre++[a]) (f b a) (hs pre a b (List.mem_cons_self ..) h) (fun p a' b' ha=>hs p a' b' (List.mem_cons_of_mem _ ha))
  simpa using this
def pJ (br:List Nat) (n i R:Nat) (l:List Nat):Prop:=∀j,R.testBit j=true->∃k,i<=k/\k<n/\(br.getD (6*k+l.getD k 0) 0).testBit j=false
def dN (sp dn:List Nat):Prop:=∀q v,(sp.getD q 0).testBit v=true->(dn.getD q 0).testBit v=true
theorem kz {R:Nat} (h:R≠0):∃j,R.testBit j=true:=Nat.exists_testBit_of_ne_zero h
theorem wI (vars:List Int) (dn sp:List Nat) (hV:lF vars) (h8:sp.length=8) (i q:Nat):∀j,i+j<=vars.length->(fZ vars dn sp i j).getD q 0=if ∃k,k<i+j/\i<=k/\(vars.getD k 0).toNat=q then dn.getD q 0 else sp.getD q 0
 | 0,_=>by
  rw[if_neg]
  ·rfl
  ·rintro⟨k,h2,h1,_⟩
   omega
 | j+1,hj=>by
  simp only[fZ];rw[pI _ _ _ _ (by rw[iw,h8];exact hV.lt (by omega)),wI vars dn sp hV h8 i q j (by omega)]
  by_cases h:(vars.getD (i+j) 0).toNat=q
  ·rw[if_pos h,if_pos ⟨i+j,by omega,by omega,h⟩,h]
  ·rw[if_neg h];by_cases h2:∃k,k<i+j/\i<=k/\(vars.getD k 0).toNat=q
   ·obtain⟨k,h3,h4,e⟩:=h2;rw[if_pos ⟨k,h3,h4,e⟩,if_pos ⟨k,by omega,h4,e⟩]
   ·rw[if_neg h2,if_neg];rintro⟨k,h3,h4,e⟩
    by_cases hk:k=i+j
    ·subst hk;exact h e
    ·exact h2 ⟨k,by omega,h4,e⟩
structure KN (br:List Nat) (vars:List Int) (dn sp:List Nat) (i R:Nat) (P:List Nat->Prop) (st:Bool×List Nat):Prop where
 len:st.2.length=8
 sub:dN st.2 dn
 one:st.1=true↔∃l,bZ vars dn l/\pJ br vars.length i R l/\P l
 two:∀q v,(st.2.getD q 0).testBit v=true↔(sp.getD q 0).testBit v=true\/∃l k,bZ vars dn l/\pJ br vars.length i R l/\P l/\i<=k/\k<vars.length/\(vars.getD k 0).toNat=q/\l.getD k 0=v
theorem pJ.set {br:List Nat} {n i R v:Nat} {l:List Nat} (h:pJ br n (i+1) R l):pJ br n (i+1) R (l.set i v):=by
 intro j hj;obtain⟨k,h1,h2,h3⟩:=h j hj;refine⟨k,h1,h2,?_⟩
 have e:(l.set i v).getD k 0=l.getD k 0:=by
  have:i≠k:=by omega
  simp[List.getD,this]
 rw[e];exact h3
theorem qB {br:List Nat} {n i R v:Nat} {l:List Nat} (hi:i<n) (hv:l.getD i 0=v):pJ br n i R l↔pJ br n (i+1) (R &&& br.getD (6*i+v) 0) l:=by
 constructor
 ·intro h j hj;rw[Nat.testBit_and,Bool.and_eq_true] at hj;obtain⟨k,h1,h2,h3⟩:=h j hj.1;refine⟨k,?_,h2,h3⟩
  by_cases hk:k=i
  ·subst hk;rw[hv,hj.2] at h3;cases h3
  ·omega
 ·intro h j hj;cases hb:(br.getD (6*i+v) 0).testBit j with
  | false=>exact⟨i,Nat.le_refl _,hi,by rw[hv];exact hb⟩
  | true=>
   obtain⟨k,h1,h2,h3⟩:=h j (by rw[Nat.testBit_and,hj,hb];rfl)
   exact⟨k,by omega,h2,h3⟩
theorem gQ {l:List Nat} {i n v:Nat} (h:l.length=n) (hi:i<n):(l.set i v).getD i 0=v:=by simp[List.getD,h,hi]
theorem iW {l:List Nat} {i k v:Nat} (h:i≠k):(l.set i v).getD k 0=l.getD k 0:=by simp[List.getD,h]
theorem WY (br:List Nat) (vars:List Int) (dn:List Nat) (hV:lF vars) (hd:∀q,dn.getD q 0<64) (hne:∃l,bZ vars dn l):∀(m i R:Nat) (sp:List Nat),m+i=vars.length->sp.length=8->dN sp dn->KN br vars dn sp i R (fun _=>True) (vN br vars dn m i R sp):=by
 have zero:∀(i:Nat) (sp:List Nat),i<=vars.length->sp.length=8->dN sp dn->KN br vars dn sp i 0 (fun _=>True) (true,fZ vars dn sp i (vars.length-i)):=by
  intro i sp hi h8 hs;have hg:=fun q=>wI vars dn sp hV h8 i q (vars.length-i) (by omega)
  have hu:∀l,pJ br vars.length i 0 l:=fun l j hj=>by simp at hj
  obtain⟨l0,hl0⟩:=hne;refine⟨by rw[iw];exact h8,fun q v h=>?_,⟨fun _=>⟨l0,hl0,hu l0,trivial⟩,fun _=>rfl⟩,fun q v=>?_⟩
  ·have h':((fZ vars dn sp i (vars.length-i)).getD q 0).testBit v=true:=h;rw[hg q] at h';split at h'
   ·exact h'
   ·exact hs q v h'
  ·show ((fZ vars dn sp i (vars.length-i)).getD q 0).testBit v=true↔_
   rw[hg q];constructor
   ·intro h;split at h
    ·rename_i hk;obtain⟨k,h2,h1,e⟩:=hk;subst e;exact .inr ⟨l0.set k v,k,hl0.set k v h,hu _,trivial,h1,by omega,rfl,gQ hl0.1 (by omega)⟩
    ·exact .inl h
   ·rintro(h | ⟨l,k,hl,_,_,h1,h2,e,e2⟩)
    ·split
     ·exact hs q v h
     ·exact h
    ·rw[if_pos ⟨k,by omega,h1,e⟩]
     subst e e2;exact hl.2 k h2
 intro m;induction m with
 | zero=>
  intro i R sp hm h8 hs;unfold vN;split
  ·rename_i h0;subst h0;exact zero i sp (by omega) h8 hs
  ·rename_i h0;obtain⟨j,hj⟩:=kz h0;have hno:∀l,¬pJ br vars.length i R l:=fun l h=>by
    obtain⟨k,h1,h2,_⟩:=h j hj;omega
   refine⟨h8,hs,⟨fun h=>(by cases h),fun ⟨l,_,h,_⟩=>absurd h (hno l)⟩,fun q v=>⟨fun h=>.inl h,?_⟩⟩
   rintro(h | ⟨l,k,_,h,_⟩)
   ·exact h
   ·exact absurd h (hno l)
 | succ m ih=>
  intro i R sp hm h8 hs;unfold vN;split
  ·rename_i h0;subst h0;exact zero i sp (by omega) h8 hs
  ·have hin:i<vars.length:=by omega
   have key:=sV (fun (pre:List Nat) (st:Bool×List Nat)=>KN br vars dn sp i R (fun l=>l.getD i 0∈pre) st) (jm (vN br vars dn m (i+1)) br i R (vars.getD i 0).toNat) (vals (dn.getD (vars.getD i 0).toNat 0)) [] (false,sp)
    ⟨h8,hs,⟨fun h=>(by cases h),fun ⟨l,_,_,h⟩=>(by cases h)⟩,fun q v=>⟨fun h=>.inl h,fun h=>by
     rcases h with h | ⟨l,k,_,_,h,_⟩
     ·exact h
     ·cases h⟩⟩
    (fun p a st ha hst=>by
     have hab:=(gm (hd _)).1 ha;have h1:=ih (i+1) (R &&& br.getD (6*i+a) 0) st.2 (by omega) hst.len hst.sub
     have hq8:=hV.lt hin;unfold jm;generalize vN br vars dn m (i+1) (R &&& br.getD (6*i+a) 0) st.2=X at h1
     have mem:∀l:List Nat,l.getD i 0∈p++[a]↔l.getD i 0∈p\/l.getD i 0=a:=fun l=>by simp
     cases hX:X.1 with
     | true=>
      obtain⟨l1,hl1,hu1,_⟩:=h1.one.1 hX;have abT:=hl1.set i a hab;have abU:pJ br vars.length i R (l1.set i a):=(qB hin (gQ hl1.1 hin)).2 hu1.set;rw[if_pos rfl];have hg:∀q,(X.2.set (vars.getD i 0).toNat (X.2.getD (vars.getD i 0).toNat 0 ||| 2^a)).getD q 0=if (vars.getD i 0).toNat=q then X.2.getD (vars.getD i 0).toNat 0 ||| 2^a else X.2.getD q 0:=fun q=>pI _ _ _ _ (by rw[h1.len];exact hq8)
      have two:∀q v,((X.2.set (vars.getD i 0).toNat (X.2.getD (vars.getD i 0).toNat 0 ||| 2^a)).getD q 0).testBit v=true↔(X.2.getD q 0).testBit v=true\/((vars.getD i 0).toNat=q/\a=v):=by
       intro q v;rw[hg q];split
       ·rename_i e;rw[Nat.testBit_or,Bool.or_eq_true,Nat.testBit_two_pow,decide_eq_true_eq,e];exact⟨fun h=>h.elim .inl (fun h=>.inr ⟨rfl,h⟩),fun h=>h.elim .inl (fun h=>.inr h.2)⟩
       ·rename_i e;exact⟨.inl,fun h=>h.elim id (fun h=>absurd h.1 e)⟩
      refine⟨by simp[h1.len],fun q v h=>?_,⟨fun _=>⟨_,abT,abU,(mem _).2 (.inr (gQ hl1.1 hin))⟩,fun _=>rfl⟩,fun q v=>?_⟩
      ·rcases(two q v).1 h with h | ⟨rfl,rfl⟩
       ·exact h1.sub q v h
       ·exact hab
      ·rw[two q v,h1.two q v,hst.two q v];constructor
       ·rintro(((h | ⟨l,k,a1,a2,a3,a4⟩) | ⟨l,k,a1,a2,_,a4,a5,a6,a7⟩) | ⟨rfl,rfl⟩)
        ·exact .inl h
        ·exact .inr ⟨l,k,a1,a2,(mem l).2 (.inl a3),a4⟩
        ·exact .inr ⟨l.set i a,k,a1.set i a hab,(qB hin (gQ a1.1 hin)).2 a2.set,(mem _).2 (.inr (gQ a1.1 hin)),by omega,a5,a6,by rw[iW (by omega)];exact a7⟩
        ·exact .inr ⟨_,i,abT,abU,(mem _).2 (.inr (gQ hl1.1 hin)),Nat.le_refl _,hin,rfl,gQ hl1.1 hin⟩
       ·rintro(h | ⟨l,k,a1,a2,a3,a4,a5,a6,a7⟩)
        ·exact .inl (.inl (.inl h))
        ·rcases(mem l).1 a3 with a3 | a3
         ·exact .inl (.inl (.inr ⟨l,k,a1,a2,a3,a4,a5,a6,a7⟩))
         ·by_cases hk:k=i
          ·subst hk;exact .inr ⟨a6,by rw[<-a3];exact a7⟩
          ·exact .inl (.inr ⟨l,k,a1,(qB hin a3).1 a2,trivial,by omega,a5,a6,a7⟩)
     | false=>
      have hno:∀l,bZ vars dn l->l.getD i 0=a->¬pJ br vars.length i R l:=fun l hl e h=>by
       have:=h1.one.2 ⟨l,hl,(qB hin e).1 h,trivial⟩
       rw[hX] at this;cases this
      have aeC:∀l,bZ vars dn l->¬pJ br vars.length (i+1) (R &&& br.getD (6*i+a) 0) l:=fun l hl h=>by
       have:=h1.one.2 ⟨l,hl,h,trivial⟩
       rw[hX] at this;cases this
      rw[if_neg (by simp)]
      refine⟨h1.len,h1.sub,?_,fun q v=>?_⟩
      ·show st.1=true↔_
       rw[hst.one];constructor
       ·rintro⟨l,a1,a2,a3⟩
        exact⟨l,a1,a2,(mem l).2 (.inl a3)⟩
       ·rintro⟨l,a1,a2,a3⟩
        rcases(mem l).1 a3 with a3 | a3
        ·exact⟨l,a1,a2,a3⟩
        ·exact absurd a2 (hno l a1 a3)
      ·show (X.2.getD q 0).testBit v=true↔_
       rw[h1.two q v,hst.two q v];constructor
       ·rintro((h | ⟨l,k,a1,a2,a3,a4⟩) | ⟨l,k,a1,a2,_⟩)
        ·exact .inl h
        ·exact .inr ⟨l,k,a1,a2,(mem l).2 (.inl a3),a4⟩
        ·exact absurd a2 (aeC l a1)
       ·rintro(h | ⟨l,k,a1,a2,a3,a4⟩)
        ·exact .inl (.inl h)
        ·rcases(mem l).1 a3 with a3 | a3
         ·exact .inl (.inr ⟨l,k,a1,a2,a3,a4⟩)
         ·exact absurd a2 (hno l a1 a3))
   rw[List.nil_append] at key;refine⟨key.len,key.sub,?_,fun q v=>?_⟩
   ·rw[key.one];exact⟨fun ⟨l,a1,a2,_⟩=>⟨l,a1,a2,trivial⟩,fun ⟨l,a1,a2,_⟩=>⟨l,a1,a2,(gm (hd _)).2 (a1.2 i hin)⟩⟩
   ·rw[key.two q v];constructor
    ·rintro(h | ⟨l,k,a1,a2,_,a4⟩)
     ·exact .inl h
     ·exact .inr ⟨l,k,a1,a2,trivial,a4⟩
    ·rintro(h | ⟨l,k,a1,a2,_,a4⟩)
     ·exact .inl h
     ·exact .inr ⟨l,k,a1,a2,(gm (hd _)).2 (a1.2 i hin),a4⟩
theorem gG (q:Nat):aQ.getD q 0=0:=by
 rcases q with _ | _ | _ | _ | _ | _ | _ | _ | q <;> rfl
theorem PG (vars:List Int) (rows:List (List Int)) (dn:List Nat) (live:Nat) (h8:dn.length=8) (hV:lF vars) (hd:∀q,dn.getD q 0<64) (hrow:∀j,j<rows.length->(rows.getD j []).length=vars.length) (hR:A7 vars rows dn live)
  (hne:∃l,bZ vars dn l) (i v:Nat) (hi:i<vars.length):((Aw (iZ rows rows.length) live vars dn).getD (vars.getD i 0).toNat 0).testBit v=true↔uP vars rows true dn i v:=by
 unfold Aw;rw[nM vars dn _ (fun k hk=>by rw[h8];exact hV.lt hk) _ _ (Nat.le_refl _),if_pos ⟨i,hi,rfl⟩]
 have h:=WY (iZ rows rows.length) vars dn hV hd hne vars.length 0 (jy (iZ rows rows.length) live vars dn) aQ rfl rfl (fun q v h=>by rw[gG] at h;simp at h)
 rw[h.two,gG];have hu:∀l,bZ vars dn l->(pJ (iZ rows rows.length) vars.length 0 (jy (iZ rows rows.length) live vars dn) l↔wG rows true l):=by
  intro l hl;have h4:=hV.four;constructor
  ·intro hu j hj hc;obtain⟨k,_,hk,hb⟩:=hu j ((nC vars rows dn live hV.four hd hrow hR j).2 ⟨hj,l,hl,hc⟩);have:=(kH rows k _ (by omega) (iL (hd _) (hl.2 k hk)) rows.length j).2 ⟨hj,by rw[hrow j hj];exact hk,hc k (by rw[hl.1];exact hk)⟩
   rw[hb] at this;cases this
  ·intro ha j hj;have hj':=((nC vars rows dn live hV.four hd hrow hR j).1 hj).1;refine Classical.byContradiction fun hc=>ha j hj' ?_
   intro k hk;rw[hl.1] at hk;cases hb:((iZ rows rows.length).getD (6*k+l.getD k 0) 0).testBit j with
   | false=>exact absurd ⟨k,Nat.zero_le _,hk,hb⟩ hc
   | true=>exact((kH rows k _ (by omega) (iL (hd _) (hl.2 k hk)) rows.length j).1 hb).2.2
 constructor
 ·rintro(h0 | ⟨l,k,a1,a2,_,_,a5,a6,a7⟩)
  ·simp at h0
  ·have e:=hV.nat a5 hi a6;subst e;exact⟨l,a1,a7,(hu l a1).1 a2⟩
 ·rintro⟨l,a1,a2,a3⟩
  exact .inr ⟨l,i,a1,(hu l a1).2 a3,trivial,Nat.zero_le _,hi,rfl,a2⟩
end Go.Proofs.YtkjfpdfkcfgfkaaGreat
namespace Go.Proofs.YtkjfpdfkcfgfkaaGreat
def iK (os:List (List Nat)):Nat->Nat->Nat->List Nat->Prop
 | 0,_,old,_=>old=1
 | m+1,i,old,l=>2<=old/\iK os m (i+1) (nodeAt os old (l.getD i 0)) l
theorem jh (os:List (List Nat)) (m i:Nat) (l:List Nat):¬iK os m i 0 l:=by
 cases m with
 | zero=>intro h;cases h
 | succ m=>intro h;exact absurd h.1 (by omega)
theorem rU {a b:List (List Nat)} (hp:Pre a b) (l:List Nat) (hl:∀i,l.getD i 0<6):∀(m i old:Nat),bI a m old->(iK a m i old l↔iK b m i old l)
 | 0,_,_,_=>Iff.rfl
 | m+1,i,old,h=>by
  rcases h with rfl | ⟨h2,hlt,h⟩
  ·exact⟨fun h=>absurd h (jh _ _ _ _),fun h=>absurd h (jh _ _ _ _)⟩
  ·obtain⟨ex,rfl⟩:=hp;show (2<=old/\iK a m (i+1) (nodeAt a old (l.getD i 0)) l)↔(2<=old/\iK (a++ex) m (i+1) (nodeAt (a++ex) old (l.getD i 0)) l)
   rw[uO a ex old _ hlt,rU ⟨ex,rfl⟩ l hl m (i+1) _ (h _ (hl i))]
theorem wJ (os:List (List Nat)) (l:List Nat) (k v:Nat):∀(m i old:Nat),k<i->(iK os m i old (l.set k v)↔iK os m i old l)
 | 0,_,_,_=>Iff.rfl
 | m+1,i,old,h=>by
  show (2<=old/\iK os m (i+1) (nodeAt os old ((l.set k v).getD i 0)) (l.set k v))↔_
  rw[iW (by omega),wJ os l k v m (i+1) _ (by omega)]
  exact Iff.rfl
theorem bZ.lt6 {vars:List Int} {dn l:List Nat} (h:bZ vars dn l) (hd:∀q,dn.getD q 0<64) (i:Nat):l.getD i 0<6:=by
 by_cases hi:i<vars.length
 ·exact iL (hd _) (h.2 i hi)
 ·have:l.getD i 0=0:=by
   have h1:l.length<=i:=by rw[h.1];omega
   simp[List.getD,List.getElem?_eq_none h1]
  omega
theorem zg (ns:List (List Nat)) (h2:2<=ns.length) (n:List Nat) (m i:Nat) (l:List Nat) (hl:∀i,l.getD i 0<6) (hn:∀v,v<6->bI ns m (n.getD v 0)):
  iK (aB ns n).1 (m+1) i (aB ns n).2 l↔iK ns m (i+1) (n.getD (l.getD i 0) 0) l:=by
 have hp:=mZ ns n;rw[rU hp l hl m (i+1) _ (hn _ (hl i))];unfold aB;split
 ·rename_i hz;subst hz;have e:zero6.getD (l.getD i 0) 0=0:=by
   have:=hl i
   generalize l.getD i 0=v at this
   rcases v with _ | _ | _ | _ | _ | _ | v <;> first | rfl | omega
  rw[e];exact⟨fun h=>absurd h (jh _ _ _ _),fun h=>absurd h (jh _ _ _ _)⟩
 ·split
  ·rename_i k hk;obtain⟨h1,_,h4⟩:=D7 ns n k hk;show (2<=k/\iK ns m (i+1) ((ns.getD k []).getD (l.getD i 0) 0) l)↔_
   rw[h4];exact⟨fun h=>h.2,fun h=>⟨h1,h⟩⟩
  ·show (2<=ns.length/\iK (ns++[n]) m (i+1) (((ns++[n]).getD ns.length []).getD (l.getD i 0) 0) l)↔_
   have e:(ns++[n]).getD ns.length []=n:=by simp[List.getD]
   rw[e];exact⟨fun h=>h.2,fun h=>⟨h2,h⟩⟩
def kC (n i:Nat) (rows:List (List Int)) (nt:Bool) (l:List Nat):Prop:=
 if nt then ∀r∈rows,¬∀k,i<=k->k<n->gJ (r.getD k 0) (l.getD k 0)=true else ∃r∈rows,∀k,i<=k->k<n->gJ (r.getD k 0) (l.getD k 0)=true
theorem KO (n i:Nat) (hi:i<n) (rows:List (List Int)) (nt:Bool) (l:List Nat):kC n (i+1) (aJ rows i (l.getD i 0)) nt l↔kC n i rows nt l:=by
 have key:∀r:List Int,(gJ (r.getD i 0) (l.getD i 0)=true/\∀k,i+1<=k->k<n->gJ (r.getD k 0) (l.getD k 0)=true)↔∀k,i<=k->k<n->gJ (r.getD k 0) (l.getD k 0)=true:=by
  intro r;constructor
  ·rintro⟨h1,h2⟩ k hk hn
   by_cases e:k=i
   ·subst e;exact h1
   ·exact h2 k (by omega) hn
  ·intro h;exact⟨h i (Nat.le_refl _) hi,fun k hk hn=>h k (by omega) hn⟩
 unfold kC aJ;cases nt with
 | true=>
  simp only[if_true,List.mem_filter];constructor
  ·intro h r hr hc;have:=(key r).2 hc
   exact h r ⟨hr,this.1⟩ this.2
  ·rintro h r ⟨hr,hb⟩ hc
   exact h r hr ((key r).1 ⟨hb,hc⟩)
 | false=>
  simp only[Bool.false_eq_true,if_false,List.mem_filter];constructor
  ·rintro⟨r,⟨hr,hb⟩,hc⟩
   exact⟨r,hr,(key r).1 ⟨hb,hc⟩⟩
  ·rintro⟨r,hr,hc⟩
   have:=(key r).2 hc
   exact⟨r,⟨hr,this.1⟩,this.2⟩
theorem D8 (vars:List Int) (nt:Bool) (dn:List Nat) (hd:∀q,dn.getD q 0<64) (l:List Nat) (hO:bZ vars dn l):∀(m i:Nat) (rows:List (List Int)) (ns:List (List Nat)),m+i=vars.length->2<=ns.length ->
  (iK (aY vars nt dn m i rows ns).1 m i (aY vars nt dn m i rows ns).2 l↔kC vars.length i rows nt l)
 | 0,i,rows,ns,hm,h2=>by
  have e:kC vars.length i rows nt l↔(if nt then rows=[] else rows≠[]):=by
   have tr:∀r:List Int,∀k,i<=k->k<vars.length->gJ (r.getD k 0) (l.getD k 0)=true:=fun r k h1 h2=>by omega
   unfold kC;cases nt with
   | true=>
    simp only[if_true];constructor
    ·intro h;cases rows with
     | nil=>rfl
     | cons r rs=>exact absurd (tr r) (h r (List.mem_cons_self ..))
    ·rintro rfl r hr
     cases hr
   | false=>
    simp only[Bool.false_eq_true,if_false];constructor
    ·rintro⟨r,hr,_⟩ rfl
     cases hr
    ·intro h;cases rows with
     | nil=>exact absurd rfl h
     | cons r rs=>exact⟨r,List.mem_cons_self ..,tr r⟩
  rw[e];unfold aY;cases nt <;> cases rows <;> simp[iK]
 | m+1,i,rows,ns,hm,h2=>by
  unfold aY;split
  ·rename_i h;simp only[Bool.and_eq_true,Bool.not_eq_true',List.isEmpty_iff] at h;obtain⟨rfl,rfl⟩:=h;refine⟨fun h=>absurd h (jh _ _ _ _),?_⟩
   rintro⟨r,hr,_⟩
   cases hr
  ·have hi:i<vars.length:=by omega
   have key:=sV (fun (pre:List Nat) (st:List (List Nat)×List Nat)=>2<=st.1.length/\st.2.length=6/\(∀v,v<6->bI st.1 m (st.2.getD v 0))/\∀v∈pre,v<6/\(iK st.1 m (i+1) (st.2.getD v 0) l↔kC vars.length (i+1) (aJ rows i v) nt l))
    (dA (aY vars nt dn m (i+1)) rows i) (vals (dn.getD (vars.getD i 0).toNat 0)) [] (ns,zero6)
    ⟨h2,rfl,fun v hv=>by
     have e:zero6.getD v 0=0:=by
      rcases v with _ | _ | _ | _ | _ | _ | v <;> first | rfl | omega
     show bI ns m (zero6.getD v 0)
     rw[e];exact wE ns m,fun v hv=>by cases hv⟩
    (fun p a st ha hst=>by
     obtain⟨k1,k2,k3,k4⟩:=hst;have ha6:a<6:=fE (hd _) ha;have ih:=D8 vars nt dn hd l hO m (i+1) (aJ rows i a) st.1 (by omega) k1
     have il:=pG vars nt dn m (i+1) (aJ rows i a) st.1 k1;unfold dA;generalize aY vars nt dn m (i+1) (aJ rows i a) st.1=X at ih il
     have hl2:2<=X.1.length:=by
      obtain⟨ex,he⟩:=il.1;rw[he];simp
      omega
     have hself:(st.2.set a X.2).getD a 0=X.2:=gQ k2 ha6;refine⟨hl2,by simp[k2],fun v hv=>?_,fun v hv=>?_⟩
     ·show bI X.1 m ((st.2.set a X.2).getD v 0)
      by_cases e:a=v
      ·subst e;rw[hself];exact il.2
      ·rw[iW e];exact il.1.uz (k3 v hv)
     ·show v<6/\(iK X.1 m (i+1) ((st.2.set a X.2).getD v 0) l↔_)
      by_cases e:a=v
      ·subst e;rw[hself];exact⟨ha6,ih⟩
      ·rw[iW e];have hv':v∈p:=by
        rcases List.mem_append.1 hv with h | h
        ·exact h
        ·exact absurd (List.mem_singleton.1 h).symm e
       have:=k4 v hv'
       refine⟨this.1,?_⟩
       rw[<-rU il.1 l (hO.lt6 hd) m (i+1) _ (k3 v this.1)];exact this.2)
   rw[List.nil_append] at key;generalize (vals (dn.getD (vars.getD i 0).toNat 0)).foldl (dA (aY vars nt dn m (i+1)) rows i) (ns,zero6)=st at key
   obtain⟨k1,k2,k3,k4⟩:=key;rw[zg st.1 k1 st.2 m i l (hO.lt6 hd) k3,(k4 _ ((gm (hd _)).2 (hO.2 i hi))).2];exact KO vars.length i hi rows nt l
end Go.Proofs.YtkjfpdfkcfgfkaaGreat
namespace Go.Proofs.YtkjfpdfkcfgfkaaGreat
structure KP (os:List (List Nat)) (vars:List Int) (dn:List Nat) (s:CS):Prop where
 uz:Pz os s
 sp8:s.sp.length=8
 mv:∀k x m i,s.mv k=some x->2<=k->bI os m k->m+i=vars.length ->
  (∀l,bZ vars dn l->(iK s.ns m i x l↔iK os m i k l))/\(x≠0->∃l,bZ vars dn l/\iK os m i k l) /\
  ∀l j,bZ vars dn l->iK os m i k l->i<=j->j<vars.length->(s.sp.getD (vars.getD j 0).toNat 0).testBit (l.getD j 0)=true
structure ZC (os:List (List Nat)) (vars:List Int) (dn:List Nat) (m i old:Nat) (s:CS) (r:CS×Nat):Prop where
 sem:KP os vars dn r.1
 pre:Pre s.ns r.1.ns
 uz:bI r.1.ns m r.2
 acc:∀l,bZ vars dn l->(iK r.1.ns m i r.2 l↔iK os m i old l)
 ne:r.2≠0->∃l,bZ vars dn l/\iK os m i old l
 sp:∀q v,(r.1.sp.getD q 0).testBit v=true↔(s.sp.getD q 0).testBit v=true\/∃l j,bZ vars dn l/\iK os m i old l/\i<=j/\j<vars.length/\(vars.getD j 0).toNat=q/\l.getD j 0=v
theorem Ib (s:CS) (q v r p u:Nat) (hq:q<s.sp.length):((s.mark q v r).sp.getD p 0).testBit u=true↔(s.sp.getD p 0).testBit u=true\/(r≠0/\q=p/\v=u):=by
 unfold CS.mark;dsimp only
 split
 ·rename_i h;exact⟨.inl,fun h'=>h'.elim id (fun h2=>absurd h h2.1)⟩
 ·rename_i h;rw[pI _ _ _ _ hq];split
  ·rename_i e;rw[Nat.testBit_or,Bool.or_eq_true,Nat.testBit_two_pow,decide_eq_true_eq,e];exact⟨fun h'=>h'.elim .inl (fun h2=>.inr ⟨h,rfl,h2⟩),fun h'=>h'.elim .inl (fun h2=>.inr h2.2.2)⟩
  ·rename_i e;exact⟨.inl,fun h'=>h'.elim id (fun h2=>absurd h2.2.1 e)⟩
theorem KP.mark {os:List (List Nat)} {vars:List Int} {dn:List Nat} {s:CS} (h:KP os vars dn s) (q v r:Nat) (hq:q<8):KP os vars dn (s.mark q v r):=by
 refine⟨⟨h.uz.two,h.uz.nz,h.uz.mv⟩,?_,fun k x m i hx h2 hl hm=>?_⟩
 ·unfold CS.mark;dsimp only
  split
  ·exact h.sp8
  ·simpa using h.sp8
 ·have:=h.mv k x m i hx h2 hl hm
  exact⟨this.1,this.2.1,fun l j a b c d=>(Ib s q v r _ _ (by rw[h.sp8];exact hq)).2 (.inl (this.2.2 l j a b c d))⟩
theorem yx (os:List (List Nat)) (hz:NZ os) (vars:List Int) (dn:List Nat) (hV:lF vars) (hd:∀q,dn.getD q 0<64) (hne:∃l,bZ vars dn l):∀(m i old:Nat) (s:CS),m+i=vars.length->bI os m old->KP os vars dn s->ZC os vars dn m i old s (dO os vars dn m i old s)
 | 0,i,old,s,hm,hl,h=>by
  have hl':old<2:=hl;refine⟨h,Pre.refl _,hl,fun l _=>Iff.rfl,fun h0=>?_,fun q v=>⟨.inl,fun h'=>h'.elim id ?_⟩⟩
  ·have h0':old≠0:=h0;obtain⟨l,hl0⟩:=hne;exact⟨l,hl0,show old=1 by omega⟩
  ·rintro⟨l,j,_,_,h1,h2,_⟩
   omega
 | m+1,i,old,s,hm,hl,h=>by
  have hi:i<vars.length:=by omega
  unfold dO;by_cases ho:old<2
  ·rw[if_pos ho];have h0:old=0:=by
    rcases hl with hl | ⟨h2,_⟩ <;> omega
   subst h0;refine⟨h,Pre.refl _,.inl rfl,fun l _=>⟨fun h=>absurd h (jh _ _ _ _),fun h=>absurd h (jh _ _ _ _)⟩,fun h0=>absurd rfl h0,fun q v=>⟨.inl,fun h'=>h'.elim id ?_⟩⟩
   rintro⟨l,j,_,h1,_⟩
   exact absurd h1 (jh _ _ _ _)
  ·rw[if_neg ho];have D6:=hl;obtain⟨ho2,agM,hch⟩:2<=old/\old<os.length/\∀v,v<6->bI os m (nodeAt os old v):=by
    rcases hl with h1 | h1
    ·omega
    ·exact h1
   cases hmv:s.mv old with
   | some k=>
    obtain⟨h1,h2,h3⟩:=h.mv old k (m+1) i hmv ho2 D6 hm;refine⟨h,Pre.refl _,h.uz.mv old k hmv (m+1) ho2 D6,h1,h2,fun q v=>⟨.inl,fun h'=>h'.elim id ?_⟩⟩
    rintro⟨l,j,a1,a2,a3,a4,rfl,rfl⟩
    exact h3 l j a1 a2 a3 a4
   | none=>
    dsimp only
    have hq8:=hV.lt hi;have key:=sV (fun (pre:List Nat) (st:CS×List Nat)=>KP os vars dn st.1/\Pre s.ns st.1.ns/\st.2.length=6/\(∀v,v<6->bI st.1.ns m (st.2.getD v 0))/\(∀v,v∉pre->st.2.getD v 0=0) /\
      (∀v∈pre,v<6/\(dn.getD (vars.getD i 0).toNat 0).testBit v=true/\(∀l,bZ vars dn l->(iK st.1.ns m (i+1) (st.2.getD v 0) l↔iK os m (i+1) (nodeAt os old v) l))/\(st.2.getD v 0≠0->∃l,bZ vars dn l/\iK os m (i+1) (nodeAt os old v) l)) /\
      ∀q v,(st.1.sp.getD q 0).testBit v=true↔(s.sp.getD q 0).testBit v=true\/∃l j,bZ vars dn l/\l.getD i 0∈pre/\iK os m (i+1) (nodeAt os old (l.getD i 0)) l/\i<=j/\j<vars.length/\(vars.getD j 0).toNat=q/\l.getD j 0=v)
     (gX (dO os vars dn m (i+1)) os old (vars.getD i 0).toNat) (vals (dn.getD (vars.getD i 0).toNat 0)) [] (s,zero6)
     ⟨h,Pre.refl _,rfl,fun v hv=>by
      have e:zero6.getD v 0=0:=by
       rcases v with _ | _ | _ | _ | _ | _ | v <;> first | rfl | omega
      show bI s.ns m (zero6.getD v 0)
      rw[e];exact wE s.ns m,fun v _=>by
      rcases v with _ | _ | _ | _ | _ | _ | v <;> rfl,fun v hv=>(by cases hv),fun q v=>⟨.inl,fun h'=>h'.elim id (by rintro⟨l,j,_,h1,_⟩;cases h1)⟩⟩
     (fun p a st ha hst=>by
      obtain⟨k1,k2,k3,k4,k5,k6,k7⟩:=hst;have hab:=(gm (hd _)).1 ha;have ha6:a<6:=fE (hd _) ha;have ih:=yx os hz vars dn hV hd hne m (i+1) (nodeAt os old a) st.1 (by omega) (hch a ha6) k1
      unfold gX;generalize dO os vars dn m (i+1) (nodeAt os old a) st.1=X at ih
      have hself:(st.2.set a X.2).getD a 0=X.2:=gQ k3 ha6;refine⟨ih.sem.mark _ a X.2 hq8,k2.trans ih.pre,by simp[k3],fun v hv=>?_,fun v hv=>?_,fun v hv=>?_,fun q v=>?_⟩
      ·show bI X.1.ns m ((st.2.set a X.2).getD v 0)
       by_cases e:a=v
       ·subst e;rw[hself];exact ih.uz
       ·rw[iW e];exact ih.pre.uz (k4 v hv)
      ·have hv2:v∉p/\¬a=v:=by
        constructor
        ·exact fun hc=>hv (List.mem_append_left _ hc)
        ·rintro rfl
         exact hv (by simp)
       show (st.2.set a X.2).getD v 0=0
       rw[iW hv2.2];exact k5 v hv2.1
      ·show v<6/\_/\(∀l,bZ vars dn l->(iK X.1.ns m (i+1) ((st.2.set a X.2).getD v 0) l↔iK os m (i+1) (nodeAt os old v) l))/\((st.2.set a X.2).getD v 0≠0->_)
       by_cases e:a=v
       ·subst e;rw[hself];exact⟨ha6,hab,ih.acc,ih.ne⟩
       ·rw[iW e];have hv':v∈p:=by
         rcases List.mem_append.1 hv with h | h
         ·exact h
         ·exact absurd (List.mem_singleton.1 h).symm e
        obtain⟨q1,q2,q3,q4⟩:=k6 v hv';refine⟨q1,q2,fun l hO=>?_,q4⟩
        rw[<-rU ih.pre l (hO.lt6 hd) m (i+1) _ (k4 v q1)];exact q3 l hO
      ·rw[show (((X.1.mark (vars.getD i 0).toNat a X.2,st.2.set a X.2):CS×List Nat).1.sp.getD q 0).testBit v=((X.1.mark (vars.getD i 0).toNat a X.2).sp.getD q 0).testBit v from rfl,Ib _ _ _ _ _ _ (by rw[ih.sem.sp8];exact hq8),ih.sp q v,k7 q v]
       have mem:∀l:List Nat,l.getD i 0∈p++[a]↔l.getD i 0∈p\/l.getD i 0=a:=fun l=>by simp
       constructor
       ·rintro(((h' | ⟨l,j,a1,a2,a3,a4⟩) | ⟨l,j,a1,a2,a3,a4,a5,a6⟩) | ⟨h0,rfl,rfl⟩)
        ·exact .inl h'
        ·exact .inr ⟨l,j,a1,(mem l).2 (.inl a2),a3,a4⟩
        ·refine .inr ⟨l.set i a,j,a1.set i a hab,(mem _).2 (.inr (gQ a1.1 hi)),?_,by omega,a4,a5,by rw[iW (by omega)];exact a6⟩
         rw[gQ a1.1 hi];exact(wJ os l i a m (i+1) _ (by omega)).2 a2
        ·obtain⟨l,a1,a2⟩:=ih.ne h0;refine .inr ⟨l.set i a,i,a1.set i a hab,(mem _).2 (.inr (gQ a1.1 hi)),?_,Nat.le_refl _,hi,rfl,gQ a1.1 hi⟩
         rw[gQ a1.1 hi];exact(wJ os l i a m (i+1) _ (by omega)).2 a2
       ·rintro(h' | ⟨l,j,a1,a2,a3,a4,a5,a6,a7⟩)
        ·exact .inl (.inl (.inl h'))
        ·rcases(mem l).1 a2 with a2 | a2
         ·exact .inl (.inl (.inr ⟨l,j,a1,a2,a3,a4,a5,a6,a7⟩))
         ·rw[a2] at a3;by_cases e:j=i
          ·subst e;refine .inr ⟨fun h0=>?_,a6,by rw[<-a2];exact a7⟩
           have:=(ih.acc l a1).2 a3
           rw[h0] at this;exact jh _ _ _ _ this
          ·exact .inl (.inr ⟨l,j,a1,a3,by omega,a5,a6,a7⟩))
    rw[List.nil_append] at key;generalize (vals (dn.getD (vars.getD i 0).toNat 0)).foldl (gX (dO os vars dn m (i+1)) os old (vars.getD i 0).toNat) (s,zero6)=st at key
    obtain⟨k1,k2,k3,k4,k5,k6,k7⟩:=key;have hp:=mZ st.1.ns st.2;have hlv:=qA st.1.ns k1.uz.two st.2 m k4;have acc:∀l,bZ vars dn l->(iK (aB st.1.ns st.2).1 (m+1) i (aB st.1.ns st.2).2 l↔iK os (m+1) i old l):=by
     intro l hO;rw[zg st.1.ns k1.uz.two st.2 m i l (hO.lt6 hd) k4,(k6 _ ((gm (hd _)).2 (hO.2 i hi))).2.2.1 l hO];exact⟨fun h=>⟨ho2,h⟩,fun h=>h.2⟩
    have ne:(aB st.1.ns st.2).2≠0->∃l,bZ vars dn l/\iK os (m+1) i old l:=by
     intro h0;have hnz:st.2≠zero6:=by
      intro e;apply h0
      unfold aB;rw[if_pos e]
     obtain⟨v,hv6,hv⟩:=S9 st.2 k3 hnz;have hmem:v∈vals (dn.getD (vars.getD i 0).toNat 0):=Classical.byContradiction fun hc=>hv (k5 v hc)
     obtain⟨_,hb,_,hx⟩:=k6 v hmem;obtain⟨l,a1,a2⟩:=hx hv;refine⟨l.set i v,a1.set i v hb,ho2,?_⟩
     rw[gQ a1.1 hi];exact(wJ os l i v m (i+1) _ (by omega)).2 a2
    have sp:∀q v,(st.1.sp.getD q 0).testBit v=true↔(s.sp.getD q 0).testBit v=true\/∃l j,bZ vars dn l/\iK os (m+1) i old l/\i<=j/\j<vars.length/\(vars.getD j 0).toNat=q/\l.getD j 0=v:=by
     intro q v;rw[k7 q v];constructor
     ·rintro(h' | ⟨l,j,a1,_,a3,a4⟩)
      ·exact .inl h'
      ·exact .inr ⟨l,j,a1,⟨ho2,a3⟩,a4⟩
     ·rintro(h' | ⟨l,j,a1,a3,a4⟩)
      ·exact .inl h'
      ·exact .inr ⟨l,j,a1,(gm (hd _)).2 (a1.2 i hi),a3.2,a4⟩
    have uz:Pz os (st.1.put st.2 old).1:=by
     refine⟨?_,rP st.1.ns k1.uz.nz st.2 k3,?_⟩
     ·obtain⟨ex,he⟩:=hp;show 2<=(aB st.1.ns st.2).1.length
      rw[he];have:=k1.uz.two
      simp
      omega
     ·intro k x hx m' hk2 hkl;have hx':(if k=old then some (aB st.1.ns st.2).2 else st.1.mv k)=some x:=hx
      split at hx'
      ·rename_i hko;subst hko;cases hx';rw[wF os hz m' (m+1) k (by omega) hkl D6]
       exact hlv
      ·exact hp.uz (k1.uz.mv k x hx' m' hk2 hkl)
    refine⟨⟨uz,k1.sp8,?_⟩,k2.trans hp,hlv,acc,ne,sp⟩
    intro k x m' i' hx hk2 hkl hmi;have hx':(if k=old then some (aB st.1.ns st.2).2 else st.1.mv k)=some x:=hx
    split at hx'
    ·rename_i hko;subst hko;cases hx';have e:=wF os hz m' (m+1) k (by omega) hkl D6
     subst e;have e2:i'=i:=by omega
     subst e2;exact⟨acc,ne,fun l j a1 a2 a3 a4=>(sp _ _).2 (.inr ⟨l,j,a1,a2,a3,a4,rfl,rfl⟩)⟩
    ·obtain⟨q1,q2,q3⟩:=k1.mv k x m' i' hx' hk2 hkl hmi;refine⟨fun l hO=>?_,q2,q3⟩
     show iK (aB st.1.ns st.2).1 m' i' x l↔_
     rw[<-rU hp l (hO.lt6 hd) m' i' x (k1.uz.mv k x hx' m' hk2 hkl)];exact q1 l hO
def WZ (vars:List Int) (rows:List (List Int)) (nt:Bool) (dn:List Nat) (os:List (List Nat)) (root:Nat):Prop:=∀l,bZ vars dn l->(iK os vars.length 0 root l↔wG rows nt l)
theorem Tf (os:List (List Nat)) (vars:List Int) (dn:List Nat):KP os vars dn s0:=⟨KJ os,rfl,fun k x m i h=>by cases h⟩
theorem Ti (vars:List Int) (rows:List (List Int)) (nt:Bool) (dn:List Nat) (os:List (List Nat)) (root:Nat) (h8:dn.length=8) (hV:lF vars) (hd:∀q,dn.getD q 0<64) (hz:NZ os) (hl:bI os vars.length root) (hR:WZ vars rows nt dn os root)
  (hne:∃l,bZ vars dn l) (i v:Nat) (hi:i<vars.length):((Pq os root vars dn).getD (vars.getD i 0).toNat 0).testBit v=true↔uP vars rows nt dn i v:=by
 unfold Pq;rw[nM vars dn _ (fun k hk=>by rw[h8];exact hV.lt hk) _ _ (Nat.le_refl _),if_pos ⟨i,hi,rfl⟩]
 have h:=yx os hz vars dn hV hd hne vars.length 0 root s0 rfl hl (Tf os vars dn);unfold tZ;rw[h.sp];have NM:s0.sp.getD (vars.getD i 0).toNat 0=0:=gG _;rw[NM];constructor
 ·rintro(h0 | ⟨l,k,a1,a2,_,a4,a5,a6⟩)
  ·simp at h0
  ·have e:=hV.nat a4 hi a5;subst e;exact⟨l,a1,a6,(hR l a1).1 a2⟩
 ·rintro⟨l,a1,a2,a3⟩
  exact .inr ⟨l,i,a1,(hR l a1).2 a3,Nat.zero_le _,hi,rfl,a2⟩
theorem Tj (vars:List Int) (rows:List (List Int)) (nt:Bool) (dn:List Nat) (os:List (List Nat)) (root:Nat) (hV:lF vars) (hd:∀q,dn.getD q 0<64) (hz:NZ os) (hl:bI os vars.length root) (hR:WZ vars rows nt dn os root)
  (hne:∃l,bZ vars dn l):WZ vars rows nt dn (tZ os root vars dn).1.ns (tZ os root vars dn).2:=by
 intro l hO;have h:=yx os hz vars dn hV hd hne vars.length 0 root s0 rfl hl (Tf os vars dn);unfold tZ;rw[h.acc l hO];exact hR l hO
end Go.Proofs.YtkjfpdfkcfgfkaaGreat
namespace Go.Proofs.YtkjfpdfkcfgfkaaGreat
theorem Pre.zero {ns ns':List (List Nat)} (h:Pre ns ns') (h0:0<ns.length):ns'.getD 0 []=ns.getD 0 []:=by
 obtain⟨t,rfl⟩:=h;simp only[List.getD];rw[List.getElem?_append_left h0]
structure Tb where
 vars:List Int
 rows:List (List Int)
 nt:Bool
structure Tb.Ok (b:Tb):Prop where
 vars:lF b.vars
 rows:∀j,j<b.rows.length->(b.rows.getD j []).length=b.vars.length
 pos:1<=b.vars.length
def qC (b:Tb) (dn:List Nat):TS->Prop
 | .rs nt br live=>nt=b.nt/\br=iZ b.rows b.rows.length/\A7 b.vars b.rows dn live
 | .dg _ os root=>NZ os/\bI os b.vars.length root/\WZ b.vars b.rows b.nt dn os root/\os.getD 0 []=zero6
structure Dm (dn:List Nat):Prop where
 len:dn.length=8
 lt:∀q,dn.getD q 0<64
theorem dN.refl (d:List Nat):dN d d:=fun _ _ h=>h
theorem dN.trans {a b c:List Nat} (h:dN a b) (k:dN b c):dN a c:=fun q v x=>k q v (h q v x)
theorem bZ.mono {vars:List Int} {d d' l:List Nat} (h:bZ vars d l) (hs:dN d d'):bZ vars d' l:=⟨h.1,fun i hi=>hs _ _ (h.2 i hi)⟩
theorem uP.mono {vars:List Int} {rows:List (List Int)} {nt:Bool} {d d':List Nat} {i v:Nat} (h:uP vars rows nt d i v) (hs:dN d d'):uP vars rows nt d' i v:=by
 obtain⟨l,a1,a2,a3⟩:=h;exact⟨l,a1.mono hs,a2,a3⟩
theorem qC.mono {b:Tb} {d d':List Nat} {t:TS} (h:qC b d' t) (hs:dN d d'):qC b d t:=by
 cases t with
 | rs nt br live=>exact⟨h.1,h.2.1,h.2.2.1,fun j hj ⟨l,a1,a2⟩=>h.2.2.2 j hj ⟨l,a1.mono hs,a2⟩⟩
 | dg nv os root=>exact⟨h.1,h.2.1,fun l hO=>h.2.2.1 l (hO.mono hs),h.2.2.2⟩
theorem wK {b:Tb} (hb:b.Ok) {dn:List Nat} (hd:Dm dn) {t:TS} (ht:qC b dn t) (hne:∃l,bZ b.vars dn l) (i v:Nat) (hi:i<b.vars.length):
  ((rQ b.vars dn t).getD (b.vars.getD i 0).toNat 0).testBit v=true↔uP b.vars b.rows b.nt dn i v:=by
 cases t with
 | rs nt br live=>
  obtain⟨rfl,rfl,hR⟩:=ht;cases hn:b.nt with
  | false=>exact Td b.vars b.rows dn live hd.len hb.vars hd.lt hb.rows hR i v hi
  | true=>exact PG b.vars b.rows dn live hd.len hb.vars hd.lt hb.rows hR hne i v hi
 | dg nv os root=>exact Ti b.vars b.rows b.nt dn os root hd.len hb.vars hd.lt ht.1 ht.2.1 ht.2.2.1 hne i v hi
theorem A8 {b:Tb} (hb:b.Ok) {dn:List Nat} (hd:Dm dn) (t:TS) (q:Nat) (hq:∀i,i<b.vars.length->(b.vars.getD i 0).toNat≠q):(rQ b.vars dn t).getD q 0=dn.getD q 0:=by
 have key:∀s,(eu b.vars dn s b.vars.length).getD q 0=dn.getD q 0:=fun s=>by
  rw[nM b.vars dn s (fun k hk=>by rw[hd.len];exact hb.vars.lt hk) q _ (Nat.le_refl _),if_neg]
  rintro⟨i,hi,e⟩
  exact hq i hi e
 cases t with
 | rs nt br live=>
  cases nt with
  | false=>exact key _
  | true=>exact key _
 | dg nv os root=>exact key _
theorem Tm {b:Tb} {dn:List Nat} (hd:Dm dn) (t:TS):(rQ b.vars dn t).length=8:=by
 have key:∀s,(eu b.vars dn s b.vars.length).length=8:=fun s=>by rw[gy];exact hd.len
 cases t with
 | rs nt br live=>
  cases nt with
  | false=>exact key _
  | true=>exact key _
 | dg nv os root=>exact key _
theorem Ba {b:Tb} (hb:b.Ok) {dn:List Nat} (hd:Dm dn) {t:TS} (ht:qC b dn t) (hne:∃l,bZ b.vars dn l):dN (rQ b.vars dn t) dn:=by
 intro q v h;by_cases hq:∃i,i<b.vars.length/\(b.vars.getD i 0).toNat=q
 ·obtain⟨i,hi,rfl⟩:=hq;obtain⟨l,a1,rfl,_⟩:=(wK hb hd ht hne i v hi).1 h;exact a1.2 i hi
 ·rw[A8 hb hd t q (fun i hi e=>hq ⟨i,hi,e⟩)] at h
  exact h
theorem NP {d d':List Nat} (h:dN d d') {q:Nat} (hl:d'.getD q 0<64):d.getD q 0<64:=by
 apply Nat.lt_pow_two_of_testBit (n:=6)
 intro i hi;cases hb:(d.getD q 0).testBit i with
 | false=>rfl
 | true=>exact absurd (iL hl (h q i hb)) (by omega)
theorem W9 {b:Tb} (hb:b.Ok) {dn:List Nat} (hd:Dm dn) {t:TS} (ht:qC b dn t) (hne:∃l,bZ b.vars dn l):Dm (rQ b.vars dn t):=⟨Tm hd t,fun q=>NP (Ba hb hd ht hne) (hd.lt q)⟩
def dP (b:Tb) (d:List Nat):Prop:=∀i v,i<b.vars.length->(d.getD (b.vars.getD i 0).toNat 0).testBit v=true->uP b.vars b.rows b.nt d i v
theorem PI {b:Tb} (hb:b.Ok) {dn:List Nat} (hd:Dm dn) {t:TS} (ht:qC b dn t) (hne:∃l,bZ b.vars dn l):dP b (rQ b.vars dn t):=by
 intro i v hi h;obtain⟨l,a1,a2,a3⟩:=(wK hb hd ht hne i v hi).1 h;exact⟨l,⟨a1.1,fun j hj=>(wK hb hd ht hne j _ hj).2 ⟨l,a1,rfl,a3⟩⟩,a2,a3⟩
theorem PK {b:Tb} (hb:b.Ok) {dn:List Nat} (hd:Dm dn) {t:TS} (ht:qC b dn t) (hne:∃l,bZ b.vars dn l) {d:List Nat} (hs:dN d dn) (hd':dP b d):dN d (rQ b.vars dn t):=by
 intro q v h;by_cases hq:∃i,i<b.vars.length/\(b.vars.getD i 0).toNat=q
 ·obtain⟨i,hi,rfl⟩:=hq;exact(wK hb hd ht hne i v hi).2 ((hd' i v hi h).mono hs)
 ·rw[A8 hb hd t q (fun i hi e=>hq ⟨i,hi,e⟩)]
  exact hs q v h
theorem dP.same {b:Tb} {d d':List Nat} (h:dP b d) (he:∀i,i<b.vars.length->d'.getD (b.vars.getD i 0).toNat 0=d.getD (b.vars.getD i 0).toNat 0):dP b d':=by
 intro i v hi hv;rw[he i hi] at hv;obtain⟨l,a1,a2,a3⟩:=h i v hi hv;exact⟨l,⟨a1.1,fun j hj=>by rw[he j hj];exact a1.2 j hj⟩,a2,a3⟩
theorem Tn {b:Tb} (hb:b.Ok) {dn:List Nat} (hd:Dm dn) {t t':TS} (ht:qC b dn t) (hne:∃l,bZ b.vars dn l) (h:TS.Next b.vars dn t t'):qC b dn t':=by
 cases t with
 | rs nt br live=>
  obtain rfl:=h
  obtain⟨rfl,rfl,hR⟩:=ht;exact⟨rfl,rfl,PE b.vars b.rows dn live hb.vars.four hd.lt hb.rows hR⟩
 | dg nv os root=>
  obtain⟨uy,rfl⟩:=h;have h1:=H9 os root b.vars dn ht.1 hd.lt hb.vars.four ht.2.1;exact⟨h1.2.2,h1.2.1,Tj b.vars b.rows b.nt dn os root hb.vars hd.lt ht.1 ht.2.1 ht.2.2.1 hne,(yw os ht.1 b.vars dn hd.lt b.vars.length 0 root s0 ht.2.1 (KJ os)).1.zero (by decide)⟩
theorem wL {rows:List (List Int)} {r:List Int}:r∈rows↔∃j,j<rows.length/\rows.getD j []=r:=by
 constructor
 ·intro h;obtain⟨j,hj,e⟩:=List.getElem_of_mem h;exact⟨j,hj,by simp[List.getD,hj,e]⟩
 ·rintro⟨j,hj,e⟩
  have e2:rows.getD j []=rows[j]:=by simp[List.getD,hj]
  rw[<-e,e2];exact List.getElem_mem hj
theorem Tq {b:Tb} (_hb:b.Ok) {dn:List Nat} (hd:Dm dn) {way:Int} {t:TS} (h:TS.Made b.vars b.rows b.nt dn way t):qC b dn t:=by
 have two:(∃nv,t= .dg nv (aY b.vars b.nt dn b.vars.length 0 b.rows [zero6,zero6]).1 (aY b.vars b.nt dn b.vars.length 0 b.rows [zero6,zero6]).2)->qC b dn t:=by
  rintro⟨nv,rfl⟩
  refine⟨AX _ _ _ _ _ _ _ (fun k h2 hk=>absurd hk (by show ¬k<2;omega)),(pG b.vars b.nt dn b.vars.length 0 b.rows [zero6,zero6] (by decide)).2,fun l hO=>?_,(pG b.vars b.nt dn b.vars.length 0 b.rows [zero6,zero6] (by decide)).1.zero (by decide)⟩
  rw[D8 b.vars b.nt dn hd.lt l hO b.vars.length 0 b.rows [zero6,zero6] rfl (by decide)]
  have key:∀r:List Int,(∀k,0<=k->k<b.vars.length->gJ (r.getD k 0) (l.getD k 0)=true)↔lD r l:=fun r=>
   ⟨fun h k hk=>h k (Nat.zero_le _) (by rw[<-hO.1];exact hk),fun h k _ hk=>h k (by rw[hO.1];exact hk)⟩
  unfold kC wG;split
  ·constructor
   ·intro h j hj hc;exact h _ (wL.2 ⟨j,hj,rfl⟩) ((key _).2 hc)
   ·intro h r hr hc;obtain⟨j,hj,rfl⟩:=wL.1 hr;exact h j hj ((key _).1 hc)
  ·constructor
   ·rintro⟨r,hr,hc⟩
    obtain⟨j,hj,rfl⟩:=wL.1 hr;exact⟨j,hj,(key _).1 hc⟩
   ·rintro⟨j,hj,hc⟩
    exact⟨_,wL.2 ⟨j,hj,rfl⟩,(key _).2 hc⟩
 unfold TS.Made at h;split at h
 ·subst h;refine⟨rfl,rfl,fun j hj=>?_,fun j hj _=>?_⟩
  ·rw[Nat.testBit_two_pow_sub_one,decide_eq_true_eq] at hj;exact hj
  ·rw[Nat.testBit_two_pow_sub_one,decide_eq_true_eq];exact hj
 ·exact two h
def Full (n:Nat) (d:List Nat):Prop:=∀q,q<n->d.getD q 0≠0
structure Closure (n:Nat) (bs:List Tb) (dn dn':List Nat):Prop where
 full:Full n dn'->dN dn' dn/\(∀b∈bs,dP b dn')/\∀d,dN d dn->(∀b∈bs,dP b d)->dN d dn'
 none:¬Full n dn'->dn'=aQ/\∀d,dN d dn->(∀b∈bs,dP b d)->¬Full n d
theorem dN.eq {a b:List Nat} (ha:Dm a) (hb:Dm b) (h1:dN a b) (h2:dN b a):a=b:=by
 refine List.ext_getElem (by rw[ha.len,hb.len]) fun q hq hq'=>?_
 have e:a.getD q 0=b.getD q 0:=by
  apply Nat.eq_of_testBit_eq
  intro v;cases h:(a.getD q 0).testBit v with
  | true=>exact(h1 q v h).symm
  | false=>
   cases h':(b.getD q 0).testBit v with
   | false=>rfl
   | true=>rw[h2 q v h'] at h;cases h
 simpa[List.getD,hq,hq'] using e
theorem Closure.one {n:Nat} {bs:List Tb} {dn a b:List Nat} (ha:Dm a) (hb:Dm b) (h:Closure n bs dn a) (k:Closure n bs dn b):a=b:=by
 by_cases fa:Full n a
 ·by_cases fb:Full n b
  ·obtain⟨a1,a2,a3⟩:=h.full fa;obtain⟨b1,b2,b3⟩:=k.full fb;exact dN.eq ha hb (b3 a a1 a2) (a3 b b1 b2)
  ·obtain⟨a1,a2,a3⟩:=h.full fa;exact absurd fa ((k.none fb).2 a a1 a2)
 ·by_cases fb:Full n b
  ·obtain⟨b1,b2,b3⟩:=k.full fb;exact absurd fb ((h.none fa).2 b b1 b2)
  ·rw[(h.none fa).1,(k.none fb).1]
end Go.Proofs.YtkjfpdfkcfgfkaaGreat
namespace Go.Proofs.YtkjfpdfkcfgfkaaGreat
open Go.RowKit
structure Tab where
 G:Nat
 g:Nat
 cap:Nat
 vars:List Int
 t:TS
def Tab.val (x:Tab):Value:=.iface x.t.ty (.pointer (some ⟨x.G,0,none⟩))
def aH:Tab:=⟨0,0,0,[],.rs false [] 0⟩
structure jZ (w:World) (so:Option Addr) (aI:Nat) (ts:List Tab):Prop where
 row:Row w (.slice so ts.length aI) 73 (ts.map Tab.val)
 at_:∀i,i<ts.length->oN w (ts.getD i aH).G (ts.getD i aH).g (ts.getD i aH).cap (ts.getD i aH).vars (ts.getD i aH).t
 four:∀i,i<ts.length->(ts.getD i aH).vars.length<=4
 ok:∀i,i<ts.length->∀k,k<(ts.getD i aH).vars.length->0<=(ts.getD i aH).vars.getD k 0/\(ts.getD i aH).vars.getD k 0<8
def jq (m:List Bool):Array Value:=(m.map Value.bool).toArray
def dL (ts:List Tab) (a b:List Nat) (m:List Bool):Nat->List Bool
 | 0=>m
 | k+1=>if dX (ts.getD k aH).vars a b (ts.getD k aH).vars.length then (dL ts a b m k).set k true else dL ts a b m k
theorem iG (ts:List Tab) (a b:List Nat) (m:List Bool):∀k,(dL ts a b m k).length=m.length
 | 0=>rfl
 | k+1=>by
  simp only[dL];split
  ·simp[iG ts a b m k]
  ·exact iG ts a b m k
theorem TS.ql (t : TS) (G : Nat) (v : Value) (W : World) (h : W.cell? ⟨G, 0, none⟩ = some v) : (method 292 t.ty (.pointer (some ⟨G, 0, none⟩)) "Changed").run Tryz.prog W = .ok (116, .agg #[v]) W := by
 cases t with
 | rs nt br live=>exact Go.Proofs.YtkjfpdfkcfgfkaaGreat.ql G v W h
 | dg nv os root=>exact Dj G v W h
theorem oN.vars {w:World} {G g cap:Nat} {vs:List Int} {t:TS} (h:oN w G g cap vs t):w.cell? ⟨G,0,none⟩=some (.slice (some ⟨g,0,none⟩) vs.length cap)/\ax w (some ⟨g,0,none⟩) vs:=by
 cases t with
 | rs nt br live=>exact⟨h.1.cell 0,h.2.1.ints⟩
 | dg nv os root=>exact⟨h.1.blk.cell 0,h.1.rv.ints⟩
set_option maxRecDepth 1000000 in
theorem Ic (X M:Nat) (so:Option Addr) (aI:Nat) (az:Value) (d:List Nat) (l:Rest) (ts:List Tab) (a b:List Nat) (m:List Bool) (w:World)
  (hX:af w X (ah az d (.slice so ts.length aI) l) 66) (hd8:d.length=8) (ht:jZ w so aI ts) (h12:ts.length<=12) (hm:m.length=12)
  (hnM:∀i,i<ts.length->(ts.getD i aH).G≠M/\(ts.getD i aH).g≠M) (hsM:∀o,so=some o->o.block≠M)
  (ha:a.length=8) (hb:b.length=8) (hM:af w M (jq m) 71):
  Calls Tryz.prog 47 #[.pointer (some ⟨X,0,none⟩),.pointer (some ⟨M,0,none⟩),.agg (ay a),.agg (ay b)] w fun e w'=>e= .returned (.tuple #[])/\Fr (fun k=>k=M) w w' /\
   af w' M (jq (dL ts a b m ts.length)) 71:=by
 obtain⟨a0,a1,a2,a3,a4,a5,a6,a7,hav⟩:=iV ha;obtain⟨b0,b1,b2,b3,b4,b5,b6,b7,hbv⟩:=iV hb;obtain⟨W,hW⟩:∃W,W=(w.alloc (.cells (ay a) 60)).alloc (.cells (ay b) 60):=⟨_,rfl⟩;have dM:Nw w W:=by rw[hW];exact((Fr.refl _ w).alloc _).alloc _
 have Rj:af W w.heap.size (ay a) 60:=by rw[hW];exact(af.new _ _ _).alloc _
 have hbB:af W (w.heap.size+1) (ay b) 60:=by
  rw[hW];have:=af.new (w.alloc (.cells (ay a) 60)) (ay b) 60
  simpa using this
 have hct:W.cell? ⟨X,9,none⟩=some (.slice so ts.length aI):=((hX.nw dM).cell 9).trans (dV _ _ _ _ hd8)
 have HW:=hd hW;have Hav:=hd hav;have Hbv:=hd hbv;have HbA:=hd Rj;have JY:=hd hbB;clear hav hbv Rj hbB hW;go_enter Tryz.func47,Tryz.ntmps47
 go_upto_region 1 with fail
 rw[<-HW.out];go_wp2_with fail
 have HtW:Hid (jZ w so aI ts):=ht;have Pv:=hM.lt;have HMW:=hd (hM.nw dM);have KQ:=hd dM;clear ht hM hX dM;go_loopw [15] (fun i wr=>∃k:Nat,k<=ts.length/\i= .int .i64 k/\Hid (Fr (fun k=>k=M) W wr)/\Hid (af wr M (jq (dL ts a b m k)) 71)) (fun i _=>ts.length-(intOf i).toNat)
 case atStart=>exact⟨0,Nat.zero_le _,rfl,Fr.refl _ _,HMW.out⟩
 case round=>
  obtain⟨k,hk,rfl,HF,HB⟩:=hrel;by_cases hlt:k<ts.length
  ·have YB:Fr (fun k=>k=M) w wr:=(KQ.out.mono (S':=fun k=>k=M) (fun i h=>h.elim)).trans HF.out (fun i h=>.inl h)
   have hr:=HtW.out.row.fr YB (fun j hj=>by
    cases so with
    | none=>cases hj
    | some o=>cases hj;exact hsM o rfl)
   obtain⟨tb,tc,hso,_,hck,_⟩:=hr.cell k (by simpa using hlt)
   have zQ:so=some ⟨tb,0,none⟩:=by simp at hso;exact hso.1
   subst zQ;obtain⟨x,hx⟩:∃x,ts.getD k aH=x:=⟨_,rfl⟩;have hxk:ts[k]=x:=by rw[<-hx];simp[List.getD,hlt]
   have hat:=HtW.out.at_ k hlt;have h4:=HtW.out.four k hlt;have hok:=HtW.out.ok k hlt;have hn:=hnM k hlt;have hstep:dL ts a b m (k+1)=if dX x.vars a b x.vars.length then (dL ts a b m k).set k true else dL ts a b m k:=by simp only[dL,hx]
   rw[hx] at hat h4 hok hn;have uI:=hat.lt (.inl rfl);have OZ:=hat.lt (.inr (.inl rfl));have yf:wr.cell? ⟨x.G,0,none⟩=some (.slice (some ⟨x.g,0,none⟩) x.vars.length x.cap):=(YB.cell uI hn.1).trans hat.vars.1
   have HvI:Hid (ax wr (some ⟨x.g,0,none⟩) x.vars):=hat.vars.2.fr YB (fun b o e=>by cases e;exact hn.2)
   have zU:wr.cell? ⟨tb,k,none⟩=some (.iface x.t.ty (.pointer (some ⟨x.G,0,none⟩))):=by
    rw[hck];simp only[List.getElem_map,hxk];rfl
   have hmc:=TS.ql x.t x.G _ wr yf;have hwM:w.heap.size≠M/\w.heap.size+1≠M:=by omega
   obtain⟨c0,c1,c2,c3,c4,c5,c6,c7⟩:=cZ (Hav.out▸(HbA.out.fr HF.out hwM.1));obtain⟨e0,e1,e2,e3,e4,e5,e6,e7⟩:=cZ (Hbv.out▸(JY.out.fr HF.out hwM.2));obtain⟨ty,hty⟩:∃ty,x.t.ty=ty:=⟨_,rfl⟩;rw[hty] at zU hmc;have D9:=hd hstep;have qU:=hd hok;have Hx:=hd hx;clear hr hso hck hstep hat hok hn hwM hxk hnM hsM hx;go_wp2_with fail
   rw[<-Hav.out,<-Hbv.out];refine(GH (some ⟨x.g,0,none⟩) x.cap x.vars a b _ h4 qU.out HvI.out ha hb).mono ?_
   have hl12:(dL ts a b m k).length=12:=by rw[iG];exact hm
   have hk12:k<12:=by omega
   cases hch:dX x.vars a b x.vars.length with
   | true=>
    rw[hch] at D9;have agN:=hd hl12;rintro e w1 ⟨rfl,hf1⟩
    have hM1:=HB.out.nw hf1;have abV:∃v,w1.cell? ⟨M,k,none⟩=some v:=⟨_,(hM1.cell k).trans (Array.getElem?_eq_getElem (by simp[jq,hl12];omega))⟩
    obtain⟨v,abV⟩:=abV;have agO:=hM1.free k;have uA:=hd hM1;have Hf1:=hd hf1;clear hch hM1 hf1 hl12 c0 c1 c2 c3 c4 c5 c6 c7 e0 e1 e2 e3 e4 e5 e6 e7 hct zU yf hmc YB;go_wp2
    refine⟨⟨k+1,by omega,by go_num,?_,?_⟩,by simp[intOf];omega⟩
    ·exact((HF.out.trans Hf1.out (fun i h=>h.elim)).setCell ⟨M,k,none⟩ (.bool true) (.inl rfl))
    ·show af _ M _ _
     have h5:=uA.out.set k (.bool true);have e6:jq (dL ts a b m (k+1))=(jq (dL ts a b m k)).setIfInBounds k (.bool true):=by
      rw[D9.out,if_pos trivial];simp[jq,List.map_set]
     rw[e6];exact h5
   | false=>
    rw[hch] at D9;rintro e w1 ⟨rfl,hf1⟩
    have uA:=hd (HB.out.nw hf1);have Hf1:=hd hf1;clear hch hf1 hl12 c0 c1 c2 c3 c4 c5 c6 c7 e0 e1 e2 e3 e4 e5 e6 e7 hct zU yf hmc YB;go_wp2
    refine⟨⟨k+1,by omega,by go_num,HF.out.trans Hf1.out (fun i h=>h.elim),?_⟩,by simp[intOf];omega⟩
    show af _ M _ _
    rw[D9.out,if_neg (by simp)]
    exact uA.out
  ·obtain rfl:k=ts.length:=by omega
   go_wp2
   go_end0
   exact⟨rfl,(KQ.out.mono (S':=fun k=>k=M) (fun i h=>h.elim)).trans HF.out (fun i h=>.inl h),HB.out⟩
end Go.Proofs.YtkjfpdfkcfgfkaaGreat
namespace Go.Proofs.YtkjfpdfkcfgfkaaGreat
def tb0:Tb:=⟨[],[],false⟩
def Fits (bs:List Tb) (ts:List Tab):Prop:=ts.length=bs.length/\∀k,k<bs.length->(ts.getD k aH).vars=(bs.getD k tb0).vars
structure yz (bs:List Tb) (ts:List Tab) (m:List Bool) (start next:List Nat):Prop where
 dm:Dm next
 sub:dN next start
 most:∀d,dN d start->(∀b∈bs,dP b d)->dN d next
 quiet:∀k,k<bs.length->m.getD k false=false->dP (bs.getD k tb0) next
 rep:∀k,k<bs.length->qC (bs.getD k tb0) next (ts.getD k aH).t
def NQ (n:Nat) (bs:List Tb):Prop:=∀k,k<bs.length->(bs.getD k tb0).Ok/\∀i,i<(bs.getD k tb0).vars.length->((bs.getD k tb0).vars.getD i 0).toNat<n
theorem Ie {n:Nat} {d:List Nat} (h:Full n d) {vars:List Int} (hv:∀i,i<vars.length->(vars.getD i 0).toNat<n):∃l,bZ vars d l:=by
 obtain⟨l,hl,_⟩:=wH vars d (fun _ _=>True) (fun i hi=>by
  obtain⟨v,hv⟩:=kz (h _ (hv i hi));exact⟨v,hv,trivial⟩)
 exact⟨l,hl⟩
theorem wM {vars:List Int} {a b:List Nat} (h:dX vars a b vars.length=false):∀i,i<vars.length->b.getD (vars.getD i 0).toNat 0=a.getD (vars.getD i 0).toNat 0:=by
 intro i hi;refine Classical.byContradiction fun hc=>?_
 have:dX vars a b vars.length=true:=by
  simp only[dX,List.any_eq_true,List.mem_range];exact⟨i,hi,by simpa using fun e=>hc e.symm⟩
 rw[this] at h;cases h
theorem pK (l:List Bool) (q p:Nat) (x:Bool):(l.set q x).getD p false=if q=p/\q<l.length then x else l.getD p false:=by
 simp only[List.getD,List.getElem?_set]
 by_cases h:q=p
 ·subst h;by_cases h2:q<l.length
  ·simp[h2]
  ·simp[h2]
 ·simp[h]
theorem nN (ts:List Tab) (a b:List Nat) (m:List Bool) (hm:ts.length<=m.length) (p:Nat):∀k,k<=ts.length->((dL ts a b m k).getD p false=true↔m.getD p false=true\/(p<k/\dX (ts.getD p aH).vars a b (ts.getD p aH).vars.length=true))
 | 0,_=>by simp[dL]
 | k+1,hk=>by
  have ih:=nN ts a b m hm p k (by omega)
  simp only[dL];split
  ·rename_i hc;rw[pK,iG];by_cases h:k=p
   ·subst h;rw[if_pos ⟨rfl,by omega⟩]
    exact⟨fun _=>.inr ⟨by omega,hc⟩,fun _=>rfl⟩
   ·rw[if_neg (fun e=>h e.1),ih]
    constructor
    ·rintro(h1 | ⟨h1,h2⟩)
     ·exact .inl h1
     ·exact .inr ⟨by omega,h2⟩
    ·rintro(h1 | ⟨h1,h2⟩)
     ·exact .inl h1
     ·exact .inr ⟨by omega,h2⟩
  ·rename_i hc;rw[ih];constructor
   ·rintro(h1 | ⟨h1,h2⟩)
    ·exact .inl h1
    ·exact .inr ⟨by omega,h2⟩
   ·rintro(h1 | ⟨h1,h2⟩)
    ·exact .inl h1
    ·by_cases h:p=k
     ·subst h;exact absurd h2 hc
     ·exact .inr ⟨by omega,h2⟩
theorem getD_mem {bs:List Tb} {k:Nat} (hk:k<bs.length):bs.getD k tb0∈bs:=by
 have e:bs.getD k tb0=bs[k]:=by simp[List.getD,hk]
 rw[e];exact List.getElem_mem hk
theorem yz.step {n:Nat} {bs:List Tb} {ts:List Tab} {m:List Bool} {start next:List Nat} (h:yz bs ts m start next) (hb:NQ n bs) (hf:Fits bs ts) (hm:bs.length<=m.length) (hfull:Full n next) {k:Nat} (hk:k<bs.length) {t':TS}
  (hn:TS.Next (ts.getD k aH).vars next (ts.getD k aH).t t'):
  yz bs (ts.set k {ts.getD k aH with t:=t'}) ((dL ts next (rQ (ts.getD k aH).vars next (ts.getD k aH).t) m ts.length).set k false) start (rQ (ts.getD k aH).vars next (ts.getD k aH).t):=by
 have hv:=hf.2 k hk;rw[hv] at hn ⊢;obtain⟨hok,hvn⟩:=hb k hk;have hne:=Ie hfull hvn;have hrep:=h.rep k hk;have hsub:=Ba hok h.dm hrep hne;refine⟨W9 hok h.dm hrep hne,hsub.trans h.sub,fun d hd hs=>PK hok h.dm hrep hne (h.most d hd hs) (hs _ (getD_mem hk)),fun j hj hq=>?_,fun j hj=>?_⟩
 ·by_cases e:k=j
  ·subst e;exact PI hok h.dm hrep hne
  ·rw[pK,if_neg (fun x=>e x.1)] at hq
   have hw:=nN ts next (rQ (bs.getD k tb0).vars next (ts.getD k aH).t) m (by rw[hf.1];exact hm) j ts.length (Nat.le_refl _)
   have h1:m.getD j false=false:=by
    cases hx:m.getD j false with
    | false=>rfl
    | true=>rw[hw.2 (.inl hx)] at hq;cases hq
   have h2:dX (bs.getD j tb0).vars next (rQ (bs.getD k tb0).vars next (ts.getD k aH).t) (bs.getD j tb0).vars.length=false:=by
    cases hx:dX (bs.getD j tb0).vars next (rQ (bs.getD k tb0).vars next (ts.getD k aH).t) (bs.getD j tb0).vars.length with
    | false=>rfl
    | true=>
     rw[<-hf.2 j hj] at hx;rw[hw.2 (.inr ⟨by rw[hf.1];exact hj,hx⟩)] at hq
     cases hq
   exact(h.quiet j hj h1).same (wM h2)
 ·by_cases e:k=j
  ·subst e;have e2:((ts.set k {ts.getD k aH with t:=t'}).getD k aH).t=t':=by
    have:k<ts.length:=by rw[hf.1];exact hk
    simp[List.getD,this]
   rw[e2];exact(Tn hok h.dm hrep hne hn).mono hsub
  ·have e2:(ts.set k {ts.getD k aH with t:=t'}).getD j aH=ts.getD j aH:=by simp[List.getD,e]
   rw[e2];exact(h.rep j hj).mono hsub
theorem yz.done {n:Nat} {bs:List Tb} {ts:List Tab} {m:List Bool} {start next:List Nat} (h:yz bs ts m start next) (hfull:Full n next) (hq:∀k,k<bs.length->m.getD k false=false):Closure n bs start next:=by
 refine⟨fun _=>⟨h.sub,fun b hb=>?_,h.most⟩,fun hc=>absurd hfull hc⟩
 obtain⟨k,hk,e⟩:=List.getElem_of_mem hb;have e2:bs.getD k tb0=b:=by simp[List.getD,hk,e]
 rw[<-e2];exact h.quiet k hk (hq k hk)
theorem yz.dead {n:Nat} {bs:List Tb} {ts:List Tab} {m:List Bool} {start next:List Nat} (h:yz bs ts m start next) (hn:0<n) (hfull:¬Full n next):Closure n bs start aQ:=by
 refine⟨fun hc=>absurd (gG 0) (hc 0 hn),fun _=>⟨rfl,fun d hd hs hd2=>hfull fun q hq e=>?_⟩⟩
 obtain⟨v,hv⟩:=kz (hd2 q hq);have:=h.most d hd hs q v hv
 rw[e] at this;simp at this
end Go.Proofs.YtkjfpdfkcfgfkaaGreat
namespace Go.Proofs.YtkjfpdfkcfgfkaaGreat
def jX (r:List Int) (l:List Nat):Bool:=(List.range l.length).all (fun i=>gJ (r.getD i 0) (l.getD i 0))
theorem ou (r:List Int) (l:List Nat):jX r l=true↔lD r l:=by
 simp only[jX,List.all_eq_true,List.mem_range,lD]
def jA (rows:List (List Int)) (nt:Bool) (l:List Nat):Bool:=if nt then rows.all (fun r=>!jX r l) else rows.any (fun r=>jX r l)
theorem yA {rows:List (List Int)} {j:Nat} (hj:j<rows.length):rows.getD j []∈rows:=by
 have e:rows.getD j []=rows[j]:=by simp[List.getD,hj]
 rw[e];exact List.getElem_mem hj
theorem Bc {rows:List (List Int)} {r:List Int} (h:r∈rows):∃j,j<rows.length/\rows.getD j []=r:=by
 obtain⟨j,hj,e⟩:=List.getElem_of_mem h;exact⟨j,hj,by simp[List.getD,hj,e]⟩
theorem ja (rows:List (List Int)) (nt:Bool) (l:List Nat):jA rows nt l=true↔wG rows nt l:=by
 unfold jA wG;cases nt with
 | true=>
  simp only[if_true,List.all_eq_true,Bool.not_eq_true'];constructor
  ·intro h j hj hc;have:=h _ (yA hj)
   rw[(ou _ _).2 hc] at this;cases this
  ·intro h r hr;obtain⟨j,hj,rfl⟩:=Bc hr;cases hx:jX (rows.getD j []) l with
   | false=>rfl
   | true=>exact absurd ((ou _ _).1 hx) (h j hj)
 | false=>
  simp only[Bool.false_eq_true,if_false,List.any_eq_true];constructor
  ·rintro⟨r,hr,hc⟩
   obtain⟨j,hj,rfl⟩:=Bc hr;exact⟨j,hj,(ou _ _).1 hc⟩
  ·rintro⟨j,hj,hc⟩
   exact⟨_,yA hj,(ou _ _).2 hc⟩
def outs:List Int->List Nat->List (List Nat)
 | [],_=>[[]]
 | v::vs,d=>(vals (d.getD v.toNat 0)).flatMap (fun x=>(outs vs d).map (x :: ·))
theorem wO {d:List Nat} (hd:∀q,d.getD q 0<64):∀(vars:List Int) (l:List Nat),l∈outs vars d↔bZ vars d l
 | [],l=>by
  simp only[outs,List.mem_singleton,bZ];constructor
  ·rintro rfl
   exact⟨rfl,fun i hi=>by simp at hi⟩
  ·rintro⟨h,_⟩
   exact List.eq_nil_of_length_eq_zero h
 | v::vs,l=>by
  simp only[outs,List.mem_flatMap,List.mem_map];constructor
  ·rintro⟨x,hx,t,ht,rfl⟩
   obtain⟨h1,h2⟩:=(wO hd vs t).1 ht;refine⟨by simp[h1],fun i hi=>?_⟩
   cases i with
   | zero=>exact(gm (hd _)).1 hx
   | succ i=>exact h2 i (by simpa using hi)
  ·rintro⟨h1,h2⟩
   cases l with
   | nil=>simp at h1
   | cons x t=>
    refine⟨x,(gm (hd _)).2 (h2 0 (by simp)),t,(wO hd vs t).2 ⟨by simpa using h1,fun i hi=>h2 (i+1) (by simpa using hi)⟩,rfl⟩
def Tt (b:Tb) (d:List Nat) (i v:Nat):Bool:=(outs b.vars d).any (fun l=>(l.getD i 0==v)&&jA b.rows b.nt l)
theorem Ig {d:List Nat} (hd:∀q,d.getD q 0<64) (b:Tb) (i v:Nat):Tt b d i v=true↔uP b.vars b.rows b.nt d i v:=by
 simp only[Tt,List.any_eq_true,Bool.and_eq_true,beq_iff_eq,uP];constructor
 ·rintro⟨l,h1,h2,h3⟩
  exact⟨l,(wO hd _ _).1 h1,h2,(ja _ _ _).1 h3⟩
 ·rintro⟨l,h1,h2,h3⟩
  exact⟨l,(wO hd _ _).2 h1,h2,(ja _ _ _).2 h3⟩
def Bd (b:Tb) (d:List Nat):Bool:=(List.range b.vars.length).all (fun i=>(vals (d.getD (b.vars.getD i 0).toNat 0)).all (fun v=>Tt b d i v))
theorem Ih {d:List Nat} (hd:∀q,d.getD q 0<64) {b:Tb} (h:Bd b d=true):dP b d:=by
 intro i v hi hv;simp only[Bd,List.all_eq_true,List.mem_range] at h;exact(Ig hd b i v).1 (h i hi v ((gm (hd _)).2 hv))
def oO (p:Nat->Bool):Nat:=(if p 0 then 1 else 0)+(if p 1 then 2 else 0)+(if p 2 then 4 else 0)+(if p 3 then 8 else 0)+(if p 4 then 16 else 0)+(if p 5 then 32 else 0)
theorem uQ (p:Nat->Bool) (v:Nat) (hv:v<6):(oO p).testBit v=p v:=by
 have hc:v=0\/v=1\/v=2\/v=3\/v=4\/v=5:=by omega
 unfold oO;rcases hc with rfl | rfl | rfl | rfl | rfl | rfl <;> cases p 0 <;> cases p 1 <;> cases p 2 <;> cases p 3 <;> cases p 4 <;> cases p 5 <;> rfl
theorem yB (p:Nat->Bool):oO p<64:=by
 unfold oO;cases p 0 <;> cases p 1 <;> cases p 2 <;> cases p 3 <;> cases p 4 <;> cases p 5 <;> decide
def stepD (b:Tb) (d:List Nat):List Nat:=(List.range 8).map (fun q=>oO (fun v=>(d.getD q 0).testBit v&&(List.range b.vars.length).all (fun i=>(b.vars.getD i 0).toNat != q || Tt b d i v)))
theorem yC (b:Tb) (d:List Nat) (q:Nat):(stepD b d).getD q 0=if q<8 then oO (fun v=>(d.getD q 0).testBit v&&(List.range b.vars.length).all (fun i=>(b.vars.getD i 0).toNat != q || Tt b d i v)) else 0:=by
 by_cases h:q<8
 ·rw[if_pos h];simp only[stepD,List.getD,List.getElem?_map,List.getElem?_range h,Option.map_some,Option.getD_some]
 ·rw[if_neg h];have:(stepD b d).length<=q:=by simp[stepD];omega
  simp[List.getD,List.getElem?_eq_none this]
theorem Ii (b:Tb) (d:List Nat):Dm (stepD b d):=⟨by simp[stepD],fun q=>by
 rw[yC];split
 ·exact yB _
 ·decide⟩
theorem PL (b:Tb) (d:List Nat):dN (stepD b d) d:=by
 intro q v h;have hv:=iL ((Ii b d).lt q) h;rw[yC] at h;by_cases hq:q<8
 ·rw[if_pos hq,uQ _ _ hv] at h;simp only[Bool.and_eq_true] at h;exact h.1
 ·rw[if_neg hq] at h;simp at h
theorem KR {b:Tb} {d e:List Nat} (hd:Dm d) (hs:dN e d) (hb:dP b e):dN e (stepD b d):=by
 intro q v h;have h1:=hs q v h;have hv:=iL (hd.lt q) h1;have hq:q<8:=by
  refine Classical.byContradiction fun hc=>?_
  have:d.length<=q:=by rw[hd.len];omega
  have h0:d.getD q 0=0:=by simp[List.getD,List.getElem?_eq_none this]
  rw[h0] at h1;simp at h1
 rw[yC,if_pos hq,uQ _ _ hv];simp only[Bool.and_eq_true,List.all_eq_true,List.mem_range];refine⟨h1,fun i hi=>?_⟩
 by_cases e1:(b.vars.getD i 0).toNat=q
 ·subst e1;have:=(hb i v hi h).mono hs
  rw[(Ig hd.lt b i v).2 this];simp
 ·rw[show ((b.vars.getD i 0).toNat != q)=true from bne_iff_ne.2 e1]
  rfl
def Ij (bs:List Tb) (d:List Nat):List Nat:=bs.foldl (fun d b=>stepD b d) d
def Ik (bs:List Tb):Nat->List Nat->List Nat
 | 0,d=>d
 | k+1,d=>Ik bs k (Ij bs d)
theorem Be:∀(bs:List Tb) (d:List Nat),Dm d->Dm (Ij bs d)/\dN (Ij bs d) d/\∀e,dN e d->(∀b∈bs,dP b e)->dN e (Ij bs d)
 | [],d,h=>⟨h,dN.refl _,fun _ h _=>h⟩
 | b::bs,d,h=>by
  obtain⟨h1,h2,h3⟩:=Be bs (stepD b d) (Ii b d);exact⟨h1,h2.trans (PL b d),fun e he hb=>h3 e (KR h he (hb b (List.mem_cons_self ..))) (fun c hc=>hb c (List.mem_cons_of_mem _ hc))⟩
theorem Bf (bs:List Tb):∀(k:Nat) (d:List Nat),Dm d->Dm (Ik bs k d)/\dN (Ik bs k d) d/\∀e,dN e d->(∀b∈bs,dP b e)->dN e (Ik bs k d)
 | 0,d,h=>⟨h,dN.refl _,fun _ h _=>h⟩
 | k+1,d,h=>by
  obtain⟨h1,h2,h3⟩:=Be bs d h;obtain⟨k1,k2,k3⟩:=Bf bs k (Ij bs d) h1;exact⟨k1,k2.trans h2,fun e he hb=>k3 e (h3 e he hb) hb⟩
def Tu (n:Nat) (d:List Nat):Bool:=(List.range n).all (fun q=>d.getD q 0 != 0)
theorem PM (n:Nat) (d:List Nat):Tu n d=true↔Full n d:=by
 simp[Tu,Full]
def dmB (d:List Nat):Bool:=d.length==8&&d.all (fun x=>decide (x<64))
theorem KT {d:List Nat} (h:dmB d=true):Dm d:=by
 simp only[dmB,Bool.and_eq_true,beq_iff_eq,List.all_eq_true,decide_eq_true_eq] at h;refine⟨h.1,fun q=>?_⟩
 by_cases hq:q<d.length
 ·have:=h.2 _ (List.getElem_mem hq)
  simpa[List.getD,hq] using this
 ·simp[List.getD,hq]
theorem Il {n k:Nat} {bs:List Tb} {start r:List Nat} (hs:dmB start=true) (h:Ik bs k start=r) (hf:Tu n r=true) (hb:bs.all (fun b=>Bd b r)=true):Closure n bs start r:=by
 obtain⟨h1,h2,h3⟩:=Bf bs k start (KT hs);rw[h] at h1 h2 h3;simp only[List.all_eq_true] at hb;exact⟨fun _=>⟨h2,fun b hb'=>Ih h1.lt (hb b hb'),h3⟩,fun hn=>absurd ((PM n r).1 hf) hn⟩
end Go.Proofs.YtkjfpdfkcfgfkaaGreat
namespace Go.Proofs.YtkjfpdfkcfgfkaaGreat
open Go.RowKit
theorem Tryz.Io:(Tryz.prog.info? 4).map (fun i=>(i.zero,i.size,i.bytes))=some (some (.bool false),1,1):=by kernel_rfl
theorem Tryz.Ea:(Tryz.prog.info? 84).map (fun i=>(i.zero,i.size,i.bytes))=some (some (.slice none 0 0),1,24):=by kernel_rfl
abbrev aZ:Value:=.slice none 0 0
structure eP (w:World) (lo:Nat) (vs:List Value) (bss:List (List Bool)):Prop where
 len:vs.length=bss.length
 row:∀i,i<bss.length->Row w (vs.getD i aZ) 4 ((bss.getD i []).map Value.bool)
 ne:∀i j,i<j->j<bss.length->∀k,(vs.getD i aZ).ownBlock=some k->(vs.getD j aZ).ownBlock≠some k
 lo:∀i,i<bss.length->∀k,(vs.getD i aZ).ownBlock=some k->lo<=k
theorem eP.nil (w:World) (lo:Nat):eP w lo [] []:=⟨rfl,fun i h=>by simp at h,fun i j _ h=>by simp at h,fun i h=>by simp at h⟩
theorem eP.fr {S:Nat->Prop} {w w':World} {lo:Nat} {vs:List Value} {bss:List (List Bool)} (h:eP w lo vs bss) (f:Fr S w w')
  (hn:∀k cur,S k->¬af w k cur 4):eP w' lo vs bss:=
 ⟨h.len,fun i hi=>(h.row i hi).fr f (fun k hk hs=>by
  obtain⟨cur,hb,_⟩:=(h.row i hi).blk hk;exact hn k cur hs hb),h.ne,h.lo⟩
theorem eP.snoc {w:World} {lo:Nat} {vs:List Value} {bss:List (List Bool)} (h:eP w lo vs bss) (v:Value) (bs:List Bool)
  (hr:Row w v 4 (bs.map Value.bool)) (hlo:∀k,v.ownBlock=some k->lo<=k) (hne:∀i,i<bss.length->∀k,(vs.getD i aZ).ownBlock=some k->v.ownBlock≠some k):
  eP w lo (vs++[v]) (bss++[bs]):=by
 have hl:=h.len;have hold:∀i,i<bss.length->(vs++[v]).getD i aZ=vs.getD i aZ/\(bss++[bs]).getD i []=bss.getD i []:=by
  intro i hi;simp[List.getD,List.getElem?_append_left,hi,hl▸hi]
 have hnew:(vs++[v]).getD bss.length aZ=v/\(bss++[bs]).getD bss.length []=bs:=by
  constructor
  ·rw[<-hl];simp
  ·simp
 refine⟨by simp[hl],fun i hi=>?_,fun i j hij hj=>?_,fun i hi=>?_⟩
 ·simp at hi
  by_cases h1:i<bss.length
  ·rw[(hold i h1).1,(hold i h1).2];exact h.row i h1
  ·obtain rfl:i=bss.length:=by omega
   rw[hnew.1,hnew.2];exact hr
 ·simp at hj
  have h1:i<bss.length:=by omega
  rw[(hold i h1).1];by_cases h2:j<bss.length
  ·rw[(hold j h2).1];exact h.ne i j hij h2
  ·obtain rfl:j=bss.length:=by omega
   rw[hnew.1];exact hne i h1
 ·simp at hi
  by_cases h1:i<bss.length
  ·rw[(hold i h1).1];exact h.lo i h1
  ·obtain rfl:i=bss.length:=by omega
   rw[hnew.1];exact hlo
def allIn (zs:List Int) (k:Nat):List (List Bool):=(zs.take k).map (fun z=>List.replicate z.toNat true)
structure zh (w:World) (lo B:Nat) (zs:List Int) (bss:List (List Bool)) (dead:Bool) (tv lv:Value):Prop where
 mk ::
 ex:∃az inv vs,af w B #[az,inv,.bool dead,tv,lv] 83/\Row w az 3 (zs.map (Value.int .i64))/\Row w inv 84 vs/\eP w lo vs bss /\
  (∀k,az.ownBlock=some k->lo<=k)/\(∀k,inv.ownBlock=some k->lo<=k)
set_option maxRecDepth 1000000 in
theorem KU (ao:Option Addr) (cap n:Nat) (w:World) (hn:n*8<=140737488355328) (h:n<1\/8<n):
  Calls Tryz.prog 15 #[.slice ao n cap] w fun e w'=>e= .returned (.pointer none)/\w'=w:=by
 rcases h with h | h
 ·obtain rfl:n=0:=by omega
  go_enter Tryz.func15,Tryz.ntmps15
  go_wp2
  go_ret
  exact⟨rfl,rfl⟩
 ·go_enter Tryz.func15,Tryz.ntmps15
  go_wp2
  go_ret
  exact⟨rfl,rfl⟩
theorem Ip {w wr w1:World} {az inv:Value} {vs:List Value} {zs:List Int} {k z gg cap':Nat} {bss:List (List Bool)}
  (hf:Nw w wr) (hin:Row wr inv 84 vs) (hvs:eP wr w.heap.size vs bss)
  (hsz:Row wr az 3 ((zs.take k).map (Value.int .i64))) (uB:∀k,az.ownBlock=some k->w.heap.size<=k) (hlt:k<zs.length) (hz:zs[k]=(z:Int))
  (hown1:w1.ownsRow 0 3 1 (.slice (some ⟨gg,0,none⟩) (k+1) cap') (k+1) ((zs.take k).map (Value.int .i64)++[.int .i64 z]))
  (hgrow:(wr.alloc (.cells #[.int .i64 z] 3)).drew.grownBy w1 az.ownBlock) (hat:az.ownBlock=some gg\/gg=wr.heap.size+1)
  (hb1:af w1 w.heap.size #[az,inv,.bool false,aZ,aZ] 83):
  af (w1.setCell ⟨w.heap.size,0,none⟩ (.slice (some ⟨gg,0,none⟩) (k+1) cap')) w.heap.size #[.slice (some ⟨gg,0,none⟩) (k+1) cap',inv,.bool false,aZ,aZ] 83 /\
  Nw w (w1.setCell ⟨w.heap.size,0,none⟩ (.slice (some ⟨gg,0,none⟩) (k+1) cap')) /\
  Row (w1.setCell ⟨w.heap.size,0,none⟩ (.slice (some ⟨gg,0,none⟩) (k+1) cap')) (.slice (some ⟨gg,0,none⟩) (k+1) cap') 3 ((zs.take (k+1)).map (Value.int .i64)) /\
  Row (w1.setCell ⟨w.heap.size,0,none⟩ (.slice (some ⟨gg,0,none⟩) (k+1) cap')) inv 84 vs /\
  eP (w1.setCell ⟨w.heap.size,0,none⟩ (.slice (some ⟨gg,0,none⟩) (k+1) cap')) w.heap.size vs bss/\w.heap.size<=gg:=by
 have e1:(zs.take (k+1)).map (Value.int .i64)=(zs.take k).map (Value.int .i64)++[.int .i64 z]:=by
  rw[List.take_succ_eq_append_getElem hlt,List.map_append,hz];rfl
 have hl:((zs.take k).map (Value.int .i64)++[Value.int .i64 z]).length=k+1:=by simp;omega
 have hr1:Row w1 (.slice (some ⟨gg,0,none⟩) (k+1) cap') 3 ((zs.take k).map (Value.int .i64)++[.int .i64 z]):=by
  unfold Row;rw[hl];exact hown1
 have hfr:Fr (fun j=>az.ownBlock=some j) wr w1:=(((Fr.refl (fun j=>az.ownBlock=some j) wr).alloc _).drew).grown hgrow (fun j hj=>.inl hj)
 have hfs:Fr (fun j=>j=w.heap.size) w1 (w1.setCell ⟨w.heap.size,0,none⟩ (.slice (some ⟨gg,0,none⟩) (k+1) cap')):=(Fr.refl _ w1).setCell _ _ (.inl rfl)
 have hne:∀cur,¬af w1 w.heap.size cur 4:=fun cur h=>by have:=(h.inj hb1).2;revert this;decide
 have hin1:Row w1 inv 84 vs:=hin.fr hfr (fun j hj hs=>by
  obtain⟨cur,hb,_⟩:=hin.blk hj;exact hsz.ne hb (by decide) hs)
 have Pg:eP w1 w.heap.size vs bss:=hvs.fr hfr (fun j cur hs hb=>hsz.ne hb (by decide) hs)
 refine⟨?_,?_,?_,?_,?_,?_⟩
 ·have:=hb1.set 0 (.slice (some ⟨gg,0,none⟩) (k+1) cap')
  simpa using this
 ·exact(hf.trans hfr (fun j hj=>.inr (uB j hj))).setCell _ _ (.inr (Nat.le_refl _))
 ·rw[e1];exact hr1.fr hfs (fun j hj e=>by subst e;exact hr1.ne hb1 (by decide) hj)
 ·exact hin1.fr hfs (fun j hj e=>by subst e;exact hin1.ne hb1 (by decide) hj)
 ·exact Pg.fr hfs (fun j cur e hb=>by subst e;exact hne cur hb)
 ·rcases hat with h | h
  ·exact uB _ h
  ·have:=hf.size;omega
theorem KW {w wc wi w1:World} {az inv lv:Value} {vs:List Value} {zs:List Int} {k z gg cap':Nat}
  (hf:Nw w wc) (hfi:Nw wc wi) (hsz:Row wc az 3 ((zs.take (k+1)).map (Value.int .i64))) (hin:Row wc inv 84 vs) (hvs:eP wc w.heap.size vs (allIn zs k))
  (Iq:∀k,inv.ownBlock=some k->w.heap.size<=k) (hlt:k<zs.length) (hz:zs[k]=(z:Int))
  (hlv:Row wi lv 4 (List.replicate z (.bool true))) (hlo:∀k,lv.ownBlock=some k->wc.heap.size<=k)
  (hr1:Row w1 (.slice (some ⟨gg,0,none⟩) (vs.length+1) cap') 84 (vs++[lv])) (hf1:Fr (fun j=>inv.ownBlock=some j) wi w1) (hat:inv.ownBlock=some gg\/gg=wi.heap.size+1)
  (hb1:af w1 w.heap.size #[az,inv,.bool false,aZ,aZ] 83):
  af (w1.setCell ⟨w.heap.size,1,none⟩ (.slice (some ⟨gg,0,none⟩) (vs.length+1) cap')) w.heap.size #[az,.slice (some ⟨gg,0,none⟩) (vs.length+1) cap',.bool false,aZ,aZ] 83 /\
  Nw w (w1.setCell ⟨w.heap.size,1,none⟩ (.slice (some ⟨gg,0,none⟩) (vs.length+1) cap')) /\
  Row (w1.setCell ⟨w.heap.size,1,none⟩ (.slice (some ⟨gg,0,none⟩) (vs.length+1) cap')) az 3 ((zs.take (k+1)).map (Value.int .i64)) /\
  Row (w1.setCell ⟨w.heap.size,1,none⟩ (.slice (some ⟨gg,0,none⟩) (vs.length+1) cap')) (.slice (some ⟨gg,0,none⟩) (vs.length+1) cap') 84 (vs++[lv]) /\
  eP (w1.setCell ⟨w.heap.size,1,none⟩ (.slice (some ⟨gg,0,none⟩) (vs.length+1) cap')) w.heap.size (vs++[lv]) (allIn zs (k+1)) /\
  (∀j,(Value.slice (some ⟨gg,0,none⟩) (vs.length+1) cap').ownBlock=some j->w.heap.size<=j):=by
 have Tv:Row wi inv 84 vs:=hin.nw hfi;have hfs:Fr (fun j=>j=w.heap.size) w1 (w1.setCell ⟨w.heap.size,1,none⟩ (.slice (some ⟨gg,0,none⟩) (vs.length+1) cap')):=(Fr.refl _ w1).setCell _ _ (.inl rfl)
 have hne:∀cur,¬af w1 w.heap.size cur 4:=fun cur h=>by have:=(h.inj hb1).2;revert this;decide
 have hsz1:Row w1 az 3 ((zs.take (k+1)).map (Value.int .i64)):=(hsz.nw hfi).fr hf1 (fun j hj hs=>by
  obtain⟨cur,hb,_⟩:=(hsz.nw hfi).blk hj;exact Tv.ne hb (by decide) hs)
 have hl:(allIn zs k).length=k:=by simp[allIn];omega
 have hall:allIn zs (k+1)=allIn zs k++[List.replicate z true]:=by
  simp only[allIn];rw[List.take_succ_eq_append_getElem hlt,List.map_append,hz];rfl
 have hvi:eP wi w.heap.size (vs++[lv]) (allIn zs (k+1)):=by
  rw[hall];refine(hvs.fr hfi (fun j cur hs _=>hs)).snoc lv (List.replicate z true) (by simpa using hlv) (fun j hj=>?_) (fun i hi j hj hj'=>?_)
  ·have:=hlo j hj;have:=hf.size;omega
  ·have h1:=(hvs.row i hi).lt hj;have h2:=hlo j hj';omega
 have hv1:eP w1 w.heap.size (vs++[lv]) (allIn zs (k+1)):=hvi.fr hf1 (fun j cur hs hb=>Tv.ne hb (by decide) hs)
 have aeD:∀j,(Value.slice (some ⟨gg,0,none⟩) (vs.length+1) cap').ownBlock=some j->w.heap.size<=j:=by
  intro j hj;cases hj;rcases hat with h | h
  ·exact Iq _ h
  ·have:=hf.size;have:=hfi.size;show w.heap.size<=gg;omega
 refine⟨?_,?_,?_,?_,?_,aeD⟩
 ·have:=hb1.set 1 (.slice (some ⟨gg,0,none⟩) (vs.length+1) cap')
  simpa using this
 ·exact((hf.trans hfi (fun j hj=>hj.elim)).trans hf1 (fun j hj=>.inr (Iq j hj))).setCell _ _ (.inr (Nat.le_refl _))
 ·exact hsz1.fr hfs (fun j hj e=>by subst e;exact hsz1.ne hb1 (by decide) hj)
 ·exact hr1.fr hfs (fun j hj e=>by subst e;exact hr1.ne hb1 (by decide) hj)
 ·exact hv1.fr hfs (fun j cur e hb=>by subst e;exact hne cur hb)
set_option maxRecDepth 1000000 in
theorem Bg (b o:Nat) (cap:Nat) (zs:List Int) (w:World) (h1:1<=zs.length) (h8:zs.length<=8) (h:ax w (some ⟨b,o,none⟩) zs):
  Calls Tryz.prog 15 #[.slice (some ⟨b,o,none⟩) zs.length cap] w fun e w'=>
   Nw w w'/\((di zs=true/\∃B,e= .returned (.pointer (some ⟨B,0,none⟩))/\w.heap.size<=B/\zh w' w.heap.size B zs (allIn zs zs.length) false aZ aZ) \/
    (di zs=false/\e= .returned (.pointer none))):=by
 obtain⟨i0,hi,hz0,hz1,hz2⟩:=info_parts Tryz.jU;obtain⟨j0,hj,hy0,hy1,hy2⟩:=info_parts Tryz.Io;obtain⟨k0,hk0,hx0,hx1,hx2⟩:=info_parts Tryz.Ea;go_enter Tryz.func15,Tryz.ntmps15
 go_wp2
 have hB0:af (w.alloc (.cells #[aZ,aZ,.bool false,aZ,aZ] 83)) w.heap.size #[aZ,aZ,.bool false,aZ,aZ] 83:=af.new _ _ _;have DJ:Nw w (w.alloc (.cells #[aZ,aZ,.bool false,aZ,aZ] 83)):=(Fr.refl _ w).alloc _;go_loopw [4] (fun i wr=>∃(k:Nat) (az inv:Value) (vs:List Value),k<=zs.length/\i= .int .i64 k/\Hid (af wr w.heap.size #[az,inv,.bool false,aZ,aZ] 83)/\Nw w wr/\Row wr az 3 ((zs.take k).map (Value.int .i64)) /\
  Row wr inv 84 vs/\eP wr w.heap.size vs (allIn zs k)/\(∀k,az.ownBlock=some k->w.heap.size<=k)/\(∀k,inv.ownBlock=some k->w.heap.size<=k)/\Hid ((zs.take k).all kY=true)) (fun i _=>zs.length-(intOf i).toNat)
 case atStart=>exact⟨0,aZ,aZ,[],Nat.zero_le _,rfl,hB0,DJ,Row.nil _ _,Row.nil _ _,by simp only[allIn,List.take_zero,List.map_nil];exact eP.nil _ _,fun k hk=>(by cases hk),fun k hk=>(by cases hk),by simp[Hid]⟩
 case round=>
  obtain⟨k,az,inv,vs,hk,rfl,hb,hf,hsz,hin,hvs,uB,Iq,xX⟩:=hrel;clear hB0 DJ;by_cases hlt:k<zs.length
  ·obtain⟨b',o',he,hbl,hcell⟩:=h k hlt;simp at he
   obtain⟨rfl,rfl⟩:=he;have hcr:wr.cell? ⟨b,o+k,none⟩=some (.int .i64 zs[k]):=(hf.cell hbl (fun x=>x)).trans (by rw[hcell];simp[hlt])
   clear hcell;by_cases hok:kY zs[k]=true
   ·have hok2:1<=zs[k]/\zs[k]<=6:=by simpa[kY] using hok
    obtain⟨z,hz⟩:∃z:Nat,zs[k]=(z:Int):=⟨zs[k].toNat,by omega⟩
    rw[hz] at hcr hok2;obtain⟨hz1',hz6⟩:=hok2;have Hz:=hd hz;have qU:=hd hok;clear hz hok;have hi0:(0:Int)<=(k:Int):=by omega
    have hi8:(k:Int)<(zs.length:Int):=by omega
    have hbB:w.heap.size<wr.heap.size:=hb.out.lt;have hbr:b<wr.heap.size:=by omega
    have cB:wr.cell? ⟨w.heap.size,0,none⟩=some az:=hb.out.cell 0
    have fB:wr.frozen? ⟨w.heap.size,0,none⟩=false:=hb.out.free 0
    have nB:az.ownBlock≠some w.heap.size:=hsz.ne hb.out (by decide)
    have nb:az.ownBlock≠some b:=fun e=>by have:=uB b e;omega
    have lk:((zs.take k).map (Value.int .i64)).length=k:=by simp;omega
    have ZE:=hd hsz;clear hsz;go_upto_region 9 with fail
    go_cut [5] (fun _ wx=>∃gg cap',Hid (af wx w.heap.size #[.slice (some ⟨gg,0,none⟩) (k+1) cap',inv,.bool false,aZ,aZ] 83)/\Nw w wx/\Row wx (.slice (some ⟨gg,0,none⟩) (k+1) cap') 3 ((zs.take (k+1)).map (Value.int .i64)) /\
     Row wx inv 84 vs/\eP wx w.heap.size vs (allIn zs k)/\w.heap.size<=gg)
    case first=>
     have Hbw:∀(X:Obj),af (wr.alloc X).drew w.heap.size #[az,inv,.bool false,aZ,aZ] 83:=fun X=>(hb.out.alloc X).drew
     have HBW:=hd Hbw;clear Hbw;go_region_law ((refine step_append_lies _ (by rfl) _ _ _ (by rfl) 0 3 i0 _ 1 8 Tryz.underlying22 hi hz0 hz1 hz2 rfl (by omega) az ((zs.take k).map (Value.int .i64)).length ((zs.take k).map (Value.int .i64)) (by rfl) ((ZE.out.alloc _).drew) ⟨wr.heap.size,0,none⟩ 1 1 [.int .i64 z] (by rfl) (by rfl) (World.news_of_block (cs:=#[.int .i64 z]) (t:=3) (fr:=(0,0)) (heap_alloc_new wr _)) (by simp[Value.oneCell']) (by omega) (by unfold maxLen;omega) (by omega) (by simp) (wr.heap.size+1) (by simp) ?_;intro gg cap' w1 hown1 hgrow hat agP;have hb1:Hid (af w1 w.heap.size #[az,inv,.bool false,aZ,aZ] 83):=(hgrow.block _ (HBW.out _).lt (Ne.symm nB)).trans (HBW.out _);have c1:w1.cell? ⟨w.heap.size,0,none⟩=some az:=hb1.out.cell 0;have f1:=hb1.out.free 0))
     all_goals
      have R:=Ip hf hin hvs ZE.out uB hlt Hz.out (by rw[lk] at hown1;exact hown1) hgrow hat hb1.out
      clear hown1 hgrow;go_wp2
      go_meet
      case rel=>exact⟨gg,cap',R.1,R.2.1,R.2.2.1,R.2.2.2.1,R.2.2.2.2.1,R.2.2.2.2.2⟩
    case rest=>
     obtain⟨gg,cap',hbx,hfx,aeE,abW,aeF,aeG⟩:=hcut;have hbc:wc.cell? ⟨b,o+k,none⟩=some (.int .i64 z):=(hfx.cell hbl (fun x=>x)).trans ((hf.cell hbl (fun x=>x)).symm.trans hcr)
     have aeH:b<wc.heap.size:=by have:=hfx.size;omega
     clear hcr cB fB nB nb lk;go_wp2
     go_loopw [5,6] (fun lv i wi=>∃m:Nat,m<=z/\i= .int .i64 m/\Row wi lv 4 (List.replicate m (.bool true))/\Nw wc wi/\(∀k,lv.ownBlock=some k->wc.heap.size<=k)) (fun _ i _=>z-(intOf i).toNat)
     case atStart=>exact⟨0,Nat.zero_le _,rfl,Row.nil _ _,Fr.refl _ _,fun k hk=>by cases hk⟩
     case round=>
      obtain⟨m,hm,rfl,hlv,hfi,Ir⟩:=hrel;have hbi:wr.cell? ⟨b,o+k,none⟩=some (.int .i64 z):=(hfi.cell aeH (fun x=>x)).trans hbc
      by_cases hmz:m<z
      ·go_wp2_with (at_builtin;refine wpList_append_own_at _ rfl _ _ 84 rfl 0 4 j0 (.bool false) 1 1 Tryz.underlying84 hj hy0 hy1 hy2 rfl (by decide) _ _ _ rfl (hlv.alloc _) ⟨wr.heap.size,0,none⟩ 1 1 [.bool true] rfl rfl (cell_one_new _ _ _) (by simp[Value.oneCell']) (by simp;unfold maxLen;omega) (by simp;omega) (Nat.zero_le _) ?_;intro v' w1 hown' hgrow _ hat;obtain⟨g',cap2,rfl,hr1,hf1,ha1,hlt1⟩:=app1 hown' hgrow hat;clear hown' hgrow hat)
       have e2:List.replicate m (Value.bool true)++[.bool true]=List.replicate (m+1) (.bool true):=(List.replicate_succ' ..).symm;refine⟨⟨m+1,by omega,by go_num,?_,hfi.trans hf1 (fun j hj=>.inr (Ir j hj)),?_⟩,?_⟩
       ·rw[e2] at hr1;simpa using hr1
       ·intro j hj;cases hj;rcases ha1 with h | h
        ·exact Ir _ h
        ·have:=hfi.size;show wc.heap.size<=g';omega
       ·simp[intOf];omega
      ·obtain rfl:m=z:=by omega
       have OX:Hid (af wr w.heap.size #[.slice (some ⟨gg,0,none⟩) (k+1) cap',inv,.bool false,aZ,aZ] 83):=hbx.out.nw hfi;have Tv:Row wr inv 84 vs:=abW.nw hfi;have c1:wr.cell? ⟨w.heap.size,1,none⟩=some inv:=OX.out.cell 1
       have hvl:vs.length<=8:=by have:=hvs.len;simp[allIn] at this;omega
       obtain⟨lao,gp,hlf,_⟩:=hlv.form;rw[hlf] at hlv Ir ⊢;simp only[List.length_replicate] at hlv Ir ⊢;clear hlf;go_wp2_with (at_builtin;refine wpList_append_own_at _ rfl _ _ 79 rfl 0 84 k0 (.slice none 0 0) 1 24 Tryz.underlying79 hk0 hx0 hx1 hx2 rfl (by decide) _ _ _ rfl (Tv.alloc _) ⟨wr.heap.size,0,none⟩ 1 1 [.slice lao m gp] rfl rfl (cell_one_new _ _ _) (by simp[Value.oneCell']) (by unfold maxLen;omega) (by omega) (Nat.zero_le _) ?_;intro v' w1 hown' hgrow _ hat;obtain⟨g',cap2,rfl,hr1,hf1,ha1,hlt1⟩:=app1 hown' hgrow hat;have hb1:Hid (af w1 w.heap.size #[.slice (some ⟨gg,0,none⟩) (k+1) cap',inv,.bool false,aZ,aZ] 83):=OX.out.fr hf1 (fun e=>Tv.ne OX.out (by decide) e);have c2:w1.cell? ⟨w.heap.size,1,none⟩=some inv:=hb1.out.cell 1;have f2:=hb1.out.free 1;clear hown' hgrow hat)
       have R:=KW hfx hfi aeE abW aeF Iq hlt Hz.out hlv Ir hr1 hf1 ha1 hb1.out;go_wp2
       refine⟨⟨k+1,_,_,vs++[.slice lao m gp],by omega,by go_num,R.1,R.2.1,R.2.2.1,R.2.2.2.1,R.2.2.2.2.1,fun j hj=>by cases hj;exact aeG,R.2.2.2.2.2,?_⟩,?_⟩
       ·show (zs.take (k+1)).all kY=true
        rw[List.take_succ_eq_append_getElem hlt,List.all_append,xX.out];simp[qU.out]
       ·simp[intOf];omega
   ·have hok2:¬(1<=zs[k]/\zs[k]<=6):=by simpa[kY] using hok
    have hfin:di zs=false:=by
     have:zs.all kY=false:=by
      rw[List.all_eq_false];exact⟨zs[k],List.getElem_mem hlt,hok⟩
     simp[di,this]
    have fQ:=hd hfin;clear hfin hok;go_wp2
    all_goals (go_ret;exact⟨hf,.inr ⟨fQ.out,rfl⟩⟩)
  ·obtain rfl:k=zs.length:=by omega
   go_wp2
   go_ret
   refine⟨hf,.inl ⟨?_,w.heap.size,rfl,Nat.le_refl _,⟨az,inv,vs,hb.out,?_,hin,hvs,uB,Iq⟩⟩⟩
   ·have:=xX.out
    rw[List.take_length] at this;simp only[di,this,Bool.and_true,decide_eq_true_eq];omega
   ·rw[List.take_length] at hsz;exact hsz
end Go.Proofs.YtkjfpdfkcfgfkaaGreat
namespace Go.Proofs.YtkjfpdfkcfgfkaaGreat
open Go.RowKit
def lH (n:Nat):Code->Option (Array Oper)
 | .region id ops _=>if id==n then some ops else none
 | .seq a b=>match lH n a with
  | some x=>some x
  | none=>lH n b
 | .cond _ a b=>match lH n a with
  | some x=>some x
  | none=>lH n b
 | .block _ c=>lH n c
 | .loop c=>lH n c
 | .rangeFunc _ _ c d=>match lH n c with
  | some x=>some x
  | none=>lH n d
 | .scope c=>lH n c
 | _=>none
def gU (f:Func) (n:Nat):Array Oper:=match f.body with
 | some c=>(lH n c).getD #[]
 | none=>#[]
def opAt (ops:Array Oper) (i:Nat):Oper:=ops[i]?.getD default
section
variable {P:Program} {Q:Exit->Act->World->Prop} {S:World->Prop} {ops:Array Oper}
theorem eF {ops':Array Oper} {id:Nat} {a:Act} {w:World} (ops:Array Oper) (n:Nat) (S:World->Prop) (ho:ops'=ops) (hn:ops.size=n) (hm:P.follows .mixedOrders=true)
  (h:wpAnyH P .any ops Q S n (Array.replicate n false) a w.drew):(Code.region id ops' true).wp P Q a w:=by
 subst ho;subst hn;exact wp_region_held hm h
def takeB (ops:Array Oper) (listed:Array Bool) (i:Nat) (d:Option Tmp):Bool:=Region.noSelect ops&&Region.free .any ops listed i&&(Region.ready .any ops listed).contains i&&decide (i<ops.size)&&decide ((opAt ops i).dst=d)
theorem jK {i:Nat} (h:i<ops.size):ops[i]? = some (opAt ops i):=by simp[opAt,h]
theorem take_at {i:Nat} {d:Option Tmp} {v:Value} {fuel:Nat} {listed:Array Bool} {a:Act} {w:World} (hB:takeB ops listed i d=true) (hw:Region.wanted (opAt ops i) (yielded ops a.tmps)=true)
  (hQ:∀c a w,Q (.panic c) (a.put d v) w->Q (.panic c) a w) (hy:∀w,S w->(execOp a.eval (opAt ops i)).run P w= .ok (.value v) w) (hS:S w)
  (h:wpAnyH P .any ops Q S fuel (listed.setIfInBounds i true) (a.put d v) w):wpAnyH P .any ops Q S (fuel+1) listed a w:=by
 simp only[takeB,Bool.and_eq_true,decide_eq_true_eq] at hB;obtain⟨⟨⟨⟨h1,h2⟩,h3⟩,h4⟩,h5⟩:=hB;subst h5;exact wpAnyH_take (i:=i) (oi:=opAt ops i) (v:=v) (jK h4) h1 h2 h3 hQ (.inl ⟨hw,hy⟩) hS h
def pM (ops:Array Oper) (listed:Array Bool) (i:Nat) (d:Option Tmp):Bool:=decide (Region.ready .any ops listed=[i])&&decide (i<ops.size)&&decide ((opAt ops i).dst=d)
theorem enter_at {i:Nat} {d:Option Tmp} {fuel:Nat} {listed:Array Bool} {a:Act} {w w':World} {f:FuncId} {args:Array Value} (hB:pM ops listed i d=true) (hw:Region.wanted (opAt ops i) (yielded ops a.tmps)=true)
  (hr:(execOp a.eval (opAt ops i)).run P w= .ok (.enter f args) w')
  (h:Calls P f args w' (fun e w''=>∃v,e= .returned v/\S w''/\wpAnyH P .any ops Q S fuel (listed.setIfInBounds i true) (a.put d v) w'')):wpAnyH P .any ops Q S (fuel+1) listed a w:=by
 simp only[pM,Bool.and_eq_true,decide_eq_true_eq] at hB;obtain⟨⟨h3,h4⟩,h5⟩:=hB;subst h5;refine wpAnyH_all h3 (by simp) (fun j hj=>?_)
 obtain rfl:j=i:=by simpa using hj
 exact dF (jK h4) hw hr h
theorem dG {i:Nat} {d:Option Tmp} {fuel:Nat} {listed:Array Bool} {a:Act} {w w':World} {v:Value} (hB:pM ops listed i d=true) (hw:Region.wanted (opAt ops i) (yielded ops a.tmps)=true)
  (hr:(execOp a.eval (opAt ops i)).run P w= .ok (.value v) w') (hS:S w') (h:wpAnyH P .any ops Q S fuel (listed.setIfInBounds i true) (a.put d v) w'):wpAnyH P .any ops Q S (fuel+1) listed a w:=by
 simp only[pM,Bool.and_eq_true,decide_eq_true_eq] at hB;obtain⟨⟨h3,h4⟩,h5⟩:=hB;subst h5;refine wpAnyH_all h3 (by simp) (fun j hj=>?_)
 obtain rfl:j=i:=by simpa using hj
 exact aA (jK h4) hw hr ⟨hS,h⟩
theorem Ac {i:Nat} {d:Option Tmp} {fuel:Nat} {listed:Array Bool} {a:Act} {w w':World} (hB:pM ops listed i d=true) (hw:Region.wanted (opAt ops i) (yielded ops a.tmps)=true)
  (hr:(execOp a.eval (opAt ops i)).run P w= .ok .skip w') (hS:S w') (h:wpAnyH P .any ops Q S fuel (listed.setIfInBounds i true) (a.put d undef) w'):wpAnyH P .any ops Q S (fuel+1) listed a w:=by
 simp only[pM,Bool.and_eq_true,decide_eq_true_eq] at hB;obtain⟨⟨h3,h4⟩,h5⟩:=hB;subst h5;refine wpAnyH_all h3 (by simp) (fun j hj=>?_)
 obtain rfl:j=i:=by simpa using hj
 exact dw (jK h4) hw hr ⟨hS,h⟩
end
theorem aj {ev:Operand->Value} {o:Oper} {w:World} {b off:Nat} {v:Value} (t:TypeId) (x:Operand) (ho:o.op= .load t x) (hx:ev x= .pointer (some ⟨b,off,none⟩)) (hag:(isAgg t).run Tryz.prog w= .ok false w) (hc:w.cell? ⟨b,off,none⟩=some v):
  (execOp ev o).run Tryz.prog w= .ok (.value v) w:=by
 unfold execOp;have hl:(Sem.load Mode.plain (⟨b,off,none⟩:Addr) Sem.pure).run Tryz.prog w= .ok v w:=by
  unfold Sem.run;rw[hc];rfl
 simp[ho,hx,Instr.loadAt,Instr.sureAddr,loadVar,hag,hl,Result.andThen,load]
theorem jb {ev:Operand->Value} {o:Oper} {w:World} {b off n cap i:Nat} (t e:TypeId) (x y:Operand) (ho:o.op= .indexAddr t x y) (hx:ev x= .slice (some ⟨b,off,none⟩) n cap) (hy:ev y= .int .i64 (i:Int)) (hi:i<n)
  (ht:(underlying t).run Tryz.prog w= .ok (.slice e) w) (he:(sizeOf e).run Tryz.prog w= .ok 1 w):
  (execOp ev o).run Tryz.prog w= .ok (.value (.pointer (some ⟨b,off+i,none⟩))) w:=by
 unfold execOp;simp[ho,hx,hy,Instr.indexAt,asIntOf,ht,he,Result.andThen,go_sem,hi]
theorem Tz {ev:Operand->Value} {o:Oper} {w:World} (a b:Int) (r:Int) (x y:Operand) (ho:o.op= .binOp .add 3 x y 3) (hx:ev x= .int .i64 a) (hy:ev y= .int .i64 b) (hr:r=a+b) (hb:-9223372036854775808<=r/\r<9223372036854775808):
  (execOp ev o).run Tryz.prog w= .ok (.value (.int .i64 r)) w:=by
 have h1:IntKind.i64.wrap (a+b)=r:=by rw[IntKind.wrap_i64] <;> omega
 have h2:(eqGuard .add 3 x y (.int .i64 a) (.int .i64 b)).run Tryz.prog w= .ok () w:=by kernel_rfl
 have h3:(binOp .add 3 (.int .i64 a) (.int .i64 b)).run Tryz.prog w= .ok (.int .i64 (IntKind.i64.wrap (a+b))) w:=by kernel_rfl
 unfold execOp;simp[ho,hx,hy,h2,h3,h1,Result.andThen]
theorem TA {ev:Operand->Value} {o:Oper} {w:World} (a b:Int) (r:Int) (x y:Operand) (ho:o.op= .binOp .sub 3 x y 3) (hx:ev x= .int .i64 a) (hy:ev y= .int .i64 b) (hr:r=a-b) (hb:-9223372036854775808<=r/\r<9223372036854775808):
  (execOp ev o).run Tryz.prog w= .ok (.value (.int .i64 r)) w:=by
 have h1:IntKind.i64.wrap (a-b)=r:=by rw[IntKind.wrap_i64] <;> omega
 have h2:(eqGuard .sub 3 x y (.int .i64 a) (.int .i64 b)).run Tryz.prog w= .ok () w:=by kernel_rfl
 have h3:(binOp .sub 3 (.int .i64 a) (.int .i64 b)).run Tryz.prog w= .ok (.int .i64 (IntKind.i64.wrap (a-b))) w:=by kernel_rfl
 unfold execOp;simp[ho,hx,hy,h2,h3,h1,Result.andThen]
theorem Fg {ev:Operand->Value} {o:Oper} {w:World} {v x:Value} {xs:List Value} {g c:Nat} {e:TypeId} {i0:TypeInfo} {z:Value} (ZF:Nat) (s y:Operand) (t:TypeId) (ho:o.op= .call {callee:=.builtin .append,args:=#[s,y],argTypes:=#[t,t]}) (hs:ev s=v) (hy:ev y= .slice (some ⟨g,0,none⟩) 1 c)
  (ht:Tryz.prog.underlying t=some (.slice e)) (hi:Tryz.prog.info? e=some i0) (hz:i0.zero=some z) (h1:i0.size=1) (hb:i0.bytes=ZF) (hzc:z.cells.size=1)
  (hr:Row w v e xs) (hc:w.cell? ⟨g,0,none⟩=some x) (hx:x.oneCell'=true) (h63:xs.length+1<=maxLen) (hl:(xs.length+1)*ZF<=140737488355328):
  ∃v' w',(execOp ev o).run Tryz.prog w= .ok (.value v') w'/\w'.ownsRow 0 e 1 v' (xs.length+1) (xs++[x])/\w.grownBy w' v.ownBlock/\(v'.ownBlock=v.ownBlock\/v'.ownBlock=some w.heap.size):=by
 obtain⟨v',w',hr',h2,h3,_,h5⟩:=run_append_own_at (P:=Tryz.prog) w 0 t o.type e i0 z 1 ZF ht hi hz h1 hb hzc (by decide) v xs.length xs hr ⟨g,0,none⟩ 1 c [x] rfl (fun j u hj=>by
  match j with
  | 0=>
   simp at hj
   subst hj;simpa[Addr.add] using hc
  | j+1=>simp at hj) (by simpa using hx) h63 hl (Nat.zero_le _)
 refine⟨v',w',?_,h2,h3,h5⟩
 unfold execOp;simp only[ho,resolve,invoke,builtin,Sem.run_bind,Sem.run_pure,Result.andThen_ok,List.map_toArray,List.map_cons,List.map_nil,hs,hy,hr']
theorem app1' {w w1:World} {e:TypeId} {v v' x:Value} {xs:List Value} (h1:w1.ownsRow 0 e 1 v' (xs.length+1) (xs++[x]))
  (hg:w.grownBy w1 v.ownBlock) (hat:v'.ownBlock=v.ownBlock\/v'.ownBlock=some w.heap.size):
  ∃g cap,v'= .slice (some ⟨g,0,none⟩) (xs.length+1) cap/\Row w1 v' e (xs++[x])/\Fr (fun k=>v.ownBlock=some k) w w1/\(v.ownBlock=some g\/w.heap.size<=g)/\g<w1.heap.size:=by
 have hr:Row w1 v' e (xs++[x]):=by unfold Row;simpa using h1
 have hfr:Fr (fun k=>v.ownBlock=some k) w w1:=(Fr.refl (fun k=>v.ownBlock=some k) w).grown hg (fun k hk=>.inl hk)
 rcases h1.2 with ⟨_,hn⟩ | ⟨g,cap,cur,rfl,_,hgg,_⟩
 ·omega
 ·refine⟨g,cap,rfl,hr,hfr,?_,lt_of_block hgg⟩
  rcases hat with hat | hat
  ·exact .inl hat.symm
  ·right
   have:g=w.heap.size:=by simpa[Value.ownBlock] using hat
   omega
theorem yD {ev ev':Operand->Value} {o:Oper} {s y:Operand} {t:TypeId} {w:World} (ho:o.op= .call {callee:=.builtin .append,args:=#[s,y],argTypes:=#[t,t]}) (h1:(ev s,ev y)=(ev' s,ev' y)):(execOp ev o).run Tryz.prog w=(execOp ev' o).run Tryz.prog w:=by
 simp only[Prod.mk.injEq] at h1;unfold execOp;simp only[ho,resolve,List.map_toArray,List.map_cons,List.map_nil,h1.1,h1.2]
end Go.Proofs.YtkjfpdfkcfgfkaaGreat
namespace Go.Proofs.YtkjfpdfkcfgfkaaGreat
open Go.RowKit
def jc (l:List Nat):List Int:=l.map (fun (x:Nat)=>(x:Int))
theorem iE (l:List Nat):(jc l).length=l.length:=by simp[jc]
theorem Bh (l:List Nat) (k:Nat):(jc l).getD k 0=((l.getD k 0:Nat):Int):=by
 simp only[jc,List.getD,List.getElem?_map]
 cases l[k]? <;> rfl
def Fh (r x:Int):Bool:=r == -1 || r==x
def yE (row l:List Int) (k:Nat):Bool:=(List.range k).all (fun i=>Fh (row.getD i 0) (l.getD i 0))
theorem PN (row l:List Int) (k:Nat):yE row l (k+1)=(yE row l k&&Fh (row.getD k 0) (l.getD k 0)):=by simp[yE,List.range_succ]
theorem zi {row:List Int} {l:List Nat} (h:l.length=row.length):yE row (jc l) row.length=jX row l:=by
 unfold yE jX;rw[h,Bool.eq_iff_iff];simp only[List.all_eq_true,List.mem_range];refine forall_congr' fun i=>forall_congr' fun hi=>?_
 rw[Bh];simp[Fh,gJ]
set_option maxRecDepth 1000000 in
theorem KX (ro lo:Option Addr) (rc lc:Nat) (row l:List Int) (w:World) (hr4:row.length<=4) (hl:l.length=row.length) (hr:ax w ro row) (hli:ax w lo l):
  Calls Tryz.prog 98 #[.slice ro row.length rc,.slice lo row.length lc] w fun e w'=>e= .returned (.bool (yE row l row.length))/\Nw w w':=by
 have Hr:=hd hr;have Hl:=hd hli;clear hr hli;go_enter Tryz.func98,Tryz.ntmps98
 go_wp2_with fail
 go_loopw [5] (fun i wr=>∃k:Nat,k<=row.length/\i= .int .i64 (k:Int)/\Hid (yE row l k=true)/\Hid (Nw w wr)) (fun i _=>row.length-(intOf i).toNat)
 case atStart=>exact⟨0,by omega,rfl,rfl,Fr.refl _ _⟩
 case round=>
  obtain⟨k,hk,rfl,Hc,HN⟩:=hrel;by_cases hlt:k<row.length
  ·have hdk:(k:Int)<(row.length:Int):=by omega
   obtain⟨rb,Fj,hre,hrl,hrc⟩:=(Hr.out.nw HN.out) k hlt;obtain⟨lb,PO,hle,hll,hlc⟩:=(Hl.out.nw HN.out) k (by omega)
   have Hs:=hd (PN row l k);rw[Hc.out,Bool.true_and] at Hs;obtain⟨y,hy⟩:∃y,row.getD k 0=y:=⟨_,rfl⟩;obtain⟨x,hx⟩:∃x,l.getD k 0=x:=⟨_,rfl⟩;rw[hy] at hrc Hs;rw[hx] at hlc Hs;subst hre;subst hle;have Hno:Hid (yE row l (k+1)=false->yE row l row.length=false):=fun h=>by
    unfold yE at h ⊢;rw[List.all_eq_false] at h ⊢;obtain⟨i,hi,hn⟩:=h;exact⟨i,List.mem_range.2 (by have:=List.mem_range.1 hi;omega),hn⟩
   clear hy hx;by_cases hy1:y=-1
   ·have hyb:(y == -1)=true:=by simp[hy1]
    have hen:Fh y x=true:=by simp[Fh,hy1]
    rw[hen] at Hs;clear hen;go_wp2_with fail
    go_quiet (fail)
    go_wp2_with fail
    exact⟨⟨k+1,by omega,by simp,Hs,HN.out.drewN _⟩,by simp[intOf];omega⟩
   ·have hyb:(y == -1)=false:=by rw[beq_eq_false_iff_ne];exact hy1
    by_cases hyx:y=x
    ·subst hyx;have hen:Fh y y=true:=by simp[Fh]
     rw[hen] at Hs;clear hen;go_wp2_with fail
     go_quiet (fail)
     go_wp2_with fail
     exact⟨⟨k+1,by omega,by simp,Hs,HN.out.drewN _⟩,by simp[intOf];omega⟩
    ·have aeI:(y==x)=false:=by rw[beq_eq_false_iff_ne];exact hyx
     have hyn:(!(y==x))=true:=by rw[aeI];rfl
     have agQ:(y != x)=true:=hyn;have hen:Fh y x=false:=by simp[Fh,hy1,hyx]
     rw[hen] at Hs;clear hen;go_wp2_with fail
     go_quiet (fail)
     go_wp2_with fail
     go_ret
     exact⟨by rw[Hno.out Hs.out];rfl,HN.out.drewN _⟩
  ·obtain rfl:row.length=k:=by omega
   have hdk:¬((row.length:Int)<(row.length:Int)):=by omega
   go_wp2_with fail
   go_ret
   exact⟨by rw[Hc.out];rfl,HN.out⟩
def uC (rows:List (List Int)) (l:List Int) (k:Nat):Bool:=(List.range k).any (fun j=>yE (rows.getD j []) l (rows.getD j []).length)
theorem KY (rows:List (List Int)) (l:List Int) (k:Nat):uC rows l (k+1)=(uC rows l k || yE (rows.getD k []) l (rows.getD k []).length):=by simp[uC,List.range_succ]
def yF (rows:List (List Int)) (l:List Int) (nt:Bool):Bool:=if uC rows l rows.length then !nt else nt
theorem Eb {rows:List (List Int)} {l:List Nat} {nt:Bool} (h:∀j,j<rows.length->(rows.getD j []).length=l.length):yF rows (jc l) nt=jA rows nt l:=by
 have key:uC rows (jc l) rows.length=rows.any (fun r=>jX r l):=by
  rw[Bool.eq_iff_iff];unfold uC;simp only[List.any_eq_true,List.mem_range];constructor
  ·rintro⟨j,hj,hc⟩
   rw[zi (h j hj).symm] at hc;exact⟨_,yA hj,hc⟩
  ·rintro⟨r,hr,hc⟩
   obtain⟨j,hj,rfl⟩:=Bc hr;exact⟨j,hj,by rw[zi (h j hj).symm];exact hc⟩
 unfold yF jA;rw[key];cases nt with
 | true=>
  rw[if_pos rfl];cases hc:rows.any (fun r=>jX r l) with
  | true=>
   rw[if_pos rfl];symm
   rw[Bool.not_true,List.all_eq_false];obtain⟨r,hr,hh⟩:=List.any_eq_true.1 hc;exact⟨r,hr,by simp[hh]⟩
  | false=>
   rw[if_neg (by simp)]
   symm
   rw[List.all_eq_true];intro r hr;have:=List.any_eq_false.1 hc r hr
   simpa using this
 | false=>
  show (if rows.any (fun r=>jX r l)=true then true else false)=rows.any (fun r=>jX r l)
  cases rows.any (fun r=>jX r l) <;> rfl
set_option maxRecDepth 1000000 in
theorem uD (vo ro lo:Option Addr) (ak au lc:Nat) (n:Nat) (l:List Int) (rows:List (List Int)) (nt:Bool) (way:Int) (w:World) (hn:n<=4) (hl:l.length=n) (hrl:rows.length<=60)
  (hrow:∀j,j<rows.length->(rows.getD j []).length=n) (hrs:dW w ro rows) (hls:ax w lo l):
  Calls Tryz.prog 92 #[.agg #[.slice vo n ak,.slice ro rows.length au,.bool nt,.int .i64 way],.slice lo n lc] w fun e w'=>e= .returned (.bool (yF rows l nt))/\Nw w w':=by
 obtain⟨B,hB⟩:∃B,B=w.heap.size:=⟨_,rfl⟩;obtain⟨W,hW⟩:∃W,W=w.alloc (.cells #[.slice vo n ak,.slice ro rows.length au,.bool nt,.int .i64 way] 41):=⟨_,rfl⟩;have dM:Nw w W:=by rw[hW];exact(Fr.refl _ w).alloc _
 have hbB:af W B #[.slice vo n ak,.slice ro rows.length au,.bool nt,.int .i64 way] 41:=by rw[hW,hB];exact af.new _ _ _
 have DZ:=hd (hrs.nw dM);have Hls:=hd (hls.nw dM);have KQ:=hd dM;have JY:=hd hbB;clear hrs hls dM hbB;go_enter Tryz.func92,Tryz.ntmps92
 go_upto_region 1 with fail
 rw[<-hW,<-hB];clear hW hB;go_wp2_with fail
 go_loopw [5,6] (fun r _ wr=>∃k:Nat,k<=rows.length/\r= .int .i64 (k:Int)/\Hid (uC rows l k=false)/\Hid (Nw W wr)) (fun r _ _=>rows.length-(intOf r).toNat)
 case atStart=>exact⟨0,by omega,rfl,rfl,Fr.refl _ _⟩
 case round=>
  obtain⟨k,hk,rfl,abX,HF⟩:=hrel;have hB1:=JY.out.nw HF.out;have hBl:=hB1.lt;have c1:wr.cell? ⟨B,1,none⟩=some (.slice ro rows.length au):=hB1.cell 1
  have c2:wr.cell? ⟨B,2,none⟩=some (.bool nt):=hB1.cell 2
  have HB1:=hd hB1;clear hB1;by_cases hlt:k<rows.length
  ·have hd1:(k:Int)<(rows.length:Int):=by omega
   obtain⟨rb,Fj,qo,qc,hre,PR,hrc,hRow⟩:=(DZ.out.nw HF.out) k hlt;have hrlen:=hrow k hlt;have wP:=hd (KY rows l k);rw[abX.out,Bool.false_or] at wP;have TB:Hid (uC rows l (k+1)=true->uC rows l rows.length=true):=fun h=>by
    unfold uC at h ⊢;rw[List.any_eq_true] at h ⊢;obtain⟨j,hj,hc⟩:=h;exact⟨j,List.mem_range.2 (by have:=List.mem_range.1 hj;omega),hc⟩
   obtain⟨row,yT⟩:∃row,rows.getD k []=row:=⟨_,rfl⟩;rw[yT] at hrc hRow hrlen wP;have aK:=hd (KX qo lo qc lc row l wr (by omega) (by omega) hRow (Hls.out.nw HF.out))
   obtain⟨cb,hcb⟩:∃cb,yE row l row.length=cb:=⟨_,rfl⟩;rw[hcb] at aK wP;rw[hrlen] at hrc aK;subst hre;clear yT hRow hcb;go_wp2_with fail
   refine aK.out.mono ?_
   rintro e w1 ⟨rfl,hf1⟩
   have Rk:=hd (HF.out.trans hf1 (fun _ x=>x.elim))
   have hB2:=HB1.out.nw hf1;have d2:w1.cell? ⟨B,2,none⟩=some (.bool nt):=hB2.cell 2
   have agR:=hB2.lt;clear hf1 hB2;cases cb with
   | true=>
    go_wp2_with fail
    go_ret
    refine⟨?_,KQ.out.trans Rk.out (fun _ x=>x.elim)⟩
    unfold yF;rw[if_pos (TB.out wP.out)];rfl
   | false=>
    go_wp2_with fail
    exact⟨⟨k+1,by omega,by simp,wP,Rk⟩,by simp[intOf];omega⟩
  ·obtain rfl:rows.length=k:=by omega
   have hd1:¬((rows.length:Int)<(rows.length:Int)):=by omega
   go_wp2_with fail
   go_ret
   refine⟨?_,KQ.out.trans HF.out (fun _ x=>x.elim)⟩
   unfold yF;rw[if_neg (by rw[abX.out];simp)]
   rfl
theorem af.abY {b:World} {g:Nat} {e:TypeId} {n:List Nat} {v0 v1 v2 v3 v4 v5 v6 v7:Value} (h:af b g (ay aQ) e) (hn:ay n=#[v0,v1,v2,v3,v4,v5,v6,v7]):
  af ((((((((b.setCell ⟨g,0,none⟩ v0).setCell ⟨g,1,none⟩ v1).setCell ⟨g,2,none⟩ v2).setCell ⟨g,3,none⟩ v3).setCell ⟨g,4,none⟩ v4).setCell ⟨g,5,none⟩ v5).setCell ⟨g,6,none⟩ v6).setCell ⟨g,7,none⟩ v7) g (ay n) e:=by
 have h1:=af.mJ (cur:=#[Value.int .u8 0,Value.int .u8 0,Value.int .u8 0,Value.int .u8 0,Value.int .u8 0,Value.int .u8 0,Value.int .u8 0,Value.int .u8 0]) h 0 1 2 3 4 5 6 7 v0 v1 v2 v3 v4 v5 v6 v7;rw[J6] at h1;rw[hn];exact h1
theorem Tryz.TC:Tryz.prog.underlying 71=some (.array 12 4):=by kernel_rfl
theorem Iu (b:Nat) (W:World):(Instr.sliceAt 71 (.pointer (some ⟨b,0,none⟩)) none none none).run Tryz.prog W= .ok (.slice (some ⟨b,0,none⟩) 12 12) W:=by
 have h1:Tryz.prog.arrayLen 71=12:=by kernel_rfl
 have h2:Tryz.prog.elem 71=4:=by kernel_rfl
 rw[run_sliceAt_array_all W 71 ⟨b,0,none⟩ (by rw[h1,h2];exact Tryz.TC),h1,h2]
 simp[go_sem,slicedAt]

theorem Row.oC {w:World} {ao:Option Addr} {cap:Nat} {zs:List Int} (h:Row w (.slice ao zs.length cap) 3 (zs.map (Value.int .i64))):ax w ao zs:=fun i hi=>by
 obtain⟨g,c,he,hb,hc,_⟩:=h.cell i (by simpa using hi)
 obtain⟨rfl,_⟩:ao=some ⟨g,0,none⟩/\cap=c:=by
  injection he with h1 h2 h3
  exact⟨h1,h3⟩
 refine⟨g,0,rfl,h.lt rfl,?_⟩
 rw[Nat.zero_add,hc];simp[hi]
theorem dW.drew {w:World} {ao:Option Addr} {rows:List (List Int)} (h:dW w ao rows):dW w.drew ao rows:=h.nw ((Fr.refl _ w).drew)
theorem ax.drew {w:World} {ao:Option Addr} {zs:List Int} (h:ax w ao zs):ax w.drew ao zs:=h.nw ((Fr.refl _ w).drew)
theorem wQ (az:Value) (d:List Nat) (tv tv':Value) (l:Rest) (h8:d.length=8):(ah az d tv l).setIfInBounds 9 tv'=ah az d tv' l:=by
 simp[ah,h8]
theorem Tryz.Ec:(Tryz.prog.info? 73).map (fun i=>(i.zero,i.size,i.bytes))=some (some .nilIface,1,16):=by kernel_rfl
end Go.Proofs.YtkjfpdfkcfgfkaaGreat
