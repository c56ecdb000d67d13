/- Parts of the proof, number 8: contracts of the functions that the statement calls. -/
import Derived.Test.YtkjfpdfkcfgfkaaGreatM6
import Derived.Test.YtkjfpdfkcfgfkaaGreatM7
import Derived.Test.YtkjfpdfkcfgfkaaGreatM3
import Derived.Test.YtkjfpdfkcfgfkaaGreatM5
import Derived.Maps.AppendAt
set_option maxHeartbeats 1600000
namespace Go.Proofs.YtkjfpdfkcfgfkaaGreat
open Go.RowKit
theorem Tryz.ML:(Tryz.prog.info? 41).map (fun i=>(i.zero,i.size,i.bytes))=some (some (.agg #[.slice none 0 0,.slice none 0 0,.bool false,.int .i64 0]),4,64):=by kernel_rfl
theorem Ce {ev:Operand->Value} {o:Oper} {w:World} {b off:Nat} {v0 v1 v2 v3:Value} (t:TypeId) (x:Operand) (ho:o.op= .load t x) (hx:ev x= .pointer (some ⟨b,off,none⟩)) (hag:(isAgg t).run Tryz.prog w= .ok true w) (hsz:(sizeOf t).run Tryz.prog w= .ok 4 w)
  (c0:w.cell? ⟨b,off,none⟩=some v0) (c1:w.cell? ⟨b,off+1,none⟩=some v1) (c2:w.cell? ⟨b,off+2,none⟩=some v2) (c3:w.cell? ⟨b,off+3,none⟩=some v3):
  (execOp ev o).run Tryz.prog w= .ok (.value (.agg #[v0,v1,v2,v3])) w:=by
 have hl:∀(a:Addr) (v:Value),w.cell? a=some v->(Sem.load Mode.plain a Sem.pure).run Tryz.prog w= .ok v w:=fun a v hc=>by
  unfold Sem.run;rw[hc];rfl
 unfold execOp;simp[ho,hx,Instr.loadAt,Instr.sureAddr,loadVar,hag,hsz,Result.andThen,load,loadCells,loadCellsFrom,Addr.add,hl _ _ c0,hl _ _ c1,hl _ _ c2,hl _ _ c3]
theorem xA {ev:Operand->Value} {o:Oper} {w:World} {v:Value} {xs ys:List Value} {g c n:Nat} {e:TypeId} {i0:TypeInfo} {z:Value} (sz ZF:Nat) (s y:Operand) (t:TypeId) (ho:o.op= .call {callee:=.builtin .append,args:=#[s,y],argTypes:=#[t,t]}) (hs:ev s=v) (hy:ev y= .slice (some ⟨g,0,none⟩) 1 c)
  (ht:Tryz.prog.underlying t=some (.slice e)) (hi:Tryz.prog.info? e=some i0) (hz:i0.zero=some z) (h1:i0.size=sz) (hb:i0.bytes=ZF) (hzc:z.cells.size=sz) (hsz:0<sz)
  (hr:w.ownsRow 0 e sz v n xs) (hyl:ys.length=1*sz) (hc:∀j u,ys[j]? = some u->w.cell? ((⟨g,0,none⟩:Addr).add j)=some u) (hx:∀u∈ys,u.oneCell'=true) (h63:n+1<=maxLen) (hl:(n+1)*ZF<=140737488355328):
  ∃v' w',(execOp ev o).run Tryz.prog w= .ok (.value v') w'/\w'.ownsRow 0 e sz v' (n+1) (xs++ys)/\w.grownBy w' v.ownBlock/\(v'.ownBlock=v.ownBlock\/v'.ownBlock=some w.heap.size):=by
 obtain⟨v',w',hr',h2,h3,_,h5⟩:=run_append_own_at (P:=Tryz.prog) w 0 t o.type e i0 z sz ZF ht hi hz h1 hb hzc hsz v n xs hr ⟨g,0,none⟩ 1 c ys hyl hc hx h63 hl (Nat.zero_le _);refine⟨v',w',?_,h2,h3,h5⟩
 unfold execOp;simp only[ho,resolve,invoke,builtin,Sem.run_bind,Sem.run_pure,Result.andThen_ok,List.map_toArray,List.map_cons,List.map_nil,hs,hy,hr']
theorem adb {w w1:World} {e:TypeId} {size:Nat} {v v':Value} {k:Nat} {xs:List Value} (h1:w1.ownsRow 0 e size v' (k+1) xs) (hg:w.grownBy w1 v.ownBlock) (hat:v'.ownBlock=v.ownBlock\/v'.ownBlock=some w.heap.size):
  ∃g cap,v'= .slice (some ⟨g,0,none⟩) (k+1) cap/\Fr (fun j=>v.ownBlock=some j) w w1/\(v.ownBlock=some g\/w.heap.size<=g)/\g<w1.heap.size:=by
 have hfr:Fr (fun j=>v.ownBlock=some j) w w1:=(Fr.refl (fun j=>v.ownBlock=some j) w).grown hg (fun k hk=>.inl hk)
 rcases h1.2 with ⟨_,hn⟩ | ⟨g,cap,cur,rfl,_,hgg,_⟩
 ·omega
 ·refine⟨g,cap,rfl,hfr,?_,lt_of_block hgg⟩
  rcases hat with hat | hat
  ·exact .inl hat.symm
  ·right
   have:g=w.heap.size:=by simpa[Value.ownBlock] using hat
   omega
theorem EC {w:World} {g:Nat} {xs:List Value} {e:TypeId} (h:af w g xs.toArray e):∀j u,xs[j]? = some u->w.cell? ((⟨g,0,none⟩:Addr).add j)=some u:=by
 intro j u hj;rw[show (⟨g,0,none⟩:Addr).add j=⟨g,j,none⟩ from by by_cases h:j=0 <;> simp[Addr.add,h],h.cell]
 simpa using hj
noncomputable def Oq:Array Oper:=gU Tryz.f79 10
def aaF (x y:Value):Operand->Value
 | .tmp 31=>x
 | .tmp _=>y
 | _=>undef
set_option maxRecDepth 1000000 in
theorem Jn (W:World) (lo Y:Nat) (zs:List Int) (R:RS) (vo ro:Option Addr) (ak au:Nat) (vars:List Int) (rows:List (List Int)) (nt:Bool) (way:Int) (w:World) (hlo:W.heap.size<=lo) (Qh:lo<=w.heap.size) (hW:Nw W w) (hR:mF W w lo Y zs R) (hdd:R.now.dead=false) (hls:R.ls=[]) (IU:R.ts.length<12) (hok:bK zs vars rows way=true)
  (hvs:ax W vo vars) (hrs:dW W ro rows):
  Calls Tryz.prog 79 #[.pointer (some ⟨Y,0,none⟩),.agg #[.slice vo vars.length ak,.slice ro rows.length au,.bool nt,.int .i64 way]] w fun e w'=>e= .returned (.int .i64 0)/\∃now tv d,mF W w' lo Y zs {R with now:=now,tv:=tv,ts:=R.ts++[⟨⟨vars,rows,nt⟩,way⟩]}/\Fr (R.wr Y) w w'/\(∀k,RS.own Y {R with now:=now,tv:=tv,ts:=R.ts++[⟨⟨vars,rows,nt⟩,way⟩]} k->R.own Y k\/w.heap.size<=k)/\Dm d/\Closure zs.length ((R.ts++[(⟨⟨vars,rows,nt⟩,way⟩:jO)]).map jO.tb) (dR R.now.bss) d/\kM zs.length now d:=by
 obtain⟨B,hB⟩:∃B,B=w.heap.size:=⟨_,rfl⟩;obtain⟨V,hV⟩:∃V,V=w.alloc (.cells #[.slice vo vars.length ak,.slice ro rows.length au,.bool nt,.int .i64 way] 41):=⟨_,rfl⟩;have fA:Nw w V:=by rw[hV];exact(Fr.refl _ w).alloc _
 have hbB:af V B #[.slice vo vars.length ak,.slice ro rows.length au,.bool nt,.int .i64 way] 41:=by rw[hV,hB];exact af.new _ _ _
 have Xu:=hR.nw fA;obtain⟨_,hv1,IJ,LH,_⟩:=lM hok (aF hR.dU.lJ).2;have hv4:=LH.four;have aK:=hd (xk lo Y zs R.az R.now.inv R.now.vs R.now.bss R.now.dead R.tv R.lv vo ro ak au vars rows nt way V (by omega) (by omega) Xu.dU ((hvs.nw hW).nw fA) ((hrs.nw hW).nw fA))
 rw[hok] at aK;obtain⟨cells,ht1,ht2⟩:=Xu.tabs;obtain⟨qP,aI,sZ⟩:=iQ ht1;have hll:=hR.ug;obtain⟨nP,gp,hlv⟩:=iQ hll;rw[hls] at hlv;have c0:V.cell? ⟨B,0,none⟩=some (.slice vo vars.length ak):=hbB.cell 0
 have c1:V.cell? ⟨B,1,none⟩=some (.slice ro rows.length au):=hbB.cell 1
 have c2:V.cell? ⟨B,2,none⟩=some (.bool nt):=hbB.cell 2
 have c3:V.cell? ⟨B,3,none⟩=some (.int .i64 way):=hbB.cell 3
 have hBl:=hbB.lt;have HR:=hd Xu;have HR0:=hd hR;have lK:=hd fA;have JY:=hd hbB;have Hb0:=hd hB;have HW:=hd hW;have Ht1:=hd ht1;have Ht2:=hd ht2;have Hlv:=hd hlv;have Ob:=hd sZ;have Yn:=hd hdd;have Hls:=hd hls;have zV:=hd hvs;have DZ:=hd hrs;have qU:=hd hok;obtain⟨i0,hi0,hz0,hz1,hz2⟩:=info_parts Tryz.ML;obtain⟨tn,htn⟩:∃tn,R.ts.length=tn:=⟨_,rfl⟩;have Gv:=hd htn;rw[htn] at IU;clear hbB fA hR Xu hvs hrs ht1 ht2 sZ hlv hll hdd hls hW htn hok;go_enter Tryz.func79,Tryz.ntmps79
 go_upto_region 1 with fail
 rw[<-hV,<-hB];clear hV hB;go_wp2_with fail
 refine aK.out.mono ?_
 rintro e w1 ⟨rfl,hf1⟩
 have HR1:=hd (HR.out.nw hf1);have HB1:=hd (JY.out.nw hf1);have Hf1:=hd (lK.out.trans hf1 (fun _ x=>x.elim))
 have d2:w1.cell? ⟨Y,2,none⟩=some (.bool false):=by
  have:=HR1.out.dU.blk.cell 2
  rw[Yn.out] at this;exact this
 have d3:w1.cell? ⟨Y,3,none⟩=some (.slice qP tn aI):=by
  have:=HR1.out.dU.blk.cell 3
  rw[Ob.out,Gv.out] at this;exact this
 have d4:w1.cell? ⟨Y,4,none⟩=some (.slice nP 0 gp):=by
  have:=HR1.out.dU.blk.cell 4
  rw[Hlv.out] at this;exact this
 have hYl:=HR1.out.dU.blk.lt;have hown1:w1.ownsRow 0 41 4 (.slice qP tn aI) tn cells:=by
  have:=ownsRow.fr Ht1.out hf1 (fun _ _ x=>x)
  rw[Ob.out,Gv.out] at this;exact this
 have Jo:=hd hown1;clear hf1 aK c0 c1 c2 c3 hBl hown1;have acR:¬((12:Int)<=(tn:Int)):=by omega
 have hBl:=HB1.out.lt;have e0:w1.cell? ⟨B,0,none⟩=some (.slice vo vars.length ak):=HB1.out.cell 0
 have e1:w1.cell? ⟨B,1,none⟩=some (.slice ro rows.length au):=HB1.out.cell 1
 have e2:w1.cell? ⟨B,2,none⟩=some (.bool nt):=HB1.out.cell 2
 have e3:w1.cell? ⟨B,3,none⟩=some (.int .i64 way):=HB1.out.cell 3
 go_wp2_with fail
 have ade:Hid (∀k,(Value.slice qP tn aI).ownBlock=some k->k<B):=fun k hk=>by
  have h1:k<w.heap.size:=by
   obtain⟨afx,h0,_⟩:=HR0.out.tabs;refine(World.ownsRow.lt h0 k ?_).2
   rw[Ob.out,Gv.out];exact hk
  rw[Hb0.out];exact h1
 have adf:Hid (∀k,(Value.slice qP tn aI).ownBlock=some k->k≠Y):=fun k hk e=>by
  obtain⟨cur,hb⟩:=ownsRow.blk Jo.out hk;rw[e] at hb;exact absurd (hb.inj HR1.out.dU.blk).2 (by decide)
 have hK0:Fr (fun k=>(Value.slice qP tn aI).ownBlock=some k) w1 w1.drew:=(Fr.refl _ w1).drew
 have hnB:¬(Value.slice qP tn aI).ownBlock=some B:=fun h=>by
  have:=ade.out B h
  omega
 have hnY:¬(Value.slice qP tn aI).ownBlock=some Y:=fun h=>adf.out Y h rfl
 refine Ey Oq 11 (fun w''=>Fr (fun k=>(Value.slice qP tn aI).ownBlock=some k) w1 w'') 10 (by kernel_rfl) (by kernel_rfl) (by kernel_rfl) ?_
 refine bJ (i:=0) (d:=some 27) (v:=.pointer (some ⟨Y,0,none⟩)) (by kernel_rfl) (by kernel_rfl) (fun _ _ _ h=>h) (fun w'' hS=>by kernel_rfl) hK0 ?_
 refine bJ (i:=1) (d:=some 28) (v:=.pointer (some ⟨Y,0,none⟩)) (by kernel_rfl) (by kernel_rfl) (fun _ _ _ h=>h) (fun w'' hS=>by kernel_rfl) hK0 ?_
 refine bJ (i:=2) (d:=some 29) (v:=.pointer (some ⟨Y,0,none⟩)) (by kernel_rfl) (by kernel_rfl) (fun _ _ _ h=>h) (fun w'' hS=>by kernel_rfl) hK0 ?_
 refine bJ (i:=3) (d:=some 30) (v:=.pointer (some ⟨Y,3,none⟩)) (by kernel_rfl) (by kernel_rfl) (fun _ _ _ h=>h) (fun w'' hS=>by kernel_rfl) hK0 ?_
 refine bJ (i:=4) (d:=some 31) (v:=.slice qP tn aI) (by kernel_rfl) (by kernel_rfl) (fun _ _ _ h=>h) (fun w'' hS=>aj 80 (.tmp 30) (by kernel_rfl) (by kernel_rfl) (by kernel_rfl) ((hS.cell hYl hnY).trans d3)) hK0 ?_
 refine bJ (i:=5) (d:=some 32) (v:=.agg #[.slice vo vars.length ak,.slice ro rows.length au,.bool nt,.int .i64 way]) (by kernel_rfl) (by kernel_rfl) (fun _ _ _ h=>h) (fun w'' hS=>Ce 41 (.tmp 3) (by kernel_rfl) (by kernel_rfl) (by kernel_rfl) (by kernel_rfl) ((hS.cell hBl hnB).trans e0) ((hS.cell hBl hnB).trans e1) ((hS.cell hBl hnB).trans e2) ((hS.cell hBl hnB).trans e3)) hK0 ?_
 obtain⟨wa,Ot⟩:∃wa,w1.drew.alloc (.cells #[.slice vo vars.length ak,.slice ro rows.length au,.bool nt,.int .i64 way] 41)=wa:=⟨_,rfl⟩;have hfa:Nw w1 wa:=by rw[<-Ot];exact((Fr.refl _ w1).drew).alloc _
 have hba:af wa w1.heap.size #[.slice vo vars.length ak,.slice ro rows.length au,.bool nt,.int .i64 way] 41:=by rw[<-Ot];exact af.new _ _ _
 have hKa:Fr (fun k=>(Value.slice qP tn aI).ownBlock=some k) w1 wa:=hfa.mono (fun _ x=>x.elim)
 refine gI (i:=6) (d:=some 33) (v:=.slice (some ⟨w1.heap.size,0,none⟩) 1 1) (w':=wa) (by kernel_rfl) (by kernel_rfl) (by rw[<-Ot];kernel_rfl) (fun _=>hKa) ?_
 obtain⟨v',wb,hrun,hA1,hA2,hA3⟩:=xA (c:=1) (ys:=[.slice vo vars.length ak,.slice ro rows.length au,.bool nt,.int .i64 way]) (ev:=aaF (.slice qP tn aI) (.slice (some ⟨w1.heap.size,0,none⟩) 1 1)) (o:=opAt Oq 7) (w:=wa) 4 64 (.tmp 31) (.tmp 33) 80 (by kernel_rfl) (by kernel_rfl) (by kernel_rfl) Tryz.underlying80 hi0 hz0 hz1 hz2 rfl (by decide) (ownsRow.fr Jo.out hfa (fun _ _ x=>x)) rfl (EC hba) (by simp[Value.oneCell']) (by unfold maxLen;omega) (by omega)
 obtain⟨g',cap',rfl,hfb,hab,XC⟩:=adb hA1 hA2 hA3;have hKb:Fr (fun k=>(Value.slice qP tn aI).ownBlock=some k) w1 wb:=hKa.trans hfb (fun i h=>.inl h)
 refine gI (i:=7) (d:=some 34) (v:=.slice (some ⟨g',0,none⟩) (tn+1) cap') (w':=wb) (by kernel_rfl) (by kernel_rfl) (Eq.trans (yD (s:=.tmp 31) (y:=.tmp 33) (t:=80) (by kernel_rfl) (by kernel_rfl)) hrun) (fun _=>hKb) ?_
 have zW:=HR1.out.dU.blk.fr hKb hnY;refine gI (i:=8) (d:=some 35) (v:=.pointer (some ⟨Y,0,none⟩)) (w':=wb) (by kernel_rfl) (by kernel_rfl) (by kernel_rfl) (fun _=>hKb) ?_
 refine gI (i:=9) (d:=some 36) (v:=.pointer (some ⟨Y,3,none⟩)) (w':=wb) (by kernel_rfl) (by kernel_rfl) (by kernel_rfl) (fun _=>hKb) ?_
 refine BV (i:=10) (d:=none) (w':=wb.setCell ⟨Y,3,none⟩ (.slice (some ⟨g',0,none⟩) (tn+1) cap')) (by kernel_rfl) (by kernel_rfl) (jC (old:=R.tv) 80 (.tmp 36) (.tmp 34) (by kernel_rfl) (by kernel_rfl) (by kernel_rfl) rfl (by kernel_rfl) (zW.cell 3) (zW.free 3)) (fun h=>absurd rfl h) ?_
 refine pg (by kernel_rfl) (show _ from ?_) _
 simp only[Act.put,bQ,bW,bU];obtain⟨w2,hw2⟩:∃w2,wb.setCell ⟨Y,3,none⟩ (.slice (some ⟨g',0,none⟩) (tn+1) cap')=w2:=⟨_,rfl⟩;have hfs:Fr (fun k=>k=Y) wb w2:=by rw[<-hw2];exact(Fr.refl (fun k=>k=Y) wb).setCell _ _ (.inl rfl)
 have U5:g'≠Y:=fun e=>by
  obtain⟨cur,hb⟩:=ownsRow.blk hA1 (k:=g') rfl;rw[e] at hb;exact absurd (hb.inj zW).2 (by decide)
 have hblk2:af w2 Y #[R.az,R.now.inv,.bool R.now.dead,.slice (some ⟨g',0,none⟩) (tn+1) cap',R.lv] 83:=by
  rw[<-hw2];have:=zW.set 3 (.slice (some ⟨g',0,none⟩) (tn+1) cap')
  simpa using this
 have hr1:=HR1.out.dU;have hr2:pV w2 lo Y zs R.az R.now.inv R.now.vs R.now.bss R.now.dead (.slice (some ⟨g',0,none⟩) (tn+1) cap') R.lv:=by
  have hnT:∀{q:Nat} {cur:Array Value} {e:TypeId},af w1 q cur e->e≠41->¬(Value.slice qP tn aI).ownBlock=some q:=fun hq he h=>by
   obtain⟨cur',hb'⟩:=ownsRow.blk Jo.out h;exact he (hq.inj hb').2
  have QB:∀{q:Nat} {cur:Array Value} {e:TypeId},af wb q cur e->e≠83->¬q=Y:=fun hq he h=>by
   rw[h] at hq;exact he (hq.inj zW).2
  have b1:Row wb R.az 3 (zs.map (Value.int .i64)):=hr1.sz.fr hKb (fun k hk=>by
   obtain⟨cur,hb,_⟩:=hr1.sz.blk hk;exact hnT hb (by decide))
  have b2:Row wb R.now.inv 84 R.now.vs:=hr1.wW.fr hKb (fun k hk=>by
   obtain⟨cur,hb,_⟩:=hr1.wW.blk hk;exact hnT hb (by decide))
  have b3:eP wb lo R.now.vs R.now.bss:=hr1.rows.fr hKb (fun k cur hs hb=>hnT hb (by decide) hs)
  exact⟨hblk2,b1.fr hfs (fun k hk=>by
   obtain⟨cur,hb,_⟩:=b1.blk hk;exact QB hb (by decide)),b2.fr hfs (fun k hk=>by
   obtain⟨cur,hb,_⟩:=b2.blk hk;exact QB hb (by decide)),b3.fr hfs (fun k cur hs hb=>QB hb (by decide) hs),hr1.len,hr1.each,hr1.lJ,hr1.IM,hr1.yK,hr1.YL⟩
 have hown2:w2.ownsRow 0 41 4 (.slice (some ⟨g',0,none⟩) (tn+1) cap') (tn+1) (cells++[.slice vo vars.length ak,.slice ro rows.length au,.bool nt,.int .i64 way]):=ownsRow.fr hA1 hfs (fun k hk e=>by
  cases hk;exact U5 e)
 have htc:vw W (cells++[.slice vo vars.length ak,.slice ro rows.length au,.bool nt,.int .i64 way]) (R.ts++[⟨⟨vars,rows,nt⟩,way⟩]):=Ht2.out.snoc (by rw[Gv.out];exact Jo.out.1) ⟨⟨vars,rows,nt⟩,way⟩ vo ro ak au zV.out DZ.out
 have hlen:(R.ts++[(⟨⟨vars,rows,nt⟩,way⟩:jO)]).length=tn+1:=by rw[List.length_append,Gv.out];rfl
 have afy:=lK.out.size;have IV:lo<=g':=by
  rcases hab with h | h
  ·exact HR1.out.tlo g' (by rw[Ob.out,Gv.out];exact h)
  ·have:=hfa.size
   have:=Hf1.out.size
   omega
 have hR2:mF W w2 lo Y zs {R with tv:=.slice (some ⟨g',0,none⟩) (tn+1) cap',ts:=R.ts++[⟨⟨vars,rows,nt⟩,way⟩]}:=by
  refine⟨hr2,⟨_,by show w2.ownsRow 0 41 4 _ (R.ts++[(⟨⟨vars,rows,nt⟩,way⟩:jO)]).length _;rw[hlen];exact hown2,htc⟩,by show (R.ts++[(⟨⟨vars,rows,nt⟩,way⟩:jO)]).length<=12;rw[hlen];omega,fun i hi=>?_,?_,?_,HR1.out.l20,HR1.out.apart,fun k hk=>(by cases hk;exact IV),HR1.out.nP⟩
  ·have hi':i<tn+1:=by rw[<-hlen];exact hi
   by_cases he:i<R.ts.length
   ·have e1:(R.ts++[(⟨⟨vars,rows,nt⟩,way⟩:jO)]).getD i jk=R.ts.getD i jk:=by simp only[List.getD];rw[List.getElem?_append_left he]
    show bK zs ((R.ts++[(⟨⟨vars,rows,nt⟩,way⟩:jO)]).getD i jk).tb.vars _ _=true
    rw[e1];exact HR1.out.tok i he
   ·obtain rfl:i=R.ts.length:=by have:=Gv.out;omega
    have e1:(R.ts++[(⟨⟨vars,rows,nt⟩,way⟩:jO)]).getD R.ts.length jk=⟨⟨vars,rows,nt⟩,way⟩:=by simp[List.getD]
    show bK zs ((R.ts++[(⟨⟨vars,rows,nt⟩,way⟩:jO)]).getD R.ts.length jk).tb.vars _ _=true
    rw[e1];exact qU.out
  ·refine ownsRow.fr (ownsRow.fr HR1.out.ug hKb (fun k hk h=>?_)) hfs (fun k hk h=>?_)
   ·obtain⟨cur,hb⟩:=ownsRow.blk HR1.out.ug hk;obtain⟨cur',hb'⟩:=ownsRow.blk Jo.out h;exact absurd (hb.inj hb').2 (by decide)
   ·obtain⟨cur,hb⟩:=ownsRow.blk HR1.out.ug hk;rw[h] at hb;exact absurd (hb.inj hr1.blk).2 (by decide)
  ·intro l hl;have:l∈R.ls:=hl
   rw[Hls.out] at this;cases this
 have HR2:=hd hR2;have su:Fr (R.wr Y) w w2:=((Hf1.out.mono (fun _ x=>x.elim)).trans hKb (fun i hi=>.inl (.inr (.inr (.inl (by rw[Ob.out,Gv.out];exact hi)))))).trans hfs (fun i hi=>.inl (.inl hi))
 have Qz:=hd su;have afz:=hd (show R.tv.ownBlock=some g'\/w.heap.size<=g' from by
  rcases hab with h | h
  ·exact .inl (by rw[Ob.out,Gv.out];exact h)
  ·right
   have:=hfa.size
   have:=Hf1.out.size
   omega)
 have hW2:Nw W w2:=HW.out.trans su (fun i hi=>.inr (Nat.le_trans hlo (HR0.out.lo (.inl hi))))
 have U6:=hd (close_any W lo Y zs R.az R.now.inv R.now.vs R.now.bss R.now.dead (.slice (some ⟨g',0,none⟩) (tn+1) cap') R.lv (R.ts++[⟨⟨vars,rows,nt⟩,way⟩]) w2 hlo hW2 (by rw[hlen];omega) hR2.tok hr2 hR2.UD hR2.acS)
 rw[hw2];clear hR2 su hW2 hr2 hr1 hown2 htc hlen hblk2 U5 hfs hw2 zW hKb hfb hab XC hA1 hA2 hA3 hrun hKa hba hfa Ot hK0 hnB hnY d2 d3 d4 e0 e1 e2 e3 hYl hBl ade adf IV afy;go_wp2_with fail
 refine U6.out.mono ?_
 rintro e w3 ⟨rfl,b',h1,h2,h3,h4,h5⟩
 rw[Yn.out,Bool.false_or] at h1;have fQ:=hd (show ∃now tv d,mF W w3 lo Y zs {R with now:=now,tv:=tv,ts:=R.ts++[⟨⟨vars,rows,nt⟩,way⟩]}/\Fr (R.wr Y) w w3/\(∀k,RS.own Y {R with now:=now,tv:=tv,ts:=R.ts++[⟨⟨vars,rows,nt⟩,way⟩]} k->R.own Y k\/w.heap.size<=k)/\Dm d/\Closure zs.length ((R.ts++[(⟨⟨vars,rows,nt⟩,way⟩:jO)]).map jO.tb) (dR R.now.bss) d/\kM zs.length now d from by
  obtain⟨d,k1,k2,k3⟩:=BM (inv:=R.now.inv) (vs:=R.now.vs) (aF HR0.out.dU.lJ).1 h1.len h1.LM h1.b6 h3 h4;refine⟨_,_,d,HR2.out.YO h5 h1,Qz.out.trans h5 (fun i hi=>.inl (hi.elim .inl (fun h=>.inr (.inl h)))),fun k hk=>?_,k1,k2,k3⟩
  rcases hk with (rfl | hk | hk | hk) | hk | hk | hk
  ·exact .inl (.inl (.inl rfl))
  ·exact .inl (.inl (.inr (.inl hk)))
  ·cases hk;rcases afz.out with h | h
   ·exact .inl (.inl (.inr (.inr (.inl h))))
   ·exact .inr h
  ·exact .inl (.inl (.inr (.inr (.inr hk))))
  ·exact .inl (.inr (.inl hk))
  ·exact .inl (.inr (.inr (.inl hk)))
  ·exact .inl (.inr (.inr (.inr hk))))
 clear h1 h2 h3 h4 h5 U6;go_wp2_with fail
 go_ret
 exact⟨rfl,fQ.out⟩
structure Env (W w:World) (lo:Nat):Prop where
 base:W.heap.size<=lo
 nw:Nw W w
 le:lo<=w.heap.size
theorem Env.step {W w w':World} {lo:Nat} (h:Env W w lo) (f:Nw w w'):Env W w' lo:=⟨h.base,h.nw.trans f (fun _ x=>x.elim),Nat.le_trans h.le f.size⟩
def Next (bz:Bool) (W w w1:World) (lo X Y:Nat) (zs:List Int) (s:WS) (R:RS) (f:FuncId) (args:Array Value) (r:Value):Prop:=
 ∀w2,Nw w1 w2->Calls Tryz.prog f args w2 fun e w3=>e= .returned r/\∃s' R',Pair bz W w3 lo X Y zs s' R'/\Eu w w3 X Y s s' R R'/\Nw W w3
theorem tK {bz:Bool} {W w w1:World} {lo X Y:Nat} {zs:List Int} {s:WS} {R:RS} {f:FuncId} {args:Array Value} {r:Value} (hE:Env W w lo) (h:Pair bz W w lo X Y zs s R) (k:Nw w w1) (hc:∀w2,Nw w w2->Calls Tryz.prog f args w2 fun e w3=>e= .returned r/\Nw w2 w3):Next bz W w w1 lo X Y zs s R f args r:=fun w2 f2=>by
 have k2:=k.trans f2 (fun _ x=>x.elim)
 refine(hc w2 k2).mono ?_
 rintro e w3 ⟨rfl,f3⟩
 have k3:=k2.trans f3 (fun _ x=>x.elim)
 exact⟨rfl,s,R,h.nw k3,Eu.nw k3 X Y s R,hE.nw.trans k3 (fun _ x=>x.elim)⟩
theorem zB (zs:List Int) (d:List Nat) (v value:Int):(fD zs d v value=1/\¬(0<=v/\v<zs.length/\0<=value/\value<zs.getD v.toNat 0))\/(∃v' x':Nat,v=(v':Int)/\value=(x':Int)/\v'<zs.length/\(x':Int)<zs.getD v' 0/\fD zs d v value=if d.getD 0 0=0 then 3 else 0):=by
 unfold fD;by_cases h:0<=v/\v<zs.length/\0<=value/\value<zs.getD v.toNat 0
 ·rw[if_pos h];obtain⟨h1,h2,h3,h4⟩:=h;obtain⟨v',rfl⟩:∃v':Nat,v=(v':Int):=⟨v.toNat,by omega⟩
  obtain⟨x',rfl⟩:∃x':Nat,value=(x':Int):=⟨value.toNat,by omega⟩
  rw[Int.toNat_natCast] at h4;exact .inr ⟨v',x',rfl,rfl,by omega,h4,rfl⟩
 ·rw[if_neg h];exact .inl ⟨rfl,h⟩
theorem XE {W w:World} {lo X Y:Nat} {zs:List Int} {s:WS} {R:RS} (v value:Int) (hE:Env W w lo) (h:Pair false W w lo X Y zs s R):
  Calls Tryz.prog 56 #[.pointer (some ⟨X,0,none⟩),.int .i64 v,.int .i64 value] w fun e w1=>∃r:Int,e= .returned (.int .i64 r)/\Fr (s.own X) w w1/\Next false W w w1 lo X Y zs s R 58 #[.pointer (some ⟨Y,0,none⟩),.int .i64 v,.int .i64 value,.bool true] (.int .i64 r):=by
 have hpos:0<zs.length:=(aF h.at_.mem.lJ).1;rcases zB zs s.d v value with ⟨hf,hno⟩ | ⟨v,value,rfl,rfl,hv,hx,hf⟩
 ·refine(TZ X zs s v value w h.at_ h.busy (by rw[hf];decide)).mono ?_
  rintro e w1 ⟨rfl,rfl⟩
  rw[hf];refine⟨1,rfl,Fr.refl _ _,tK hE h (Fr.refl _ _) (fun w2 f2=>?_)⟩
  refine(zy lo Y zs R.az R.now.inv R.now.vs R.now.bss R.now.dead R.tv R.lv v value true w2 (h.ref.nw f2).dU hno).mono ?_
  rintro e w3 ⟨rfl,rfl⟩
  exact⟨rfl,Fr.refl _ _⟩
 ·by_cases h0:s.d.getD 0 0=0
  ·rw[if_pos h0] at hf;have hdd:=(h.now.iff hpos).1 h0;refine(TZ X zs s v value w h.at_ h.busy (by rw[hf];decide)).mono ?_
   rintro e w1 ⟨rfl,rfl⟩
   rw[hf];refine⟨3,rfl,Fr.refl _ _,tK hE h (Fr.refl _ _) (fun w2 f2=>?_)⟩
   have hr:=(h.ref.nw f2).dU;rw[hdd] at hr;refine(xh lo Y zs R.az R.now.inv R.now.vs R.now.bss R.tv R.lv v value true w2 hr hv hx).mono ?_
   rintro e w3 ⟨rfl,rfl⟩
   exact⟨rfl,Fr.refl _ _⟩
  ·rw[if_neg h0] at hf;obtain⟨hdd,hsd⟩:R.now.dead=false/\s.d=dR R.now.bss:=by
    rcases h.now with ⟨h1,h2⟩ | ⟨h1,h2,_⟩
    ·rw[h2,gG] at h0;exact absurd rfl h0
    ·exact⟨h1,h2⟩
   refine(Xk X zs s v value w h.at_ h.busy hf).mono ?_
   rintro e w1 ⟨rfl,d',bv,ts,us,h1,h2,h3,h4⟩
   have hW1:Nw W w1:=hE.nw.trans h4.fr (fun i hi=>.inr (Nat.le_trans hE.base (h.xlo i hi)))
   refine⟨0,rfl,h4.fr,fun w2 f2=>?_⟩
   refine(I8 hE.base (hW1.trans f2 (fun _ x=>x.elim)) (h.mid h4 f2) hdd hv hx).mono ?_
   rintro e w3 ⟨rfl,now,d,k1,k2,k3,k4,k5,k6⟩
   refine⟨rfl,_,_,h.join hE.base hE.nw hE.le h3 h4 f2 k1 k2 rfl (fun q hq=>.inl (k3 q hq)) h.busy ?_ h.tabs h.ku⟩
   have hr:=h.ref.dU;rw[L6 hr.LM hr.b6 (by rw[hr.len];exact hv) (by rw[hr.each v hv];exact Nat.le_refl _),<-hsd,<-h.tabs] at k5
   rw[show (s.set d' bv ts us).d=d from h1.one h2 k4 k5]
   exact k6
theorem MM {W w:World} {lo X Y:Nat} {zs:List Int} {s:WS} {R:RS} (v value:Int) (hE:Env W w lo) (h:Pair false W w lo X Y zs s R):
  Calls Tryz.prog 13 #[.pointer (some ⟨X,0,none⟩),.int .i64 v,.int .i64 value] w fun e w1=>∃r:Int,e= .returned (.int .i64 r)/\Fr (s.own X) w w1/\Next false W w w1 lo X Y zs s R 58 #[.pointer (some ⟨Y,0,none⟩),.int .i64 v,.int .i64 value,.bool false] (.int .i64 r):=by
 have hpos:0<zs.length:=(aF h.at_.mem.lJ).1;rcases zB zs s.d v value with ⟨hf,hno⟩ | ⟨v,value,rfl,rfl,hv,hx,hf⟩
 ·refine(Eh X zs s v value w h.at_ h.busy (by rw[hf];decide)).mono ?_
  rintro e w1 ⟨rfl,rfl⟩
  rw[hf];refine⟨1,rfl,Fr.refl _ _,tK hE h (Fr.refl _ _) (fun w2 f2=>?_)⟩
  refine(zy lo Y zs R.az R.now.inv R.now.vs R.now.bss R.now.dead R.tv R.lv v value false w2 (h.ref.nw f2).dU hno).mono ?_
  rintro e w3 ⟨rfl,rfl⟩
  exact⟨rfl,Fr.refl _ _⟩
 ·by_cases h0:s.d.getD 0 0=0
  ·rw[if_pos h0] at hf;have hdd:=(h.now.iff hpos).1 h0;refine(Eh X zs s v value w h.at_ h.busy (by rw[hf];decide)).mono ?_
   rintro e w1 ⟨rfl,rfl⟩
   rw[hf];refine⟨3,rfl,Fr.refl _ _,tK hE h (Fr.refl _ _) (fun w2 f2=>?_)⟩
   have hr:=(h.ref.nw f2).dU;rw[hdd] at hr;refine(xh lo Y zs R.az R.now.inv R.now.vs R.now.bss R.tv R.lv v value false w2 hr hv hx).mono ?_
   rintro e w3 ⟨rfl,rfl⟩
   exact⟨rfl,Fr.refl _ _⟩
  ·rw[if_neg h0] at hf;obtain⟨hdd,hsd⟩:R.now.dead=false/\s.d=dR R.now.bss:=by
    rcases h.now with ⟨h1,h2⟩ | ⟨h1,h2,_⟩
    ·rw[h2,gG] at h0;exact absurd rfl h0
    ·exact⟨h1,h2⟩
   refine(BD X zs s v value w h.at_ h.busy hf).mono ?_
   rintro e w1 ⟨rfl,d',bv,ts,us,h1,h2,h3,h4⟩
   have hW1:Nw W w1:=hE.nw.trans h4.fr (fun i hi=>.inr (Nat.le_trans hE.base (h.xlo i hi)))
   refine⟨0,rfl,h4.fr,fun w2 f2=>?_⟩
   refine(I8 hE.base (hW1.trans f2 (fun _ x=>x.elim)) (h.mid h4 f2) hdd hv hx).mono ?_
   rintro e w3 ⟨rfl,now,d,k1,k2,k3,k4,k5,k6⟩
   refine⟨rfl,_,_,h.join hE.base hE.nw hE.le h3 h4 f2 k1 k2 rfl (fun q hq=>.inl (k3 q hq)) h.busy ?_ h.tabs h.ku⟩
   have hr:=h.ref.dU;rw[L8 hr.LM hr.b6 (by rw[hr.len];exact hv) (by omega),<-hsd,<-h.tabs] at k5
   rw[show (s.set d' bv ts us).d=d from h1.one h2 k4 k5]
   exact k6
theorem U7:∀(L:List RL),(L.flatMap RL.cells).length=L.length*2
 | []=>rfl
 | l::L=>by
  rw[List.flatMap_cons,List.length_append,U7 L,List.length_cons];show 2+_=_
  omega
theorem XF {W w:World} {lo Y:Nat} {zs:List Int} {R:RS} {l:RL} {ls:List RL} (h:mF W w lo Y zs R) (hl:R.ls=l::ls):
  Calls Tryz.prog 64 #[.pointer (some ⟨Y,0,none⟩)] w fun e w'=>e= .returned (.int .i64 0)/\∃vP,mF W w' lo Y zs {R with now:=l,lv:=vP,ls:=ls}/\Fr (R.wr Y) w w'/\(∀k,RS.own Y {R with now:=l,lv:=vP,ls:=ls} k->R.own Y k):=by
 have hlr:=h.ug;rw[hl,List.length_cons,List.reverse_cons,List.flatMap_append] at hlr;have hcut:=U7 ls.reverse;rw[List.length_reverse] at hcut;have hlL:=h.ku l (by rw[hl];simp)
 have hz:=aF h.dU.lJ;obtain⟨lg,gp,hlv,ahc,hcap,c0⟩:=tC hlr (ls.length*2) (by omega)
 obtain⟨_,_,aaG,_,_,c1⟩:=tC hlr (ls.length*2+1) (by omega)
 rw[hlv] at aaG;simp only[Value.slice.injEq,Option.some.injEq,Addr.mk.injEq,and_true,true_and] at aaG;rw[<-aaG.1] at c1;rw[List.getElem?_append_right (by omega),hcut,Nat.sub_self] at c0
 rw[List.getElem?_append_right (by omega),hcut,Nat.add_sub_cancel_left] at c1
 have c0':w.cell? ⟨lg,ls.length*2,none⟩=some l.inv:=c0
 have c1':w.cell? ⟨lg,ls.length*2+1,none⟩=some (.bool l.dead):=c1
 have hb:=h.dU.blk;obtain⟨io,ic,hif,hio⟩:=hlL.wW.form;have hvl:0<l.vs.length:=by rw[hlL.rows.len,hlL.len];exact hz.1
 obtain⟨ig,icap,hig,_⟩:∃ig icap,l.inv= .slice (some ⟨ig,0,none⟩) l.vs.length icap/\True:=by
  obtain⟨g,c,he,_⟩:=hlL.wW.cell 0 hvl;exact⟨g,c,he,trivial⟩
 rw[hig] at c0';rw[hlv] at hb;have h20:=h.l20;rw[hl,List.length_cons] at h20;have Xx:lg≠Y:=fun e=>by
  obtain⟨cur,hb'⟩:=ownsRow.blk hlr (k:=lg) (by rw[hlv];rfl)
  rw[e] at hb';exact absurd (hb'.inj hb).2 (by decide)
 refine(Md Y R.az R.now.inv R.tv R.now.dead l.dead lg ls.length gp ig l.vs.length icap w hb Xx c0' c1' (by omega) hcap).mono ?_
 rintro e w' ⟨rfl,hB,hF⟩
 obtain⟨cells,t1,t2⟩:=h.tabs;have hYn:∀{q:Nat} {cur:Array Value} {e:TypeId},af w q cur e->e≠83->¬q=Y:=fun hq he e=>by
  rw[e] at hq;exact he (hq.inj hb).2
 have hLf:∀l'∈R.ls,yL w' lo zs l':=fun l' hl'=>(h.ku l' hl').fr hF (fun k hk=>by
  obtain⟨cur,hb'⟩:=(h.ku l' hl').bool hk;exact hYn hb' (by decide)) (fun k hk=>by
  obtain⟨cur,hb',_⟩:=(h.ku l' hl').wW.blk hk;exact hYn hb' (by decide))
 have hl':=hLf l (by rw[hl];simp)
 rw[hlv] at hlr;refine⟨rfl,.slice (some ⟨lg,0,none⟩) ls.length gp,⟨?_,⟨cells,ownsRow.fr t1 hF (fun k hk=>?_),t2⟩,h.t12,h.tok,?_,fun l' hl'=>hLf l' (by rw[hl];simp[hl']),by show ls.length<=20;omega,?_,h.tlo,fun k hk=>h.nP k (by rw[hlv];exact hk)⟩,hF.mono (fun q hq=>.inl (.inl hq)),fun k hk=>?_⟩
 ·rw[<-hig] at hB;exact⟨hB,h.dU.sz.fr hF (fun k hk=>by
   obtain⟨cur,hb',_⟩:=h.dU.sz.blk hk;exact hYn hb' (by decide)),hl'.wW,hl'.rows,hl'.len,hl'.each,h.dU.lJ,h.dU.IM,hl'.yK,h.dU.YL⟩
 ·obtain⟨cur,hb'⟩:=ownsRow.blk t1 hk;exact hYn hb' (by decide)
 ·refine ownsRow.fr (UC hlr (by rw[U7,List.length_reverse])) hF (fun k hk=>?_)
  obtain⟨cur,hb'⟩:=ownsRow.blk hlr (k:=k) (by cases hk;rfl)
  exact hYn hb' (by decide)
 ·have:=h.apart
  rw[hl] at this;exact(List.pairwise_cons.1 this).2
 ·rcases hk with (rfl | hk | hk | hk) | hk | hk | ⟨l',hl',hk⟩
  ·exact .inl (.inl rfl)
  ·exact .inr (.inr (.inr ⟨l,by rw[hl];simp,.inl hk⟩))
  ·exact .inl (.inr (.inr (.inl hk)))
  ·exact .inl (.inr (.inr (.inr (by rw[hlv];exact hk))))
  ·exact .inr (.inl hk)
  ·exact .inr (.inr (.inr ⟨l,by rw[hl];simp,.inr hk⟩))
  ·exact .inr (.inr (.inr ⟨l',by rw[hl];exact List.mem_cons_of_mem _ hl',hk⟩))
theorem XG {W w:World} {lo X Y:Nat} {zs:List Int} {s:WS} {R:RS} (hE:Env W w lo) (h:Pair false W w lo X Y zs s R):
  Calls Tryz.prog 62 #[.pointer (some ⟨X,0,none⟩)] w fun e w1=>∃r:Int,e= .returned (.int .i64 r)/\Fr (s.own X) w w1/\Next false W w w1 lo X Y zs s R 64 #[.pointer (some ⟨Y,0,none⟩)] (.int .i64 r):=by
 have kS:=h.ku;cases hls:R.ls with
 | nil=>
  rw[hls] at kS;have hsk:s.sk=[]:=List.eq_nil_of_length_eq_zero (by rw[<-kS.len];rfl)
  refine(Xn X zs s w h.at_ h.busy hsk).mono ?_
  rintro e w1 ⟨rfl,rfl⟩
  refine⟨4,rfl,Fr.refl _ _,tK hE h (Fr.refl _ _) (fun w2 f2=>?_)⟩
  have hr:=(h.ref.nw f2).dU.blk;obtain⟨nP,gp,hlv⟩:=iQ h.ref.ug;rw[hlv,hls] at hr;refine(Qe Y R.az R.now.inv R.tv R.now.dead nP gp w2 hr).mono ?_
  rintro e w3 ⟨rfl,rfl⟩
  exact⟨rfl,Fr.refl _ _⟩
 | cons l ls=>
  rw[hls] at kS;cases hsk:s.sk with
  | nil=>
   rw[hsk] at kS;exact kS.elim
  | cons p r=>
   rw[hsk] at kS;obtain⟨n,p⟩:=p;refine(Ul X zs s n p r w h.at_ h.busy hsk).mono ?_
   rintro e w1 ⟨rfl,ts,bv,sv,h1,h2,h3,h4⟩
   have hW1:Nw W w1:=hE.nw.trans h4.fr (fun i hi=>.inr (Nat.le_trans hE.base (h.xlo i hi)))
   refine⟨0,rfl,h4.fr,fun w2 f2=>?_⟩
   refine(XF (h.mid h4 f2) hls).mono ?_
   rintro e w3 ⟨rfl,vP,k1,k2,k3⟩
   exact⟨rfl,_,_,h.join hE.base hE.nw hE.le h3 h4 f2 k1 k2 rfl (fun q hq=>.inl (k3 q hq)) h.busy kS.1 h.tabs kS.2⟩
end Go.Proofs.YtkjfpdfkcfgfkaaGreat
namespace Go.Proofs.YtkjfpdfkcfgfkaaGreat
open Go.RowKit
theorem Tryz.MN:(Tryz.prog.info? 147).map (fun i=>(i.zero,i.size,i.bytes))=some (some (.agg #[.slice none 0 0,.bool false]),2,32):=by kernel_rfl
section
variable {P:Program} {Q:Exit->Act->World->Prop} {S:World->Prop} {ops:Array Oper}
theorem QC {z i:Nat} {d:Option Tmp} {fuel:Nat} {listed:Array Bool} {a:Act} {w w':World} {f:FuncId} {args:Array Value} (hB:pM ops listed i d=true) (hw:Region.wanted (opAt ops i) (yielded ops a.tmps)=true)
  (hr:(execOp a.eval (opAt ops i)).run P w= .ok (.enter f args) w')
  (h:Calls P f args w' (fun e w''=>∃v,e= .returned v/\(i≠z->S w'')/\gK P .any ops Q S z fuel (listed.setIfInBounds i true) (a.put d v) w'')):gK P .any ops Q S z (fuel+1) listed a w:=by
 simp only[pM,Bool.and_eq_true,decide_eq_true_eq] at hB;obtain⟨⟨h3,h4⟩,h5⟩:=hB;subst h5;exact fF h3 (dF (jK h4) hw hr h)
end
noncomputable def Ou:Array Oper:=gU Tryz.f63 3
def aaH (x y:Value):Operand->Value
 | .tmp 13=>x
 | .tmp _=>y
 | _=>undef
set_option maxRecDepth 1000000 in
theorem MO (Y:Nat) (az inv tv:Value) (dead:Bool) (nP:Option Addr) (gp:Nat) (w:World) (hb:af w Y #[az,inv,.bool dead,tv,.slice nP 20 gp] 83):
  Calls Tryz.prog 63 #[.pointer (some ⟨Y,0,none⟩)] w fun e w'=>e= .returned (.int .i64 2)/\w'=w:=by
 have c4:w.cell? ⟨Y,4,none⟩=some (.slice nP 20 gp):=hb.cell 4
 have hYl:=hb.lt;go_enter Tryz.func63,Tryz.ntmps63
 go_wp2_with fail
 go_ret
 exact⟨rfl,rfl⟩
set_option maxRecDepth 1000000 in
theorem Jp (W:World) (lo Y:Nat) (zs:List Int) (R:RS) (w:World) (Qh:lo<=w.heap.size) (hR:mF W w lo Y zs R) (h20:R.ls.length<20):
  Calls Tryz.prog 63 #[.pointer (some ⟨Y,0,none⟩)] w fun e w'=>e= .returned (.int .i64 0)/\∃lv inv vs,mF W w' lo Y zs {R with lv:=lv,ls:=⟨inv,vs,R.now.bss,R.now.dead⟩::R.ls}/\Fr (R.wr Y) w w'/\(∀k,RS.own Y {R with lv:=lv,ls:=⟨inv,vs,R.now.bss,R.now.dead⟩::R.ls} k->R.own Y k\/w.heap.size<=k):=by
 obtain⟨nP,gp,hlv⟩:=iQ hR.ug;obtain⟨io,icap,hio,Oe,Oc⟩:=hR.dU.BG;obtain⟨i0,hi0,hz0,hz1,hz2⟩:=info_parts Tryz.MN;have h1:w.cell? ⟨Y,4,none⟩=some (.slice nP R.ls.length gp):=by
  have:=hR.dU.blk.cell 4
  rw[hlv] at this;exact this
 have h2:w.cell? ⟨Y,2,none⟩=some (.bool R.now.dead):=hR.dU.blk.cell 2
 have h6:∀u,u<R.now.bss.length->1<=(R.now.bss.getD u []).length/\(R.now.bss.getD u []).length<=6:=fun u hu=>⟨by
  rw[hR.dU.each u (by rw[<-hR.dU.len];exact hu)]
  have:=(fJ hR.dU.lJ u (by rw[<-hR.dU.len];exact hu)).1
  omega,hR.dU.b6 u hu⟩
 have HBR:=hd Oe;have H6:=hd h6;have H8:=hd hR.dU.LM;have HR:=hd hR;have Hlv:=hd hlv;have hYl:=hR.dU.blk.lt;obtain⟨n,hn⟩:∃n,R.ls.length=n:=⟨_,rfl⟩;obtain⟨bss,aaI⟩:∃bss,R.now.bss=bss:=⟨_,rfl⟩;obtain⟨dead,Ej⟩:∃dead,R.now.dead=dead:=⟨_,rfl⟩;rw[hn] at h1 h20 Hlv;rw[aaI] at Oc HBR H6 H8;rw[Ej] at h2;have Hn:=hd hn;have afA:=hd aaI;have Em:=hd Ej;have Xx:¬(Value.slice nP n gp).ownBlock=some Y:=fun h=>by
  obtain⟨cur,hb⟩:=ownsRow.blk hR.ug (k:=Y) (by rw[Hlv.out];exact h)
  exact absurd (hb.inj hR.dU.blk).2 (by decide)
 have hln:¬((20:Int)<=(n:Int)):=by omega
 clear hR Oe h6 hlv hn aaI Ej;go_enter Tryz.func63,Tryz.ntmps63
 go_wp2_with fail
 have hK0:Fr (fun k=>(Value.slice nP n gp).ownBlock=some k) w w.drew:=(Fr.refl _ w).drew
 refine Ey Ou 20 (fun w''=>Fr (fun k=>(Value.slice nP n gp).ownBlock=some k) w w'') 19 (by kernel_rfl) (by kernel_rfl) (by kernel_rfl) ?_
 refine bJ (i:=0) (d:=some 9) (v:=.pointer (some ⟨Y,0,none⟩)) (by kernel_rfl) (by kernel_rfl) (fun _ _ _ h=>h) (fun w'' hS=>by kernel_rfl) hK0 ?_
 refine bJ (i:=1) (d:=some 10) (v:=.pointer (some ⟨Y,0,none⟩)) (by kernel_rfl) (by kernel_rfl) (fun _ _ _ h=>h) (fun w'' hS=>by kernel_rfl) hK0 ?_
 refine bJ (i:=2) (d:=some 11) (v:=.pointer (some ⟨Y,0,none⟩)) (by kernel_rfl) (by kernel_rfl) (fun _ _ _ h=>h) (fun w'' hS=>by kernel_rfl) hK0 ?_
 refine bJ (i:=3) (d:=some 12) (v:=.pointer (some ⟨Y,4,none⟩)) (by kernel_rfl) (by kernel_rfl) (fun _ _ _ h=>h) (fun w'' hS=>by kernel_rfl) hK0 ?_
 refine bJ (i:=4) (d:=some 13) (v:=.slice nP n gp) (by kernel_rfl) (by kernel_rfl) (fun _ _ _ h=>h) (fun w'' hS=>aj 81 (.tmp 12) (by kernel_rfl) (by kernel_rfl) (by kernel_rfl) ((hS.cell hYl Xx).trans h1)) hK0 ?_
 refine bJ (i:=5) (d:=some 14) (v:=.pointer (some ⟨Y,0,none⟩)) (by kernel_rfl) (by kernel_rfl) (fun _ _ _ h=>h) (fun w'' hS=>by kernel_rfl) hK0 ?_
 refine bJ (i:=6) (d:=some 15) (v:=.pointer (some ⟨Y,0,none⟩)) (by kernel_rfl) (by kernel_rfl) (fun _ _ _ h=>h) (fun w'' hS=>by kernel_rfl) hK0 ?_
 refine bJ (i:=7) (d:=some 16) (v:=.pointer (some ⟨Y,1,none⟩)) (by kernel_rfl) (by kernel_rfl) (fun _ _ _ h=>h) (fun w'' hS=>by kernel_rfl) hK0 ?_
 refine bJ (i:=8) (d:=some 17) (v:=.slice io bss.length icap) (by kernel_rfl) (by kernel_rfl) (fun _ _ _ h=>h) (fun w'' hS=>aj 79 (.tmp 16) (by kernel_rfl) (by kernel_rfl) (by kernel_rfl) ((hS.cell hYl Xx).trans Oc)) hK0 ?_
 refine bJ (i:=10) (d:=some 19) (v:=.pointer (some ⟨Y,0,none⟩)) (by kernel_rfl) (by kernel_rfl) (fun _ _ _ h=>h) (fun w'' hS=>by kernel_rfl) hK0 ?_
 refine bJ (i:=11) (d:=some 20) (v:=.pointer (some ⟨Y,0,none⟩)) (by kernel_rfl) (by kernel_rfl) (fun _ _ _ h=>h) (fun w'' hS=>by kernel_rfl) hK0 ?_
 refine bJ (i:=12) (d:=some 21) (v:=.pointer (some ⟨Y,2,none⟩)) (by kernel_rfl) (by kernel_rfl) (fun _ _ _ h=>h) (fun w'' hS=>by kernel_rfl) hK0 ?_
 refine bJ (i:=13) (d:=some 22) (v:=.bool dead) (by kernel_rfl) (by kernel_rfl) (fun _ _ _ h=>h) (fun w'' hS=>aj 4 (.tmp 21) (by kernel_rfl) (by kernel_rfl) (by kernel_rfl) ((hS.cell hYl Xx).trans h2)) hK0 ?_
 refine QC (i:=9) (d:=some 18) (w':=w.drew) (f:=84) (args:=#[.slice io bss.length icap]) (by kernel_rfl) (by kernel_rfl) (by kernel_rfl) ?_
 have hdr:Nw w w.drew:=(Fr.refl _ w).drew;refine(Mc io icap bss w.drew H8.out H6.out (HBR.out.nw hdr)).mono ?_
 rintro e w1 ⟨v1,rfl,vs1,hM,hI⟩
 have hf1:Nw w w1:=hdr.trans hM.nw (fun _ x=>x.elim)
 have hK1:Fr (fun k=>(Value.slice nP n gp).ownBlock=some k) w w1:=hf1.mono (fun _ x=>x.elim)
 obtain⟨o1,c1,hv1,_⟩:=hM.row.form;have agC:v1.oneCell'=true:=by rw[hv1];rfl
 refine⟨v1,rfl,fun _=>hK1,?_⟩
 subst hv1;refine gI (i:=14) (d:=some 23) (v:=.agg #[.slice o1 vs1.length c1,.bool dead]) (w':=w1) (by kernel_rfl) (by kernel_rfl) (by kernel_rfl) (fun _=>hK1) ?_
 obtain⟨wa,Ot⟩:∃wa,w1.alloc (.cells #[.slice o1 vs1.length c1,.bool dead] 147)=wa:=⟨_,rfl⟩;have hfa:Nw w1 wa:=by rw[<-Ot];exact(Fr.refl _ w1).alloc _
 have hba:af wa w1.heap.size #[.slice o1 vs1.length c1,.bool dead] 147:=by rw[<-Ot];exact af.new _ _ _
 have QD:Nw w wa:=hf1.trans hfa (fun _ x=>x.elim)
 have hKa:Fr (fun k=>(Value.slice nP n gp).ownBlock=some k) w wa:=QD.mono (fun _ x=>x.elim)
 refine gI (i:=15) (d:=some 24) (v:=.slice (some ⟨w1.heap.size,0,none⟩) 1 1) (w':=wa) (by kernel_rfl) (by kernel_rfl) (by rw[<-Ot];kernel_rfl) (fun _=>hKa) ?_
 have hown:wa.ownsRow 0 147 2 (.slice nP n gp) n (R.ls.reverse.flatMap RL.cells):=by
  have:=ownsRow.fr HR.out.ug QD (fun _ _ x=>x)
  rw[Hlv.out,Hn.out] at this;exact this
 obtain⟨v',wb,hrun,hA1,hA2,hA3⟩:=xA (c:=1) (ys:=[.slice o1 vs1.length c1,.bool dead]) (ev:=aaH (.slice nP n gp) (.slice (some ⟨w1.heap.size,0,none⟩) 1 1)) (o:=opAt Ou 16) (w:=wa) 2 32 (.tmp 13) (.tmp 24) 81 (by kernel_rfl) (by kernel_rfl) (by kernel_rfl) Tryz.underlying81 hi0 hz0 hz1 hz2 rfl (by decide) hown rfl (EC hba) (by simp[Value.oneCell']) (by unfold maxLen;omega) (by omega)
 obtain⟨g',cap',rfl,hfb,hab,XC⟩:=adb hA1 hA2 hA3;have hKb:Fr (fun k=>(Value.slice nP n gp).ownBlock=some k) w wb:=hKa.trans hfb (fun i h=>.inl h)
 refine gI (i:=16) (d:=some 25) (v:=.slice (some ⟨g',0,none⟩) (n+1) cap') (w':=wb) (by kernel_rfl) (by kernel_rfl) (Eq.trans (yD (s:=.tmp 13) (y:=.tmp 24) (t:=81) (by kernel_rfl) (by kernel_rfl)) hrun) (fun _=>hKb) ?_
 have zW:=HR.out.dU.blk.fr hKb Xx;refine gI (i:=17) (d:=some 26) (v:=.pointer (some ⟨Y,0,none⟩)) (w':=wb) (by kernel_rfl) (by kernel_rfl) (by kernel_rfl) (fun _=>hKb) ?_
 refine gI (i:=18) (d:=some 27) (v:=.pointer (some ⟨Y,4,none⟩)) (w':=wb) (by kernel_rfl) (by kernel_rfl) (by kernel_rfl) (fun _=>hKb) ?_
 refine BV (i:=19) (d:=none) (w':=wb.setCell ⟨Y,4,none⟩ (.slice (some ⟨g',0,none⟩) (n+1) cap')) (by kernel_rfl) (by kernel_rfl) (jC (old:=R.lv) 81 (.tmp 27) (.tmp 25) (by kernel_rfl) (by kernel_rfl) (by kernel_rfl) rfl (by kernel_rfl) (zW.cell 4) (zW.free 4)) (fun h=>absurd rfl h) ?_
 refine pg (by kernel_rfl) (show _ from ?_) _
 simp only[Act.put,bQ,bW,bU];obtain⟨w2,hw2⟩:∃w2,wb.setCell ⟨Y,4,none⟩ (.slice (some ⟨g',0,none⟩) (n+1) cap')=w2:=⟨_,rfl⟩;have hfs:Fr (fun k=>k=Y) wb w2:=by rw[<-hw2];exact(Fr.refl (fun k=>k=Y) wb).setCell _ _ (.inl rfl)
 have U5:g'≠Y:=fun e=>by
  obtain⟨cur,hb⟩:=ownsRow.blk hA1 (k:=g') rfl;rw[e] at hb;exact absurd (hb.inj zW).2 (by decide)
 have hblk2:af w2 Y #[R.az,R.now.inv,.bool R.now.dead,R.tv,.slice (some ⟨g',0,none⟩) (n+1) cap'] 83:=by
  rw[<-hw2];have:=zW.set 4 (.slice (some ⟨g',0,none⟩) (n+1) cap')
  simpa using this
 -- what is neither Y nor the levels' block stays
 have hnT:∀{q:Nat} {cur:Array Value} {e:TypeId},af wa q cur e->e≠147->¬(Value.slice nP n gp).ownBlock=some q:=fun hq he h=>by
  obtain⟨cur',hb'⟩:=ownsRow.blk hown h;exact he (hq.inj hb').2
 have QB:∀{q:Nat} {cur:Array Value} {e:TypeId},af wb q cur e->e≠83->¬q=Y:=fun hq he h=>by
  rw[h] at hq;exact he (hq.inj zW).2
 have keepR:∀{v:Value} {e:TypeId} {sz k:Nat} {xs:List Value},wa.ownsRow 0 e sz v k xs->e≠147->e≠83->w2.ownsRow 0 e sz v k xs:=fun {v e sz k xs} h h1 h2=>by
  have hb:wb.ownsRow 0 e sz v k xs:=ownsRow.fr h hfb (fun q hq=>by
   obtain⟨cur,hb⟩:=ownsRow.blk h hq;exact hnT hb h1)
  exact ownsRow.fr hb hfs (fun q hq=>by
   obtain⟨cur,hb'⟩:=ownsRow.blk hb hq;exact QB hb' h2)
 have Ov:∀{l:RL},yL wa lo zs l->yL w2 lo zs l:=fun {l} h=>⟨keepR h.wW (by decide) (by decide),⟨h.rows.len,fun i hi=>keepR (h.rows.row i hi) (by decide) (by decide),h.rows.ne,h.rows.lo⟩,h.len,h.each,h.yK⟩
 have hRa:=HR.out.nw QD;have Dy:=Ov hRa.dU.uz;have hnew:yL w2 lo zs ⟨.slice o1 vs1.length c1,vs1,R.now.bss,R.now.dead⟩:=by
  have hI2:eP w1 lo vs1 R.now.bss:=by
   rw[afA.out];exact⟨hI.len,hI.row,hI.ne,fun i hi k hk=>Nat.le_trans Qh (hI.lo i hi k hk)⟩
  exact Ov ⟨hM.row.nw hfa,hI2.fr hfa (fun _ _ x=>x.elim),HR.out.dU.len,HR.out.dU.each,fun k hk=>Nat.le_trans Qh (hM.since k hk)⟩
 obtain⟨cells,t1,t2⟩:=hRa.tabs;have IV:lo<=g':=by
  rcases hab with h | h
  ·exact HR.out.nP g' (by rw[Hlv.out];exact h)
  ·have:=QD.size
   omega
 have Ae:∀k,RL.has ⟨.slice o1 vs1.length c1,vs1,R.now.bss,R.now.dead⟩ k->w.heap.size<=k:=fun k ⟨u,hu,hk⟩=>hI.lo u (by rw[<-hI.len];exact hu) k hk
 have hR2:mF W w2 lo Y zs {R with lv:=.slice (some ⟨g',0,none⟩) (n+1) cap',ls:=⟨.slice o1 vs1.length c1,vs1,R.now.bss,R.now.dead⟩::R.ls}:=by
  refine⟨⟨hblk2,keepR hRa.dU.sz (by decide) (by decide),Dy.wW,Dy.rows,Dy.len,Dy.each,HR.out.dU.lJ,HR.out.dU.IM,HR.out.dU.yK,HR.out.dU.YL⟩,⟨cells,keepR t1 (by decide) (by decide),t2⟩,HR.out.t12,HR.out.tok,?_,?_,?_,?_,HR.out.tlo,fun k hk=>(by cases hk;exact IV)⟩
  ·show w2.ownsRow 0 147 2 _ (R.ls.length+1) ((_::R.ls).reverse.flatMap RL.cells)
   rw[Hn.out,List.reverse_cons,List.flatMap_append];have:=ownsRow.fr hA1 hfs (fun k hk e=>by
    cases hk;exact U5 e)
   rw[<-Em.out] at this;exact this
  ·intro l hl;rcases List.mem_cons.1 hl with rfl | hl
   ·exact hnew
   ·exact Ov (hRa.ku l hl)
  ·show R.ls.length+1<=20
   rw[Hn.out];omega
  ·have ha:=List.pairwise_cons.1 HR.out.apart;refine List.pairwise_cons.2 ⟨fun b hb=>?_,List.pairwise_cons.2 ⟨fun b hb k hk hbk=>?_,ha.2⟩⟩
   ·rcases List.mem_cons.1 hb with rfl | hb
    ·intro k hk hbk;obtain⟨cur,hbl⟩:=HR.out.dU.uz.bool hk;have:=hbl.lt
     have:=Ae k hbk
     omega
    ·exact ha.1 b hb
   ·obtain⟨cur,hbl⟩:=(HR.out.ku b hb).bool hbk;have:=hbl.lt
    have:=Ae k hk
    omega
 have fQ:=hd (show ∃lv inv vs,mF W w2 lo Y zs {R with lv:=lv,ls:=⟨inv,vs,R.now.bss,R.now.dead⟩::R.ls}/\Fr (R.wr Y) w w2/\(∀k,RS.own Y {R with lv:=lv,ls:=⟨inv,vs,R.now.bss,R.now.dead⟩::R.ls} k->R.own Y k\/w.heap.size<=k) from by
  refine⟨_,_,_,hR2,(hKb.mono (fun i hi=>.inl (.inr (.inr (.inr (by rw[Hlv.out];exact hi)))))).trans hfs (fun i hi=>.inl (.inl hi)),fun k hk=>?_⟩
  rcases hk with (rfl | hk | hk | hk) | hk | hk | ⟨l,hl,hk⟩
  ·exact .inl (.inl (.inl rfl))
  ·exact .inl (.inl (.inr (.inl hk)))
  ·exact .inl (.inl (.inr (.inr (.inl hk))))
  ·cases hk;rcases hab with h | h
   ·exact .inl (.inl (.inr (.inr (.inr (by rw[Hlv.out];exact h)))))
   ·right
    have:=QD.size
    show w.heap.size<=g'
    omega
  ·exact .inl (.inr (.inl hk))
  ·exact .inl (.inr (.inr (.inl hk)))
  ·rcases List.mem_cons.1 hl with rfl | hl
   ·rcases hk with hk | hk
    ·exact .inr (Ae k hk)
    ·exact .inr (hM.since k hk)
   ·exact .inl (.inr (.inr (.inr ⟨l,hl,hk⟩))))
 rw[hw2];clear hR2 Dy hnew Ov keepR hnT QB hRa hblk2 U5 hfs hw2 zW hKb hfb hab XC hA1 hA2 hA3 hrun hKa hba hfa Ot hK0 h1 h2 Oc hYl hK1 hf1 hM hI hown QD IV Ae t1 t2 hdr Xx;go_wp2_with fail
 go_ret
 exact⟨rfl,fQ.out⟩
end Go.Proofs.YtkjfpdfkcfgfkaaGreat
namespace Go.Proofs.YtkjfpdfkcfgfkaaGreat
open Go.RowKit
theorem U8 {W w:World} {lo X Y:Nat} {zs:List Int} {s:WS} {R:RS} (hE:Env W w lo) (h:Pair false W w lo X Y zs s R):
  Calls Tryz.prog 61 #[.pointer (some ⟨X,0,none⟩)] w fun e w1=>∃r:Int,e= .returned (.int .i64 r)/\Fr (s.own X) w w1/\Next false W w w1 lo X Y zs s R 63 #[.pointer (some ⟨Y,0,none⟩)] (.int .i64 r):=by
 have hlen:=h.ku.len;have h20:=h.ref.l20;by_cases hf:s.sk.length=20
 ·refine(Uk X zs s w h.at_ h.busy hf).mono ?_
  rintro e w1 ⟨rfl,rfl⟩
  refine⟨2,rfl,Fr.refl _ _,tK hE h (Fr.refl _ _) (fun w2 f2=>?_)⟩
  have hr:=(h.ref.nw f2).dU.blk;obtain⟨nP,gp,hlv⟩:=iQ h.ref.ug;rw[hlv,hlen,hf] at hr;refine(MO Y R.az R.now.inv R.tv R.now.dead nP gp w2 hr).mono ?_
  rintro e w3 ⟨rfl,rfl⟩
  exact⟨rfl,Fr.refl _ _⟩
 ·refine(Qa X zs s w h.at_ h.busy (by omega)).mono ?_
  rintro e w1 ⟨rfl,sv,h3,h4⟩
  have hW1:Nw W w1:=hE.nw.trans h4.fr (fun i hi=>.inr (Nat.le_trans hE.base (h.xlo i hi)))
  refine⟨0,rfl,h4.fr,fun w2 f2=>?_⟩
  refine(Jp W lo Y zs R w2 (Nat.le_trans hE.le (Nat.le_trans h4.fr.size f2.size)) (h.mid h4 f2) (by omega)).mono ?_
  rintro e w3 ⟨rfl,lv,inv,vs,k1,k2,k3⟩
  exact⟨rfl,_,_,h.join hE.base hE.nw hE.le h3 h4 f2 k1 k2 rfl k3 h.busy h.now h.tabs ⟨h.now,h.ku⟩⟩
structure Did (zs:List Int) (s s':WS) (vars:List Int) (rows:List (List Int)) (nt:Bool) (way r:Int):Prop where
 num:r=postOf zs s vars rows way
 busy:s'.l.busy=s.l.busy
 no:r≠0->s'=s
 yes:r=0->s'.bs=s.bs++[⟨vars,rows,nt⟩]/\s'.sk=s.sk/\Dm s'.d/\Closure zs.length (s.bs++[⟨vars,rows,nt⟩]) s.d s'.d
theorem QE {X:Nat} {zs:List Int} {s:WS} {w:World} {vo ro:Option Addr} {ak au:Nat} {vars:List Int} {rows:List (List Int)} {nt:Bool} {way:Int} (h:iM w X zs s) (hbz:s.l.busy=false)
  (hl:vars.length*8<=140737488355328) (hrl:rows.length*24<=140737488355328) (nY:vars.length<=ak) (hvs:ax w vo vars) (hrs:dW w ro rows):
  Calls Tryz.prog 11 #[.pointer (some ⟨X,0,none⟩),.agg #[.slice vo vars.length ak,.slice ro rows.length au,.bool nt,.int .i64 way]] w fun e w'=>∃(r:Int) (s':WS),e= .returned (.int .i64 r)/\iM w' X zs s'/\gq w w' X s s'/\Did zs s s' vars rows nt way r:=by
 by_cases h0:postOf zs s vars rows way=0
 ·refine(II X vo ro ak au zs s vars rows nt way w h hbz nY hvs hrs h0).mono ?_
  rintro e w' ⟨rfl,so,aI,x,d',bv,ts,us,h1,h2,h3,h4⟩
  exact⟨0,_,rfl,h3,h4,h0.symm,rfl,fun h=>absurd rfl h,fun _=>⟨rfl,rfl,h2,h1⟩⟩
 ·refine(Xl X vo ro ak au zs s vars rows nt way w h hbz hl hrl nY hvs hrs h0).mono ?_
  rintro e w' ⟨rfl,hf⟩
  exact⟨_,s,rfl,h.nw hf,gq.nw hf X s,rfl,rfl,fun _=>rfl,fun h=>absurd h h0⟩
theorem U9 {W w:World} {lo Y:Nat} {zs:List Int} {s s':WS} {R:RS} {vo ro:Option Addr} {ak au:Nat} {vars:List Int} {rows:List (List Int)} {nt:Bool} {way r:Int} (hlo:W.heap.size<=lo) (Qh:lo<=w.heap.size) (hW:Nw W w) (hR:mF W w lo Y zs R) (hts:s.ts.length=s.bs.length)
  (Dy:kM zs.length R.now s.d) (Va:s.bs=R.ts.map jO.tb) (Vb:uF zs.length R.ls s.sk) (hl:vars.length*8<=140737488355328) (hrl:rows.length*24<=140737488355328) (hvs:ax W vo vars) (hrs:dW W ro rows) (hd:Did zs s s' vars rows nt way r):
  Calls Tryz.prog 79 #[.pointer (some ⟨Y,0,none⟩),.agg #[.slice vo vars.length ak,.slice ro rows.length au,.bool nt,.int .i64 way]] w fun e w'=>e= .returned (.int .i64 r)/\∃R',mF W w' lo Y zs R'/\Fr (R.wr Y) w w'/\(∀k,R'.own Y k->R.own Y k\/w.heap.size<=k)/\R'.az=R.az/\kM zs.length R'.now s'.d/\s'.bs=R'.ts.map jO.tb/\uF zs.length R'.ls s'.sk:=by
 have hpos:=(aF hR.dU.lJ).1;have htl:s.ts.length=R.ts.length:=by rw[hts,Va,List.length_map]
 have hll:=Vb.len;have IU:=hR.t12;have Vd:Et zs vars rows way R.ts.length R.ls.length R.now.dead=r:=by
  rw[hd.num];unfold Et postOf;rw[htl,hll];by_cases h1:bK zs vars rows way=false
  ·rw[if_pos h1,if_pos h1]
  ·rw[if_neg h1,if_neg h1];by_cases h2:R.ts.length=12
   ·rw[if_pos h2,if_pos (by omega)]
   ·rw[if_neg h2,if_neg (by omega)]
    by_cases h3:s.sk.length≠0
    ·rw[if_pos h3,if_pos (by omega)]
    ·rw[if_neg h3,if_neg (by omega)]
     by_cases h4:R.now.dead=true
     ·rw[if_pos h4,if_pos ((Dy.iff hpos).2 h4)]
     ·rw[if_neg h4,if_neg (fun h=>h4 ((Dy.iff hpos).1 h))]
 obtain⟨cells,t1,_⟩:=hR.tabs;obtain⟨qP,aI,sZ⟩:=iQ t1;obtain⟨nP,gp,hlv⟩:=iQ hR.ug;by_cases h0:r=0
 ·rw[h0] at Vd ⊢;unfold Et at Vd;by_cases h1:bK zs vars rows way=false
  ·rw[if_pos h1] at Vd;omega
  ·rw[if_neg h1] at Vd;by_cases h2:12<=R.ts.length
   ·rw[if_pos h2] at Vd;omega
   ·rw[if_neg h2] at Vd;by_cases h3:0<R.ls.length
    ·rw[if_pos h3] at Vd;omega
    ·rw[if_neg h3] at Vd;by_cases h4:R.now.dead=true
     ·rw[if_pos h4] at Vd;omega
     ·have hdd:R.now.dead=false:=by simpa using h4
      have hsd:s.d=dR R.now.bss:=by
       rcases Dy with ⟨h5,_⟩ | ⟨_,h5,_⟩
       ·exact absurd h5 h4
       ·exact h5
      obtain⟨y1,y2,y3,y4⟩:=hd.yes h0;refine(Jn W lo Y zs R vo ro ak au vars rows nt way w hlo Qh hW hR hdd (List.eq_nil_of_length_eq_zero (by omega)) (by omega) (by simpa using h1) hvs hrs).mono ?_
      rintro e w' ⟨rfl,now,tv,d,k1,k2,k3,k4,k5,k6⟩
      have e1:s'.bs=(R.ts++[(⟨⟨vars,rows,nt⟩,way⟩:jO)]).map jO.tb:=by rw[y1,Va,List.map_append];rfl
      refine⟨rfl,_,k1,k2,k3,rfl,?_,e1,by rw[y2];exact Vb⟩
      rw[<-e1,<-hsd] at k5;rw[<-y1] at y4;rw[y4.one y3 k4 k5];exact k6
 ·rw[hd.no h0];have hr:=hR.dU;rw[sZ,hlv] at hr;rw[<-Vd];refine(LZ lo Y zs R.az R.now.inv R.now.vs R.now.bss R.now.dead qP nP R.ts.length aI R.ls.length gp vo ro ak au vars rows nt way w hl hrl hr (hvs.nw hW) (hrs.nw hW) (by rw[Vd];exact h0)).mono ?_
  rintro e w' ⟨rfl,hf⟩
  exact⟨rfl,R,hR.nw hf,hf.mono (fun _ x=>x.elim),fun k hk=>.inl hk,rfl,Dy,Va,Vb⟩
theorem Pair.fin {bz:Bool} {W w2 w3:World} {lo X Y:Nat} {zs:List Int} {s':WS} {R R':RS} (h12:iM w2 X zs s') (hr2:mF W w2 lo Y zs R) (hz':∀k,R.az.ownBlock=some k->¬s'.own X k) (hx':∀k,s'.own X k->lo<=k) (hr:mF W w3 lo Y zs R') (hfr:Fr (R.wr Y) w2 w3) (hz:R'.az=R.az)
  (hb:s'.l.busy=bz) (hn:kM zs.length R'.now s'.d) (ht:s'.bs=R'.ts.map jO.tb) (hl:uF zs.length R'.ls s'.sk):Pair bz W w3 lo X Y zs s' R':=
 ⟨h12.fr hfr (fun q hq hw=>h12.FM hr2 hz' q (.inl hw) hq) hr2.only (by decide),hr,hb,hn,ht,hl,by rw[hz];exact hz',hx'⟩
theorem QF {l:RL} {zs:List Int} {d:List Nat} (hv:∀q,vals (d.getD q 0)=if q<zs.length then qH l.bss l.dead q else []) (h8:zs.length<=8):jQ d 8=oJ l.bss l.dead zs.length/\lZ d 8=vk l.bss l.dead zs.length:=by
 have hp:∀q,pop (d.getD q 0)=if q<zs.length then (qH l.bss l.dead q).length else 0:=fun q=>by
  show (vals (d.getD q 0)).length=_
  rw[hv q];split <;> rfl
 have h1:∀k,k<=zs.length->jQ d k=oJ l.bss l.dead k/\lZ d k=vk l.bss l.dead k:=by
  intro k;induction k with
  | zero=>intro _;exact⟨by simp[jQ,oJ],by simp[lZ,vk]⟩
  | succ k ih=>
   intro hk;obtain⟨i1,i2⟩:=ih (by omega)
   rw[oI,uZ,hp k,if_pos (by omega),i1,i2]
   exact⟨rfl,rfl⟩
 have h2:∀k,zs.length+k<=8->jQ d (zs.length+k)=jQ d zs.length/\lZ d (zs.length+k)=lZ d zs.length:=by
  intro k;induction k with
  | zero=>intro _;exact⟨rfl,rfl⟩
  | succ k ih=>
   intro hk;obtain⟨i1,i2⟩:=ih (by omega)
   rw[<-Nat.add_assoc,oI,uZ,hp (zs.length+k),if_neg (by omega),i1,i2]
   exact⟨rfl,rfl⟩
 obtain⟨i1,i2⟩:=h1 zs.length (Nat.le_refl _);obtain⟨j1,j2⟩:=h2 (8-zs.length) (by omega)
 rw[show zs.length+(8-zs.length)=8 by omega] at j1 j2
 exact⟨j1.trans i1,j2.trans i2⟩
theorem Ve {W w:World} {lo X Y:Nat} {zs:List Int} {s:WS} {R:RS} (h:Pair false W w lo X Y zs s R):
  Calls Tryz.prog 59 #[.pointer (some ⟨X,0,none⟩)] w fun e w1=>∃(a b c l f:Nat) (dd:Bool),e= .returned (.agg #[.int .i64 (a:Int),.int .i64 (b:Int),.int .i64 (c:Int),.bool dd,.int .i64 (l:Int),.int .i64 (f:Int)])/\Nw w w1 /\
   ∀w2,Nw w w2->Calls Tryz.prog 60 #[.pointer (some ⟨Y,0,none⟩)] w2 fun e w3=>e= .returned (.agg #[.int .i64 (a:Int),.int .i64 (b:Int),.int .i64 (c:Int),.bool dd,.int .i64 (l:Int),.int .i64 (f:Int)])/\Nw w2 w3:=by
 have hz:=aF h.at_.mem.lJ;refine(Ur X zs s w h.at_ h.busy).mono ?_
 rintro e w1 ⟨rfl,hf⟩
 refine⟨zs.length,s.ts.length,s.sk.length,jQ s.d 8,lZ s.d 8,(s.d.getD 0 0==0),rfl,hf,fun w2 f2=>?_⟩
 have hr:=(h.ref.nw f2).dU;obtain⟨cells,t1,_⟩:=h.ref.tabs;obtain⟨qP,aI,sZ⟩:=iQ t1;obtain⟨nP,gp,hlv⟩:=iQ h.ref.ug;rw[sZ,hlv] at hr;refine(I4 lo Y zs R.az R.now.inv R.now.vs R.now.bss R.now.dead qP nP R.ts.length aI R.ls.length gp w2 hr).mono ?_
 rintro e w3 ⟨rfl,hf3⟩
 refine⟨?_,hf3⟩
 obtain⟨l1,l2⟩:=QF (kM.vals h.now h.ref.dU.LM h.ref.dU.b6 h.ref.dU.len) hz.2;have htl:s.ts.length=R.ts.length:=by rw[h.at_.mem.fits.1,h.tabs,List.length_map]
 have hdb:(s.d.getD 0 0==0)=R.now.dead:=by
  have:=h.now.iff hz.1
  cases hb:R.now.dead with
  | true=>
   rw[this.2 hb];rfl
  | false=>
   rw[beq_eq_false_iff_ne];intro h0;rw[this.1 h0] at hb;cases hb
 rw[htl,<-h.ku.len,l1,l2,hdb]
def mV (w:World) (v:Value) (c:Int):Prop:=∃ao n cap,v= .slice ao n cap/\n*8<=140737488355328/\ax w ao (List.replicate n c)
def yO (w:World) (v:Value):Prop:=∃ao n cap,v= .slice ao n cap/\n*24<=140737488355328/\∀i,i<n->∃b o,ao=some ⟨b,o,none⟩/\b<w.heap.size/\w.cell? ⟨b,o+i,none⟩=some (.slice none 0 0)
structure Jq (w:World) (nv tv rv:Value) (nums turned rows:List Value):Prop where
 rn:Row w nv 22 nums
 rt:Row w tv 22 turned
 rr:Row w rv 26 rows
 ln:nums.length*24<=140737488355328
 lt:turned.length*24<=140737488355328
 lr:rows.length*24<=140737488355328
 an:∀i (h:i<nums.length),mV w nums[i] (-1-(i / 4*4:Nat))
 at_:∀i (h:i<turned.length),mV w turned[i] (-7)
 ar:∀i (h:i<rows.length),yO w rows[i]
set_option maxRecDepth 1000000 in
theorem sF (B:Nat) (s0 nv tv rv:Value) (nums turned rows:List Value) (w:World)
  (hB:af w B #[s0,nv,tv,rv] 29) (hK:Jq w nv tv rv nums turned rows):
  Calls Tryz.prog 19 #[.pointer (some ⟨B,0,none⟩)] w fun e w'=>e= .returned (.bool true)/\w'=w:=by
 have c1:w.cell? ⟨B,1,none⟩=some nv:=hB.cell 1
 have c2:w.cell? ⟨B,2,none⟩=some tv:=hB.cell 2
 have c3:w.cell? ⟨B,3,none⟩=some rv:=hB.cell 3
 have hln:=hK.ln;have hlt:=hK.lt;have hlr:=hK.lr;obtain⟨an,cn,rfl,hna⟩:=hK.rn.form;obtain⟨at0,ct,rfl,hta⟩:=hK.rt.form;obtain⟨ar,cr,rfl,hra⟩:=hK.rr.form;have HK:=hd hK;have HB:=hd hB;clear hK hB hna hta hra;go_enter Tryz.func19,Tryz.ntmps19
 go_wp2
 go_loop [3] (fun i=>∃k:Nat,k<=nums.length/\i= .int .i64 k) (fun i=>nums.length-(intOf i).toNat)
 case atStart=>exact⟨0,Nat.zero_le _,rfl⟩
 case round=>
  obtain⟨k,hk,rfl⟩:=hrel;by_cases hkl:k<nums.length
  ·obtain⟨g,cap,he,_,hcell,_⟩:=HK.out.rn.cell k hkl;obtain⟨ao,m,cap2,he2,hm,hz⟩:=HK.out.an k hkl;cases he;rw[he2] at hcell;clear he2;go_wp2
   go_loop [4] (fun i=>∃j:Nat,j<=m/\i= .int .i64 j) (fun i=>m-(intOf i).toNat)
   case atStart=>exact⟨0,Nat.zero_le _,rfl⟩
   case round=>
    obtain⟨j,hj,rfl⟩:=hrel;by_cases hjl:j<m
    ·obtain⟨b,o,rfl,_,hc⟩:=hz j (by simpa using hjl)
     clear hz;rw[show (List.replicate m (-1-((k / 4*4:Nat):Int))).getD j 0=-1-((k / 4*4:Nat):Int) from by simp[hjl]] at hc
     go_wp2
     exact⟨⟨j+1,by omega,by go_num⟩,by simp[intOf];omega⟩
    ·go_wp2
     exact⟨⟨k+1,by omega,by go_num⟩,by simp[intOf];omega⟩
  ·go_wp2
   clear c1 hkl hk;go_loop [5] (fun i=>∃k:Nat,k<=turned.length/\i= .int .i64 k) (fun i=>turned.length-(intOf i).toNat)
   case atStart=>exact⟨0,Nat.zero_le _,rfl⟩
   case round=>
    obtain⟨k,hk,rfl⟩:=hrel;by_cases hkl:k<turned.length
    ·obtain⟨g,cap,he,_,hcell,_⟩:=HK.out.rt.cell k hkl;obtain⟨ao,m,cap2,he2,hm,hz⟩:=HK.out.at_ k hkl;cases he;rw[he2] at hcell;clear he2;go_wp2
     go_loop [6] (fun i=>∃j:Nat,j<=m/\i= .int .i64 j) (fun i=>m-(intOf i).toNat)
     case atStart=>exact⟨0,Nat.zero_le _,rfl⟩
     case round=>
      obtain⟨j,hj,rfl⟩:=hrel;by_cases hjl:j<m
      ·obtain⟨b,o,rfl,_,hc⟩:=hz j (by simpa using hjl)
       clear hz;rw[show (List.replicate m (-7:Int)).getD j 0=-7 from by simp[hjl]] at hc
       go_wp2
       exact⟨⟨j+1,by omega,by go_num⟩,by simp[intOf];omega⟩
      ·go_wp2
       exact⟨⟨k+1,by omega,by go_num⟩,by simp[intOf];omega⟩
    ·go_wp2
     clear c2 hkl hk;go_loop [7] (fun i=>∃k:Nat,k<=rows.length/\i= .int .i64 k) (fun i=>rows.length-(intOf i).toNat)
     case atStart=>exact⟨0,Nat.zero_le _,rfl⟩
     case round=>
      obtain⟨k,hk,rfl⟩:=hrel;by_cases hkl:k<rows.length
      ·obtain⟨g,cap,he,_,hcell,_⟩:=HK.out.rr.cell k hkl;obtain⟨ao,m,cap2,he2,hm,hz⟩:=HK.out.ar k hkl;cases he;rw[he2] at hcell;clear he2;go_wp2
       go_loop [8] (fun i=>∃j:Nat,j<=m/\i= .int .i64 j) (fun i=>m-(intOf i).toNat)
       case atStart=>exact⟨0,Nat.zero_le _,rfl⟩
       case round=>
        obtain⟨j,hj,rfl⟩:=hrel;by_cases hjl:j<m
        ·obtain⟨b,o,rfl,_,hc⟩:=hz j hjl;clear hz;go_wp2
         exact⟨⟨j+1,by omega,by go_num⟩,by simp[intOf];omega⟩
        ·go_wp2
         exact⟨⟨k+1,by omega,by go_num⟩,by simp[intOf];omega⟩
      ·go_wp2
       go_ret
       exact⟨rfl,rfl⟩
theorem Tryz.Vf:(Tryz.prog.info? 49).map (fun i=>(i.zero,i.size,i.bytes))=some (some (.pointer none),1,8):=by kernel_rfl
theorem aaJ (b o:Nat) (cap:Nat) (zs:List Int) (w:World) (h1:1<=zs.length) (h8:zs.length<=8) (h:ax w (some ⟨b,o,none⟩) zs) (hok:di zs=true):
  Calls Tryz.prog 10 #[.slice (some ⟨b,o,none⟩) zs.length cap] w fun e w'=>
   Nw w w'/\∃B az,e= .returned (.tuple #[.pointer (some ⟨B,0,none⟩),.int .i64 0])/\af w' B (ah az (fM zs zs.length) (.slice none 0 0) vS) 66 /\
     Row w' az 3 (zs.map (Value.int .i64))/\w.heap.size<=B/\(∀k,az.ownBlock=some k->w.heap.size<=k):=
 (new_any b o cap zs w h1 h8 h).mono fun e w' ⟨hf,hr⟩=>⟨hf,hr.elim (fun x=>x.2) (fun x=>by rw[hok] at x;cases x.1)⟩
theorem aaK (b o:Nat) (cap:Nat) (zs:List Int) (w:World) (h1:1<=zs.length) (h8:zs.length<=8) (h:ax w (some ⟨b,o,none⟩) zs) (hok:di zs=false):
  Calls Tryz.prog 10 #[.slice (some ⟨b,o,none⟩) zs.length cap] w fun e w'=>Nw w w'/\e= .returned (.tuple #[.pointer none,.int .i64 1]):=
 (new_any b o cap zs w h1 h8 h).mono fun e w' ⟨hf,hr⟩=>⟨hf,hr.elim (fun x=>by rw[hok] at x;cases x.1) (fun x=>x.2)⟩
theorem QG (b o:Nat) (cap:Nat) (zs:List Int) (w:World) (h1:1<=zs.length) (h8:zs.length<=8) (h:ax w (some ⟨b,o,none⟩) zs) (hok:di zs=true):
  Calls Tryz.prog 15 #[.slice (some ⟨b,o,none⟩) zs.length cap] w fun e w'=>
   Nw w w'/\∃B,e= .returned (.pointer (some ⟨B,0,none⟩))/\w.heap.size<=B/\zh w' w.heap.size B zs (allIn zs zs.length) false aZ aZ:=
 (Bg b o cap zs w h1 h8 h).mono fun e w' ⟨hf,hr⟩=>⟨hf,hr.elim (fun x=>x.2) (fun x=>by rw[hok] at x;cases x.1)⟩
theorem QH (b o:Nat) (cap:Nat) (zs:List Int) (w:World) (h1:1<=zs.length) (h8:zs.length<=8) (h:ax w (some ⟨b,o,none⟩) zs) (hok:di zs=false):
  Calls Tryz.prog 15 #[.slice (some ⟨b,o,none⟩) zs.length cap] w fun e w'=>Nw w w'/\e= .returned (.pointer none):=
 (Bg b o cap zs w h1 h8 h).mono fun e w' ⟨hf,hr⟩=>⟨hf,hr.elim (fun x=>by rw[hok] at x;cases x.1) (fun x=>x.2)⟩
theorem zh.fr {S:Nat->Prop} {w w':World} {lo B:Nat} {zs:List Int} {bss:List (List Bool)} {dead:Bool} {tv lv:Value} (h:zh w lo B zs bss dead tv lv) (f:Fr S w w')
  (hn:∀k,S k->k≠B/\¬lo<=k):zh w' lo B zs bss dead tv lv:=by
 obtain⟨az,inv,vs,hB,hsz,hin,hvs,h1,h2⟩:=h.ex;refine⟨az,inv,vs,hB.fr f (fun e=>(hn _ e).1 rfl),hsz.fr f (fun k hk e=>(hn k e).2 (h1 k hk)),hin.fr f (fun k hk e=>(hn k e).2 (h2 k hk)),?_,h1,h2⟩
 exact⟨hvs.len,fun i hi=>(hvs.row i hi).fr f (fun k hk e=>(hn k e).2 (hvs.lo i hi k hk)),hvs.ne,hvs.lo⟩
set_option maxRecDepth 1000000 in
theorem QI (B:Nat) (sv nv tv rv:Value) (ts:List Value) (ao:Option Addr) (cap:Nat) (zs:List Int) (w:World) (hz:zs.length*8<=140737488351232)
  (hB:af w B #[sv,nv,tv,rv] 29) (sZ:Row w tv 22 ts) (hts:(ts.length+1)*24<=140737488355328) (hl:ax w ao zs) (hlen:zs.length<1\/8<zs.length):
  Calls Tryz.prog 8 #[.pointer (some ⟨B,0,none⟩),.slice ao zs.length cap] w fun e w'=>
   e= .returned (.bool true)/\∃tv',Fr (fun k=>k=B\/tv.ownBlock=some k) w w'/\af w' B #[sv,nv,tv',rv] 29 /\
    Row w' tv' 22 (ts++[.slice (some ⟨w.heap.size,0,none⟩) (zs.length+1) (zs.length+1)])/\af w' w.heap.size (dI zs (zs.length+1)) 3 /\
    (∀k,tv'.ownBlock=some k->tv.ownBlock=some k\/w.heap.size<=k):=by
 have hBlt:=hB.lt;go_enter Tryz.func8,Tryz.ntmps8
 go_wp2_with (first
  | (go_at_call 14;refine(qY _ _ zs _ (by omega) hl).mono ?_;rintro e w1 ⟨rfl,hf1,hg1⟩)
  | (go_at_call 10;refine(WI _ _ _ _ (by omega) hlen).mono ?_;rintro e w2 ⟨rfl,rfl⟩)
  | (go_at_call 15;refine(KU _ _ _ _ (by omega) hlen).mono ?_;rintro e w2 ⟨rfl,rfl⟩)
  | (go_at_call 16;refine(kN B w.heap.size ao cap zs sv nv tv rv ts _ (by omega) (hB.nw hf1) (sZ.nw hf1) hts hg1 (hl.nw hf1)).mono ?_;rintro e w2 ⟨rfl,tv',hf2,hB2,afB,hg2,hlo2⟩))
 go_ret
 refine⟨rfl,tv',hf1.mono (fun i h=>h.elim) |>.trans hf2 ?_,hB2,afB,hg2,?_⟩
 ·rintro i (h | h | h)
  ·exact .inl (.inl h)
  ·exact .inr (by omega)
  ·exact .inl (.inr h)
 ·intro k hk;rcases hlo2 k hk with h | h
  ·exact .inl h
  ·exact .inr (Nat.le_trans hf1.size h)
def pR (X Y:Nat):Array Value:=#[.pointer (some ⟨X,0,none⟩),.pointer (some ⟨Y,0,none⟩),.bool false,.nilFunc,.nilFunc]
theorem zC {w:World} {B g:Nat} {sv tv:Value} {ss ts:List Value} {c1 c2:Array Value} (hsv:Row w sv 49 ss) (hB:af w B c1 29) (hg:af w g c2 3) (sZ:Row w tv 22 ts)
  (k:Nat) (hk:sv.ownBlock=some k) (e:k=B\/k=g\/tv.ownBlock=some k):False:=by
 rcases e with e | e | e
 ·subst e;exact hsv.ne hB (by decide) hk
 ·subst e;exact hsv.ne hg (by decide) hk
 ·obtain⟨cur,hb,_⟩:=sZ.blk e;exact hsv.ne hb (by decide) hk
theorem vG {w:World} {g:Nat} {zs:List Int} (h:af w g (dI zs (zs.length+1)) 3) (hz:(zs.length+1)*8<=140737488355328):mV w (.slice (some ⟨g,0,none⟩) (zs.length+1) (zs.length+1)) (-7):=by
 refine⟨some ⟨g,0,none⟩,zs.length+1,zs.length+1,rfl,hz,ax.pW h 0 _ (fun i hi=>?_)⟩
 rw[FU,Nat.zero_add];simp only[List.length_replicate] at hi;simp[hi]
def Ox:Prop:=∀w:World,Calls Tryz.prog 7 #[] w fun e w'=>e= .returned (.bool true)/\Nw w w'
theorem MP {P:Program} (w:World) (base:Nat) (t ty e:TypeId) (i:TypeInfo) (z:Value) (size bytes:Nat) (ht:P.underlying t=some (.slice e)) (hi:P.info? e=some i) (hz:i.zero=some z)
  (hsize:i.size=size) (hby:i.bytes=bytes) (hsz:0<size) (v:Value) (n:Nat) (xs:List Value) (hown:w.ownsRow base e size v n xs)
  (a:Addr) (m c:Nat) (news:List Value) (hl:news.length=m*size) (hnews:∀j u,news[j]? = some u->w.cell? (a.add j)=some u) (h1:∀u∈news,u.oneCell'=true)
  (h63:n+m<=maxLen) (hbytes:(n+m)*bytes<=140737488355328) (v':Value) (w':World) (hrun:(Builtin.append_ #[t,t] ty #[v,.slice (some a) m c]).run P w= .ok v' w'):w'.ownsRow base e size v n xs:=by
 subst hsize;subst hby;have hsmall:n+m<=9223372036854775807:=by simp only[maxLen] at h63;omega
 rcases hown.2 with ⟨rfl,rfl⟩ | ⟨g,cap,cur,rfl,hbg,hg,hnc,hcm,hcs,htake⟩
 ·exact⟨hown.1,.inl ⟨rfl,rfl⟩⟩
 ·by_cases hroom:n+m<=cap
  ·have hfit:n*i.size+news.length<=cur.size:=by rw[hl,hcs,<-Nat.add_mul];exact Nat.mul_le_mul_right _ hroom
   have hr:=run_append_room (P:=P) w t ty e i ht hi g n cap cur hg a m c news hl hnews h1 hroom hfit;rw[hr] at hrun;cases hrun;refine⟨hown.1,.inr ⟨g,cap,_,rfl,hbg,setRow_heap w g cur _ e _ hg,hnc,hcm,?_,?_⟩⟩
   ·simp only[List.size_toArray,List.length_append,List.length_take,List.length_drop,Array.length_toList];omega
   ·have hxl:=hown.1;rw[htake];simp only[List.append_assoc];rw[List.take_append_of_le_length (by omega),List.take_of_length_le (by omega)]
  ·have holds:∀j u,xs[j]? = some u->w.cell? ((⟨g,0,none⟩:Addr).add j)=some u:=hown.cells (g:=g) rfl
   have hr:=run_append_grow (P:=P) w t ty e i z ht hi hz ⟨g,0,none⟩ n cap xs hown.1 holds a m c news hl hnews (by omega) (by omega) (growslice_fits (by omega) hbytes)
   rw[hr] at hrun;cases hrun;refine⟨hown.1,.inr ⟨g,cap,cur,rfl,hbg,?_,hnc,hcm,hcs,htake⟩⟩
   exact(heap_alloc_old w.drew _ (lt_of_block hg)).trans hg
theorem vH {P:Program} (w:World) {ops:Array Oper} {rest:List Oper} {o:Oper} {a:Act} {Q:Exit->Act->World->Prop} (hgd:o.guard=none) (s x:Operand) (t:TypeId)
  (ho:o.op= .call {callee:=.builtin .append,args:=#[s,x],argTypes:=#[t,t]})
  (base:Nat) (e:TypeId) (i:TypeInfo) (z:Value) (size bytes:Nat) (ht:P.underlying t=some (.slice e)) (hi:P.info? e=some i) (hz:i.zero=some z)
  (hsize:i.size=size) (hby:i.bytes=bytes) (hzs:z.cells.size=size) (hsz:0<size)
  (v:Value) (n:Nat) (xs:List Value) (hs:a.eval s=v) (hown:w.ownsRow base e size v n xs)
  (ad:Addr) (m c:Nat) (news:List Value) (hx:a.eval x= .slice (some ad) m c) (hl:news.length=m*size) (hnews:∀j u,news[j]? = some u->w.cell? (ad.add j)=some u) (h1:∀u∈news,u.oneCell'=true)
  (h63:n+m<=maxLen) (hbytes:(n+m)*bytes<=140737488355328) (hbase:base<=w.heap.size)
  (h:∀v' w',w'.ownsRow base e size v' (n+m) (xs++news)->w'.ownsRow base e size v n xs->w.grownBy w' v.ownBlock->(v'.ownBlock=v.ownBlock\/v'.ownBlock=some w.heap.size)->wpList P ops Q rest (a.put o.dst v') w'):
  wpList P ops Q (o::rest) a w:=by
 refine wpList_plain hgd fun K hK=>?_
 obtain⟨v',w',hr,h2,h3,_,h5⟩:=run_append_own_at (P:=P) w base t o.type e i z size bytes ht hi hz hsize hby hzs hsz v n xs hown ad m c news hl hnews h1 h63 hbytes hbase;have h6:=MP (P:=P) w base t o.type e i z size bytes ht hi hz hsize hby hsz v n xs hown ad m c news hl hnews h1 h63 hbytes v' w' hr;unfold Oper.wp execOp;simp only[ho,resolve,invoke,builtin,Sem.run_bind,Sem.run_pure,Result.andThen_ok,List.map_toArray,List.map_cons,List.map_nil,hs,hx,hr];exact hK _ _ (h v' w' h2 h6 h3 h5)
theorem FY (w:World) (p:Addr) (y x:Value) (t:TypeId):∀j u,[x][j]? = some u->((w.setCell p y).alloc (.cells #[x] t)).cell? ((⟨w.heap.size,0,none⟩:Addr).add j)=some u:=fun j u hj=>by
 have:=cell_one_new (w.setCell p y) x t j u hj
 rw[show (w.setCell p y).heap.size=w.heap.size by simp] at this
 exact this
theorem mV.fr {S:Nat->Prop} {w w':World} {v:Value} {c:Int} (h:mV w v c) (f:Fr S w w') (hn:∀k,v.ownBlock=some k->¬S k):mV w' v c:=by
 obtain⟨ao,n,cap,rfl,h1,h2⟩:=h;exact⟨ao,n,cap,rfl,h1,h2.fr f (fun b o e=>hn b (by rw[e];rfl))⟩
theorem yO.fr {S:Nat->Prop} {w w':World} {v:Value} (h:yO w v) (f:Fr S w w') (hn:∀k,v.ownBlock=some k->¬S k):yO w' v:=by
 obtain⟨ao,n,cap,rfl,h1,h2⟩:=h;refine⟨ao,n,cap,rfl,h1,fun i hi=>?_⟩
 obtain⟨b,o,e,hb,hc⟩:=h2 i hi;exact⟨b,o,e,Nat.lt_of_lt_of_le hb f.size,(f.cell hb (hn b (by rw[e];rfl))).trans hc⟩
structure LW where
 sv:Value
 nv:Value
 tv:Value
 rv:Value
 ss:List Value
 nums:List Value
 turned:List Value
 rows:List Value
def LW.own (B:Nat) (L:LW) (k:Nat):Prop:=k=B\/L.sv.ownBlock=some k\/L.nv.ownBlock=some k\/L.tv.ownBlock=some k\/L.rv.ownBlock=some k\/(∃v∈L.nums,v.ownBlock=some k)\/(∃v∈L.turned,v.ownBlock=some k)\/∃v∈L.rows,v.ownBlock=some k
structure gZ (w:World) (lo B:Nat) (L:LW):Prop where
 blk:af w B #[L.sv,L.nv,L.tv,L.rv] 29
 sides:Row w L.sv 49 L.ss
 keeps:Jq w L.nv L.tv L.rv L.nums L.turned L.rows
 lo:∀k,L.own B k->lo<=k
 lt:∀k,L.own B k->k<w.heap.size
 ints:∀v,v∈L.nums\/v∈L.turned->∀k,v.ownBlock=some k->∃cur,af w k cur 3
 FZ:∀v,v∈L.rows->∀k,v.ownBlock=some k->∃cur,af w k cur 22
 nt:∀k,L.nv.ownBlock=some k->L.tv.ownBlock≠some k
 nr:∀k,L.nv.ownBlock=some k->∀v,v∈L.rows->v.ownBlock≠some k
 tr:∀k,L.tv.ownBlock=some k->∀v,v∈L.rows->v.ownBlock≠some k
theorem Jq.fr {S:Nat->Prop} {w w':World} {nv tv rv:Value} {nums turned rows:List Value} (h:Jq w nv tv rv nums turned rows) (f:Fr S w w') (h1:∀k,nv.ownBlock=some k->¬S k) (h2:∀k,tv.ownBlock=some k->¬S k) (h3:∀k,rv.ownBlock=some k->¬S k)
  (h4:∀v∈nums,∀k,v.ownBlock=some k->¬S k) (h5:∀v∈turned,∀k,v.ownBlock=some k->¬S k) (h6:∀v∈rows,∀k,v.ownBlock=some k->¬S k):Jq w' nv tv rv nums turned rows:=
 ⟨h.rn.fr f h1,h.rt.fr f h2,h.rr.fr f h3,h.ln,h.lt,h.lr,fun i hi=>(h.an i hi).fr f (h4 _ (List.getElem_mem hi)),fun i hi=>(h.at_ i hi).fr f (h5 _ (List.getElem_mem hi)),fun i hi=>(h.ar i hi).fr f (h6 _ (List.getElem_mem hi))⟩
theorem gZ.fr {S:Nat->Prop} {w w':World} {lo B:Nat} {L:LW} (h:gZ w lo B L) (f:Fr S w w') (hn:∀k,L.own B k->¬S k):gZ w' lo B L:=
 ⟨h.blk.fr f (hn B (.inl rfl)),h.sides.fr f (fun k hk=>hn k (.inr (.inl hk))),h.keeps.fr f (fun k hk=>hn k (.inr (.inr (.inl hk)))) (fun k hk=>hn k (.inr (.inr (.inr (.inl hk))))) (fun k hk=>hn k (.inr (.inr (.inr (.inr (.inl hk))))))
  (fun v hv k hk=>hn k (.inr (.inr (.inr (.inr (.inr (.inl ⟨v,hv,hk⟩))))))) (fun v hv k hk=>hn k (.inr (.inr (.inr (.inr (.inr (.inr (.inl ⟨v,hv,hk⟩)))))))) (fun v hv k hk=>hn k (.inr (.inr (.inr (.inr (.inr (.inr (.inr ⟨v,hv,hk⟩)))))))),h.lo,fun k hk=>Nat.lt_of_lt_of_le (h.lt k hk) f.size,
  fun v hv k hk=>(by
   obtain⟨cur,hb⟩:=h.ints v hv k hk;exact⟨cur,hb.fr f (hn k (hv.elim (fun hv=>.inr (.inr (.inr (.inr (.inr (.inl ⟨v,hv,hk⟩)))))) (fun hv=>.inr (.inr (.inr (.inr (.inr (.inr (.inl ⟨v,hv,hk⟩)))))))))⟩),
  fun v hv k hk=>(by
   obtain⟨cur,hb⟩:=h.FZ v hv k hk;exact⟨cur,hb.fr f (hn k (.inr (.inr (.inr (.inr (.inr (.inr (.inr ⟨v,hv,hk⟩))))))))⟩),h.nt,h.nr,h.tr⟩
theorem gZ.nw {w w':World} {lo B:Nat} {L:LW} (h:gZ w lo B L) (f:Nw w w'):gZ w' lo B L:=h.fr f (fun _ _ x=>x)
structure WB (w:World) (v:Value) (c:Int) (n g0 XH:Nat):Prop where
 ex:∃g n' cap cur,v= .slice (some ⟨g,0,none⟩) n' cap/\n'<=n/\af w g cur 3/\(g=g0\/XH<=g)/\∀i,i<n'->cur[i]? = some (.int .i64 c)
theorem WB.fr {S:Nat->Prop} {w w':World} {v:Value} {c:Int} {n g0 XH:Nat} (h:WB w v c n g0 XH) (f:Fr S w w') (hn:∀k cur,af w k cur 3->¬S k):WB w' v c n g0 XH:=by
 obtain⟨g,n',cap,cur,rfl,h1,h2,h3,h4⟩:=h.ex;exact⟨g,n',cap,cur,rfl,h1,h2.fr f (hn g cur h2),h3,h4⟩
theorem WB.all {w:World} {v:Value} {c:Int} {n g0 XH:Nat} (h:WB w v c n g0 XH) (hn:n*8<=140737488355328):mV w v c:=by
 obtain⟨g,n',cap,cur,rfl,h1,h2,h3,h4⟩:=h.ex;refine⟨_,n',cap,rfl,by omega,ax.pW h2 0 _ (fun i hi=>?_)⟩
 rw[List.length_replicate] at hi;rw[Nat.zero_add,h4 i hi];simp[hi]
theorem WB.app {w w':World} {v:Value} {c:Int} {n g0 XH g cap:Nat} (h:WB w v c n g0 XH) (f:Fr (fun k=>k=g) w w') (hr:Row w' (.slice (some ⟨g,0,none⟩) n cap) 3 (List.replicate n (.int .i64 c))):WB w' v c (n+1) g0 XH:=by
 obtain⟨g',n',cap',cur,rfl,h1,h2,h3,h4⟩:=h.ex;by_cases e:g'=g
 ·subst e;obtain⟨cur',hb,ht⟩:=hr.blk (k:=g') rfl;refine⟨g',n',cap',cur',rfl,by omega,hb,h3,fun i hi=>?_⟩
  rw[List.length_replicate] at ht;have h5:(cur'.toList.take n)[i]? = (List.replicate n (Value.int .i64 c))[i]?:=by rw[ht]
  rw[List.getElem?_take_of_lt (by omega)] at h5
  rw[<-Array.getElem?_toList,h5,List.getElem?_replicate,if_pos (by omega)]
 ·exact⟨g',n',cap',cur,rfl,by omega,h2.fr f e,h3,h4⟩
set_option maxRecDepth 1000000 in
theorem keep_any (lo B:Nat) (L:LW) (g m cap:Nat) (xs:List Value) (w:World) (h:gZ w lo B L) (hxm:xs.length=m) (hl:Row w (.slice (some ⟨g,0,none⟩) m cap) 3 xs) (hm:m<=1000) (hn:L.nums.length<=68719476736) (h4:L.nums.length % 4=0) (hg:¬L.own B g) (IV:lo<=g) (Qh:lo<=w.heap.size):
  Calls Tryz.prog 52 #[.pointer (some ⟨B,0,none⟩),.slice (some ⟨g,0,none⟩) m cap] w fun e w'=>e= .returned (.tuple #[])/\∃nv news,news.length=4/\gZ w' lo B {L with nv:=nv,nums:=L.nums++news}/\Fr (fun k=>k=B\/L.nv.ownBlock=some k\/k=g) w w'/\(∀k,LW.own B {L with nv:=nv,nums:=L.nums++news} k->L.own B k\/k=g\/w.heap.size<=k):=by
 obtain⟨i0,hi0,hz0,hz1,hz2⟩:=info_parts Tryz.jU;obtain⟨i1,hi1,I5,hz1b,I7⟩:=info_parts Tryz.xu;obtain⟨sv,nv,tv,rv,ss,nums,turned,rows⟩:=L;dsimp only at hn h4 ⊢
 have hB0:af w B #[sv,nv,tv,rv] 29:=h.blk;obtain⟨no,nc,hnf,_⟩:=h.keeps.rn.form;dsimp only at hnf
 have c1:w.cell? ⟨B,1,none⟩=some (.slice no nums.length nc):=by
  have:=hB0.cell 1
  rw[hnf] at this;exact this
 have hBl:=hB0.lt;obtain⟨c,hc⟩:∃c:Int,c=-1-(nums.length:Int):=⟨_,rfl⟩;have hw64:(-1:Int)-(nums.length:Int)=c:=hc.symm;have Hc:=hd hc;have H:=hd h;have Hl:=hd hl;have Hnf:=hd hnf;have ahd:-9223372036854775808<=c/\c<9223372036854775808:=by omega
 clear h hl hnf hc;go_enter Tryz.func52,Tryz.ntmps52
 go_wp2_with fail
 go_loopw [5] (fun i wr=>∃(k:Nat) (ys:List Value),k<=m/\i= .int .i64 (k:Int)/\ys.length=m/\Hid (Row wr (.slice (some ⟨g,0,none⟩) m cap) 3 ys)/\Hid (∀j,j<k->ys[j]? = some (.int .i64 c))/\Hid (Fr (fun k=>k=g) w wr)) (fun i _=>m-(intOf i).toNat)
 case atStart=>exact⟨0,xs,by omega,rfl,hxm,Hl,hd (fun j hj=>absurd hj (Nat.not_lt_zero _)),Fr.refl _ _⟩
 case round=>
  obtain⟨k,ys,hk,rfl,hyl,HY,HA,HF⟩:=hrel;obtain⟨acH,hbg,_⟩:=HY.out.blk (k:=g) rfl;by_cases hlt:k<m
  ·have hdk:(k:Int)<(m:Int):=by omega
   obtain⟨gx,cx,hex,_,hcx,_⟩:=HY.out.cell k (by rw[hyl];exact hlt)
   simp only[Value.slice.injEq,Option.some.injEq,Addr.mk.injEq,and_true] at hex;obtain⟨rfl,aaf⟩:=hex;clear aaf;have hgl:=hbg.lt;have hgf:=hbg.free k;have Hyl:=hd hyl;obtain⟨old,hold⟩:∃old,wr.cell? ⟨g,k,none⟩=some old:=⟨_,hcx⟩
   clear hcx hyl;go_wp2_with fail
   refine⟨⟨k+1,ys.set k (.int .i64 c),by omega,by simp,by rw[List.length_set];exact Hyl.out,HY.out.put k _,hd (fun j hj=>?_),HF.out.setCell _ _ (.inl rfl)⟩,by simp[intOf];omega⟩
   by_cases e:k=j
   ·subst e;have:=Hyl.out
    rw[List.getElem?_set_self (by omega)]
   ·rw[List.getElem?_set_ne e]
    exact HA.out j (by omega)
  ·obtain rfl:m=k:=by omega
   have hdk:¬((m:Int)<(m:Int)):=by omega
   have hys:ys=List.replicate m (.int .i64 c):=by
    refine List.ext_getElem? fun j=>?_
    by_cases hj:j<m
    ·rw[HA.out j hj];simp[hj]
    ·rw[List.getElem?_eq_none (by omega),List.getElem?_eq_none (by simp;omega)]
   subst hys;have hgB:g≠B:=fun e=>by
    rw[e] at hbg;exact absurd (hbg.inj (H.out.blk.fr HF.out (fun e2=>hg (.inl e2.symm)))).2 (by decide)
   have hBm:af wr B #[sv,nv,tv,rv] 29:=H.out.blk.fr HF.out (fun e=>hgB e.symm)
   have hNm:Row wr nv 22 nums:=H.out.keeps.rn.fr HF.out (fun k hk e=>hg (.inr (.inr (.inl (by rw[<-e];exact hk)))))
   have HBm:=hd hBm;have HNm:=hd hNm;clear hyl HA hbg hBm hNm;go_wp2_with fail
   go_loopw [1,6,7] (fun l i _ wq=>∃(k g' cap':Nat) (uy:Value) (news:List Value),k<=4/\i= .int .i64 (k:Int)/\l= .slice (some ⟨g',0,none⟩) (m+k) cap'/\news.length=k/\Hid (Row wq (.slice (some ⟨g',0,none⟩) (m+k) cap') 3 (List.replicate (m+k) (.int .i64 c)))/\Hid (af wq B #[sv,uy,tv,rv] 29)/\Hid (Row wq uy 22 (nums++news))/\Hid (∀v∈news,WB wq v c (m+k) g w.heap.size)/\Hid (Fr (fun k=>k=B\/nv.ownBlock=some k\/k=g) w wq)/\Hid (g'=g\/w.heap.size<=g')/\Hid (∀k,uy.ownBlock=some k->nv.ownBlock=some k\/w.heap.size<=k)) (fun _ i _ _=>4-(intOf i).toNat)
   case atStart=>exact⟨0,g,cap,nv,[],by omega,rfl,rfl,rfl,HY,HBm,by rw[List.append_nil];exact HNm,hd (fun v hv=>by cases hv),hd (HF.out.mono (fun i h=>.inl (.inr (.inr h)))),hd (.inl rfl),hd (fun k hk=>.inl hk)⟩
   case round=>
    rename World=>wq
    clear HY HBm HNm;obtain⟨k,g',cap',uy,news,hk,rfl,rfl,hnl,HR,HB,HN,HK,Gw,Hg',xU⟩:=hrel;obtain⟨no',nc',adg,_⟩:=HN.out.form;have aaL:(nums++news).length=nums.length+k:=by rw[List.length_append,hnl]
    rw[aaL] at adg;subst adg;have e1:wq.cell? ⟨B,1,none⟩=some (.slice no' (nums.length+k) nc'):=HB.out.cell 1
    have ahe:=HB.out.lt;have Hnl:=hd hnl;have XI:=hd aaL;clear hnl aaL;by_cases hlt:k<4
    ·have hdk:(k:Int)<4:=by omega
     have hsl:=XI.out;have HBn:Hid (∀q cur,af wq q cur 3->¬(Value.slice no' (nums.length+k) nc').ownBlock=some q):=fun q cur hb hq=>HN.out.ne hb (by decide) hq
     have hnB:¬(Value.slice no' (nums.length+k) nc').ownBlock=some B:=HN.out.ne HB.out (by decide)
     have Qk:g'≠B:=fun e=>by
      obtain⟨cur,hb,_⟩:=HR.out.blk (k:=g') rfl;rw[e] at hb;exact absurd (hb.inj HB.out).2 (by decide)
     clear hsl;go_wp2_with (at_builtin;first
      | (refine wpList_append_own_at _ rfl _ _ 26 rfl 0 22 i1 (.slice none 0 0) 1 24 Tryz.underlying26 hi1 I5 hz1b I7 rfl (by decide) _ _ _ rfl (HN.out.alloc _) ⟨wq.heap.size,0,none⟩ 1 1 [.slice (some ⟨g',0,none⟩) (m+k) cap'] rfl rfl (cell_one_new _ _ _) (by simp[Value.oneCell']) (by have:=XI.out;unfold maxLen;omega) (by have:=XI.out;omega) (Nat.zero_le _) ?_;intro v' w1 hown' hgrow _ hat;obtain⟨g1,cap1,rfl,hr1,hf1,ha1,hlt1⟩:=app1 hown' hgrow hat;have hB1:=HB.out.fr hf1 hnB;have hfz1:=hB1.free 1;have uU:w1.cell? ⟨B,1,none⟩=some (.slice no' (nums.length+k) nc'):=hB1.cell 1;have HB1:=hd hB1;have Hr1:=hd hr1;have Hf1:=hd hf1;have Ha1:=hd ha1;have HR2:=hd (fun x=>(HR.out.fr hf1 (fun q hq=>by obtain⟨cur,hb,_⟩:=HR.out.blk hq;exact HBn.out q cur hb)).fr ((Fr.refl (fun k=>k=B) w1).setCell ⟨B,1,none⟩ x (.inl rfl)) (fun q hq e=>by cases hq;exact Qk e));clear hown' hgrow hat hr1 hf1 ha1 hB1 hlt1)
      | (refine vH _ rfl _ _ 22 rfl 0 3 i0 (.int .i64 0) 1 8 Tryz.underlying22 hi0 hz0 hz1 hz2 rfl (by decide) (.slice (some ⟨g',0,none⟩) (m+k) cap') _ _ rfl ((HR2.out _).alloc _) ⟨w1.heap.size,0,none⟩ 1 1 [.int .i64 c] rfl rfl (FY _ _ _ _ _) (by simp[Value.oneCell']) (by simp;unfold maxLen;omega) (by simp;omega) (Nat.zero_le _) ?_;intro v' w3 hown' hold' hgrow hat;obtain⟨g3,cap3,rfl,hr3,hf3,AA,hlt3⟩:=app1 hown' hgrow hat))
     obtain⟨nx,hnx⟩:∃nx,nx=nums.length+news.length+1:=⟨_,rfl⟩;have Hnx:=hd hnx;have hlen:(nums++news).length=nums.length+news.length:=List.length_append;obtain⟨W2,hW2⟩:∃W2,w1.setCell ⟨B,1,none⟩ (.slice (some ⟨g1,0,none⟩) (nums.length+news.length+1) cap1)=W2:=⟨_,rfl⟩;have hfs:Fr (fun k=>k=B) w1 W2:=by rw[<-hW2];exact(Fr.refl (fun k=>k=B) w1).setCell _ _ (.inl rfl)
     have nJ:Fr (fun q=>q=g') W2 w3:=by
      rw[<-hW2];exact hf3.mono (fun i hi=>.inl (by cases hi;rfl))
     have hB2:af W2 B #[sv,.slice (some ⟨g1,0,none⟩) (nums.length+news.length+1) cap1,tv,rv] 29:=by
      rw[<-hW2];have:=HB1.out.set 1 (.slice (some ⟨g1,0,none⟩) (nums.length+news.length+1) cap1)
      simpa using this
     have hr1':Row w1 (.slice (some ⟨g1,0,none⟩) (nums.length+news.length+1) cap1) 22 (nums++(news++[.slice (some ⟨g',0,none⟩) (m+k) cap'])):=by
      have:=Hr1.out
      rw[hlen,List.append_assoc] at this;exact this
     have afC:g1≠B:=fun e=>by
      obtain⟨cur,hb,_⟩:=hr1'.blk (k:=g1) rfl;rw[e] at hb;exact absurd (hb.inj HB1.out).2 (by decide)
     have hr2':=hr1'.fr hfs (fun q hq e=>by cases hq;exact afC e)
     obtain⟨ahf,Gu,_⟩:=(HR2.out (.slice (some ⟨g1,0,none⟩) (nums.length+news.length+1) cap1)).blk (k:=g') rfl;rw[hW2] at Gu;have adh:g1≠g':=fun e=>by
      obtain⟨cur,hb,_⟩:=hr2'.blk (k:=g1) rfl;rw[e] at hb;exact absurd (hb.inj Gu).2 (by decide)
     have aaq:=hr2'.fr nJ (fun q hq e=>by cases hq;exact adh e)
     have hK2:∀v∈news,WB W2 v c (m+k) g w.heap.size:=fun v hv=>by
      refine((HK.out v hv).fr Hf1.out (fun q cur hb hq=>HBn.out q cur hb hq)).fr hfs (fun q cur hb e=>?_)
      rw[e] at hb;exact absurd (hb.inj HB1.out).2 (by decide)
     have hsz:=Gw.out.size;have YW:Row w3 (.slice (some ⟨g',0,none⟩) (m+k) cap') 3 (List.replicate (m+k) (.int .i64 c)):=hold';refine⟨⟨k+1,g3,cap3,.slice (some ⟨g1,0,none⟩) (nums.length+news.length+1) cap1,news++[.slice (some ⟨g',0,none⟩) (m+k) cap'],by omega,by simp,by rw[Nat.add_assoc],by rw[List.length_append,Hnl.out];rfl,?_,hd (hB2.fr nJ (fun e=>Qk e.symm)),hd aaq,hd (fun v hv=>?_),?_,?_,?_⟩,by simp[intOf];omega⟩
     ·have:=hr3
      rw[List.length_replicate] at this;rw[<-Nat.add_assoc,List.replicate_succ'];exact this
     ·rcases List.mem_append.1 hv with hv | hv
      ·exact(hK2 v hv).app nJ YW
      ·rw[List.mem_singleton.1 hv];obtain⟨cur,hb,ht⟩:=YW.blk (k:=g') rfl;refine⟨g',m+k,cap',cur,rfl,by omega,hb,Hg'.out,fun i hi=>?_⟩
       rw[List.length_replicate] at ht;have h5:(cur.toList.take (m+k))[i]? = (List.replicate (m+k) (Value.int .i64 c))[i]?:=by rw[ht]
       rw[List.getElem?_take_of_lt (by omega)] at h5
       rw[<-Array.getElem?_toList,h5,List.getElem?_replicate,if_pos (by omega)]
     ·refine((Gw.out.trans Hf1.out (fun i hi=>?_)).trans hfs (fun i hi=>.inl (.inl hi))).trans nJ (fun i hi=>?_)
      ·rcases xU.out i hi with h | h
       ·exact .inl (.inr (.inl h))
       ·exact .inr h
      ·rcases Hg'.out with h | h
       ·exact .inl (.inr (.inr (by rw[hi,h])))
       ·exact .inr (by rw[hi];exact h)
     ·rcases AA with h | h
      ·cases h;exact Hg'
      ·right
       have h1:=Hf1.out.size;have h2:=hfs.size;rw[hW2] at h;omega
     ·intro q hq;cases hq;rcases Ha1.out with h | h
      ·exact xU.out _ h
      ·exact .inr (by show w.heap.size<=g1;omega)
    ·obtain rfl:k=4:=by omega
     go_wp2_with fail
     go_end0
     have hlen:(nums++news).length=nums.length+4:=XI.out;have hsz:=Gw.out.size;have hown:∀q,LW.own B ⟨sv,.slice no' (nums.length+4) nc',tv,rv,ss,nums++news,turned,rows⟩ q->LW.own B ⟨sv,nv,tv,rv,ss,nums,turned,rows⟩ q\/q=g\/w.heap.size<=q:=fun q hq=>by
      rcases hq with rfl | hq | hq | hq | hq | ⟨v,hv,hq⟩ | hq | hq
      ·exact .inl (.inl rfl)
      ·exact .inl (.inr (.inl hq))
      ·rcases xU.out q hq with h | h
       ·exact .inl (.inr (.inr (.inl h)))
       ·exact .inr (.inr h)
      ·exact .inl (.inr (.inr (.inr (.inl hq))))
      ·exact .inl (.inr (.inr (.inr (.inr (.inl hq)))))
      ·rcases List.mem_append.1 hv with hv | hv
       ·exact .inl (.inr (.inr (.inr (.inr (.inr (.inl ⟨v,hv,hq⟩))))))
       ·obtain⟨g5,n5,c5,adi,rfl,_,_,h5,_⟩:=(HK.out v hv).ex;cases hq;exact .inr h5
      ·exact .inl (.inr (.inr (.inr (.inr (.inr (.inr (.inl hq)))))))
      ·exact .inl (.inr (.inr (.inr (.inr (.inr (.inr (.inr hq)))))))
     have hgl:g<wq.heap.size:=Nat.lt_of_lt_of_le (Nat.lt_of_lt_of_le (Hl.out.lt (k:=g) rfl) (Nat.le_refl _)) hsz;have hno:∀q cur e,LW.own B ⟨sv,nv,tv,rv,ss,nums,turned,rows⟩ q->af w q cur e->e≠29->nv.ownBlock≠some q->¬(q=B\/nv.ownBlock=some q\/q=g):=fun q cur e hq hb he h2 h3=>by
      rcases h3 with h3 | h3 | h3
      ·rw[h3] at hb;exact he (hb.inj H.out.blk).2
      ·exact h2 h3
      ·exact hg (by rw[<-h3];exact hq)
     have XJ:∀q cur e,af w q cur e->e≠22->nv.ownBlock≠some q:=fun q cur e hb he hq=>by
      obtain⟨cur',hb',_⟩:=H.out.keeps.rn.blk hq;exact he (hb.inj hb').2
     have k1:∀q,sv.ownBlock=some q->¬(q=B\/nv.ownBlock=some q\/q=g):=fun q hq=>by
      obtain⟨cur,hb,_⟩:=H.out.sides.blk hq;exact hno q cur _ (.inr (.inl hq)) hb (by decide) (XJ q cur _ hb (by decide))
     have k2:∀q,tv.ownBlock=some q->¬(q=B\/nv.ownBlock=some q\/q=g):=fun q hq=>by
      obtain⟨cur,hb,_⟩:=H.out.keeps.rt.blk hq;exact hno q cur _ (.inr (.inr (.inr (.inl hq)))) hb (by decide) (fun h=>H.out.nt q h hq)
     have k3:∀q,rv.ownBlock=some q->¬(q=B\/nv.ownBlock=some q\/q=g):=fun q hq=>by
      obtain⟨cur,hb,_⟩:=H.out.keeps.rr.blk hq;exact hno q cur _ (.inr (.inr (.inr (.inr (.inl hq))))) hb (by decide) (XJ q cur _ hb (by decide))
     have k4:∀v∈nums,∀q,v.ownBlock=some q->¬(q=B\/nv.ownBlock=some q\/q=g):=fun v hv q hq=>by
      obtain⟨cur,hb⟩:=H.out.ints v (.inl hv) q hq;exact hno q cur _ (.inr (.inr (.inr (.inr (.inr (.inl ⟨v,hv,hq⟩)))))) hb (by decide) (XJ q cur _ hb (by decide))
     have k5:∀v∈turned,∀q,v.ownBlock=some q->¬(q=B\/nv.ownBlock=some q\/q=g):=fun v hv q hq=>by
      obtain⟨cur,hb⟩:=H.out.ints v (.inr hv) q hq;exact hno q cur _ (.inr (.inr (.inr (.inr (.inr (.inr (.inl ⟨v,hv,hq⟩))))))) hb (by decide) (XJ q cur _ hb (by decide))
     have k6:∀v∈rows,∀q,v.ownBlock=some q->¬(q=B\/nv.ownBlock=some q\/q=g):=fun v hv q hq=>by
      obtain⟨cur,hb⟩:=H.out.FZ v hv q hq;exact hno q cur _ (.inr (.inr (.inr (.inr (.inr (.inr (.inr ⟨v,hv,hq⟩))))))) hb (by decide) (fun h=>H.out.nr q h v hv hq)
     have hk:=H.out.keeps;have YX:∀v∈news,∀q,v.ownBlock=some q->∃cur,af wq q cur 3:=fun v hv q hq=>by
      obtain⟨g5,n5,c5,adi,rfl,_,hb5,_⟩:=(HK.out v hv).ex;cases hq;exact⟨adi,hb5⟩
     refine⟨rfl,.slice no' (nums.length+4) nc',news,Hnl.out,⟨HB.out,H.out.sides.fr Gw.out k1,⟨HN.out,hk.rt.fr Gw.out k2,hk.rr.fr Gw.out k3,by rw[hlen];omega,hk.lt,hk.lr,fun i hi=>?_,fun i hi=>(hk.at_ i hi).fr Gw.out (k5 _ (List.getElem_mem hi)),fun i hi=>(hk.ar i hi).fr Gw.out (k6 _ (List.getElem_mem hi))⟩,?_,?_,?_,?_,?_,?_,H.out.tr⟩,Gw.out,hown⟩
     ·by_cases hin:i<nums.length
      ·show mV wq ((nums++news)[i]) _
       rw[List.getElem_append_left hin];exact(hk.an i hin).fr Gw.out (k4 _ (List.getElem_mem hin))
      ·show mV wq ((nums++news)[i]) _
       have hi':i<nums.length+4:=by rw[<-hlen];exact hi
       rw[List.getElem_append_right (by omega)]
       have e1:i / 4*4=nums.length:=by omega
       rw[e1,<-Hc.out];exact(HK.out _ (List.getElem_mem _)).all (by omega)
     ·intro q hq;rcases hown q hq with h | h | h
      ·exact H.out.lo q h
      ·omega
      ·omega
     ·intro q hq;rcases hq with rfl | hq | hq | hq | hq | ⟨v,hv,hq⟩ | hq | hq
      ·exact HB.out.lt
      ·exact Nat.lt_of_lt_of_le (H.out.lt q (.inr (.inl hq))) hsz
      ·exact HN.out.lt hq
      ·exact Nat.lt_of_lt_of_le (H.out.lt q (.inr (.inr (.inr (.inl hq))))) hsz
      ·exact Nat.lt_of_lt_of_le (H.out.lt q (.inr (.inr (.inr (.inr (.inl hq)))))) hsz
      ·rcases List.mem_append.1 hv with hv | hv
       ·exact Nat.lt_of_lt_of_le (H.out.lt q (.inr (.inr (.inr (.inr (.inr (.inl ⟨v,hv,hq⟩))))))) hsz
       ·obtain⟨cur,hb⟩:=YX v hv q hq;exact hb.lt
      ·exact Nat.lt_of_lt_of_le (H.out.lt q (.inr (.inr (.inr (.inr (.inr (.inr (.inl hq)))))))) hsz
      ·exact Nat.lt_of_lt_of_le (H.out.lt q (.inr (.inr (.inr (.inr (.inr (.inr (.inr hq)))))))) hsz
     ·intro v hv q hq;rcases hv with hv | hv
      ·rcases List.mem_append.1 hv with hv | hv
       ·obtain⟨cur,hb⟩:=H.out.ints v (.inl hv) q hq;exact⟨cur,hb.fr Gw.out (k4 v hv q hq)⟩
       ·exact YX v hv q hq
      ·obtain⟨cur,hb⟩:=H.out.ints v (.inr hv) q hq;exact⟨cur,hb.fr Gw.out (k5 v hv q hq)⟩
     ·intro v hv q hq;obtain⟨cur,hb⟩:=H.out.FZ v hv q hq;exact⟨cur,hb.fr Gw.out (k6 v hv q hq)⟩
     ·intro q hq ht;rcases xU.out q hq with h | h
      ·exact H.out.nt q h ht
      ·have:=H.out.lt q (.inr (.inr (.inr (.inl ht))))
       omega
     ·intro q hq v hv ht;rcases xU.out q hq with h | h
      ·exact H.out.nr q h v hv ht
      ·have:=H.out.lt q (.inr (.inr (.inr (.inr (.inr (.inr (.inr ⟨v,hv,ht⟩)))))))
       omega
structure Sd where
 D:Nat
 X:Nat
 Y:Nat
 zs:List Int
 s:WS
 R:RS
 bz:Bool
 sq:Value
 lt:Value
def Sd.cells (d:Sd):Array Value:=#[.pointer (some ⟨d.X,0,none⟩),.pointer (some ⟨d.Y,0,none⟩),.bool d.bz,d.sq,d.lt]
def Sd.own (d:Sd) (k:Nat):Prop:=k=d.D\/d.s.own d.X k\/d.R.own d.Y k
structure eX (W w:World) (lo:Nat) (d:Sd):Prop where
 blk:af w d.D d.cells 52
 pair:Pair d.bz W w lo d.X d.Y d.zs d.s d.R
 Rt:lo<=d.D
structure LS (W w:World) (lo B:Nat) (L:LW) (d:Sd):Prop where
 env:Env W w lo
 law:gZ w lo B L
 side:eX W w lo d
 apart:∀k,L.own B k->¬d.own k
theorem eX.lt {W w:World} {lo:Nat} {d:Sd} (h:eX W w lo d) {k:Nat} (hk:d.own k):k<w.heap.size:=by
 rcases hk with rfl | hk | hk
 ·exact h.blk.lt
 ·exact h.pair.at_.mem.lt hk
 ·exact h.pair.ref.lt hk
theorem eX.lo {W w:World} {lo:Nat} {d:Sd} (h:eX W w lo d) {k:Nat} (hk:d.own k):lo<=k:=by
 rcases hk with rfl | hk | hk
 ·exact h.Rt
 ·exact h.pair.xlo k hk
 ·exact h.pair.ref.lo hk
def nR:List TypeId:=[29,49,22,26,3,52,84,83,4,41,147,66,73,131,125,1,137,35,60]
theorem MQ:∀e∈yJ,e∈nR:=by decide
theorem MR:∀e∈rY,e∈nR:=by decide
theorem gZ.ty {w:World} {lo B:Nat} {L:LW} (h:gZ w lo B L) {k:Nat} (hk:L.own B k):∃cur e,af w k cur e/\e∈nR:=by
 rcases hk with rfl | hk | hk | hk | hk | ⟨v,hv,hk⟩ | ⟨v,hv,hk⟩ | ⟨v,hv,hk⟩
 ·exact⟨_,_,h.blk,by decide⟩
 ·obtain⟨cur,hb,_⟩:=h.sides.blk hk;exact⟨_,_,hb,by decide⟩
 ·obtain⟨cur,hb,_⟩:=h.keeps.rn.blk hk;exact⟨_,_,hb,by decide⟩
 ·obtain⟨cur,hb,_⟩:=h.keeps.rt.blk hk;exact⟨_,_,hb,by decide⟩
 ·obtain⟨cur,hb,_⟩:=h.keeps.rr.blk hk;exact⟨_,_,hb,by decide⟩
 ·obtain⟨cur,hb⟩:=h.ints v (.inl hv) k hk;exact⟨_,_,hb,by decide⟩
 ·obtain⟨cur,hb⟩:=h.ints v (.inr hv) k hk;exact⟨_,_,hb,by decide⟩
 ·obtain⟨cur,hb⟩:=h.FZ v hv k hk;exact⟨_,_,hb,by decide⟩
theorem eX.ty {W w:World} {lo:Nat} {d:Sd} (h:eX W w lo d) {k:Nat} (hk:d.own k):∃cur e,af w k cur e/\e∈nR:=by
 rcases hk with rfl | hk | hk
 ·exact⟨_,_,h.blk,by decide⟩
 ·obtain⟨cur,e,hb,he⟩:=h.pair.at_.mem.ty hk;exact⟨cur,e,hb,MQ e he⟩
 ·rcases h.pair.ref.ty hk with h1 | ⟨cur,e,hb,he⟩
  ·obtain⟨cur,hb,_⟩:=h.pair.ref.dU.sz.blk h1;exact⟨_,_,hb,by decide⟩
  ·refine⟨cur,e,hb,?_⟩
   rcases he with he | he
   ·exact MR e he
   ·rw[he];decide
theorem eX.fr {S:Nat->Prop} {W w w':World} {lo:Nat} {d:Sd} (h:eX W w lo d) (f:Fr S w w') (hn:∀k,d.own k->¬S k) {es:List TypeId} (o:Only w S es) (he:151∉es):eX W w' lo d:=
 ⟨h.blk.fr f (hn _ (.inl rfl)),⟨h.pair.at_.fr f (fun k hk=>hn k (.inr (.inl hk))) o he,h.pair.ref.fr f (fun k hk=>hn k (.inr (.inr hk))),h.pair.busy,h.pair.now,h.pair.tabs,h.pair.ku,h.pair.UE,h.pair.xlo⟩,h.Rt⟩
theorem eX.nw {W w w':World} {lo:Nat} {d:Sd} (h:eX W w lo d) (f:Nw w w'):eX W w' lo d:=⟨h.blk.nw f,h.pair.nw f,h.Rt⟩
theorem LS.nw {W w w':World} {lo B:Nat} {L:LW} {d:Sd} (h:LS W w lo B L d) (f:Nw w w'):LS W w' lo B L d:=⟨h.env.step f,h.law.nw f,h.side.nw f,h.apart⟩
theorem LS.only {W w:World} {lo B:Nat} {L:LW} {d:Sd} (h:LS W w lo B L d):Only w (fun k=>L.own B k\/d.own k) nR:=fun k cur e hk hb=>by
 rcases hk with hk | hk
 ·obtain⟨_,_,hb',he⟩:=h.law.ty hk;rw[(hb.inj hb').2];exact he
 ·obtain⟨_,_,hb',he⟩:=h.side.ty hk;rw[(hb.inj hb').2];exact he
structure dJ (w w':World) (B:Nat) (L L':LW) (d d':Sd):Prop where
 fr:Fr (fun k=>L.own B k\/d.own k) w w'
 nS:∀k,L'.own B k->L.own B k\/w.heap.size<=k
 xB:∀k,d'.own k->d.own k\/w.heap.size<=k
 ss:L'.ss=L.ss
 dd:d'.D=d.D
 zs:d'.zs=d.zs
 bz:d'.bz=d.bz
 sq:(d'.sq,d'.lt,d'.X)=(d.sq,d.lt,d.X)
 four:L'.nums.length % 4=L.nums.length % 4
theorem dJ.nw {w w':World} (h:Nw w w') (B:Nat) (L:LW) (d:Sd):dJ w w' B L L d d:=⟨h.mono (fun _ x=>x.elim),fun _ h=>.inl h,fun _ h=>.inl h,rfl,rfl,rfl,rfl,rfl,rfl⟩
theorem dJ.trans {a b c:World} {B:Nat} {L L' L'':LW} {d d' d'':Sd} (h:dJ a b B L L' d d') (k:dJ b c B L' L'' d' d''):dJ a c B L L'' d d'':=
 ⟨h.fr.trans k.fr (fun i hi=>by
  rcases hi with hi | hi
  ·rcases h.nS i hi with h1 | h1
   ·exact .inl (.inl h1)
   ·exact .inr h1
  ·rcases h.xB i hi with h1 | h1
   ·exact .inl (.inr h1)
   ·exact .inr h1),fun i hi=>by
  rcases k.nS i hi with h1 | h1
  ·exact h.nS i h1
  ·exact .inr (Nat.le_trans h.fr.size h1),fun i hi=>by
  rcases k.xB i hi with h1 | h1
  ·exact h.xB i h1
  ·exact .inr (Nat.le_trans h.fr.size h1),k.ss.trans h.ss,k.dd.trans h.dd,k.zs.trans h.zs,k.bz.trans h.bz,k.sq.trans h.sq,k.four.trans h.four⟩
theorem LS.pair {W w w':World} {lo B:Nat} {L:LW} {d:Sd} {s':WS} {R':RS} (h:LS W w lo B L d) (hp:Pair d.bz W w' lo d.X d.Y d.zs s' R') (k:Eu w w' d.X d.Y d.s s' d.R R') (hW:Nw W w'):LS W w' lo B L {d with s:=s',R:=R'}/\dJ w w' B L L d {d with s:=s',R:=R'}:=by
 have hwr:∀q,(d.s.own d.X q\/d.R.wr d.Y q)->d.own q:=fun q hq=>by
  rcases hq with hq | hq
  ·exact .inr (.inl hq)
  ·exact .inr (.inr (.inl hq))
 have hown:∀q,Sd.own {d with s:=s',R:=R'} q->d.own q\/w.heap.size<=q:=fun q hq=>by
  rcases hq with hq | hq
  ·exact .inl (.inl hq)
  ·rcases k.grow q hq with h1 | h1 | h1
   ·exact .inl (.inr (.inl h1))
   ·exact .inl (.inr (.inr h1))
   ·exact .inr h1
 have hDn:¬(d.s.own d.X d.D\/d.R.wr d.Y d.D):=fun hq=>by
  rcases hq with hq | hq
  ·obtain⟨cur,e,hb,he⟩:=h.side.pair.at_.mem.ty hq;rw[(hb.inj h.side.blk).2] at he;exact absurd he (by decide)
  ·obtain⟨cur,e,hb,he⟩:=h.side.pair.ref.Xy hq;rw[(hb.inj h.side.blk).2] at he;exact absurd he (by decide)
 have hle:=k.fr.size;refine⟨⟨⟨h.env.base,hW,Nat.le_trans h.env.le hle⟩,h.law.fr k.fr (fun q hq hs=>h.apart q hq (hwr q hs)),⟨h.side.blk.fr k.fr hDn,hp,h.side.Rt⟩,fun q hq ho=>?_⟩,⟨k.fr.mono (fun q hq=>.inl (.inr (hwr q hq))),fun q hq=>.inl hq,hown,rfl,rfl,rfl,rfl,rfl,rfl⟩⟩
 rcases hown q ho with h1 | h1
 ·exact h.apart q hq h1
 ·have:=h.law.lt q hq
  omega
set_option maxRecDepth 1000000 in
theorem XK (e:Int) (w:World):Calls Tryz.prog 80 #[.int .i64 e] w fun x w'=>x= .returned (.int .i64 e)/\w'=w:=by
 go_enter Tryz.func80,Tryz.ntmps80
 go_wp2_with fail
 go_ret
 exact⟨rfl,rfl⟩
set_option maxRecDepth 1000000 in
theorem nT (v:Value) (e:Int) (w:World):Calls Tryz.prog 57 #[v,.int .i64 e,.int .i64 e] w fun x w'=>x= .returned (.bool true)/\w'=w:=by
 have hee:(e==e)=true:=by simp
 go_enter Tryz.func57,Tryz.ntmps57
 go_wp2_with (go_at_call 80;refine(XK e _).mono ?_;rintro x w' ⟨rfl,rfl⟩)
 go_ret
 exact⟨rfl,rfl⟩
structure kU where
 kind:Int
 a:Int
 b:Int
 vo:Option Addr
 ak:Nat
 ro:Option Addr
 au:Nat
 vars:List Int
 rows:List (List Int)
 nt:Bool
 way:Int
 which:Bool
 fv:Value
 mv:Value
def kU.cells (o:kU):Array Value:=#[.int .i64 o.kind,.int .i64 o.a,.int .i64 o.b,.slice o.vo o.vars.length o.ak,.slice o.ro o.rows.length o.au,.bool o.nt,.int .i64 o.way,.bool o.which,o.fv,o.mv]
structure qV (w:World) (b0:Nat) (d:Sd) (o:kU):Prop where
 k1:af w d.D d.cells 52
 k2:af w b0 o.cells 54
theorem qV.fr {S:Nat->Prop} {w w':World} {b0:Nat} {d:Sd} {o:kU} (h:qV w b0 d o) (f:Fr S w w') {es:List TypeId} (ho:Only w S es) (h1:52∉es) (h2:54∉es):qV w' b0 d o:=
 ⟨h.k1.fr f (fun hs=>h1 (ho _ _ _ hs h.k1)),h.k2.fr f (fun hs=>h2 (ho _ _ _ hs h.k2))⟩
theorem qV.nw {w w':World} {b0:Nat} {d:Sd} {o:kU} (h:qV w b0 d o) (f:Nw w w'):qV w' b0 d o:=⟨h.k1.nw f,h.k2.nw f⟩
theorem Pair.YY {bz:Bool} {W w:World} {lo X Y:Nat} {zs:List Int} {s:WS} {R:RS} (h:Pair bz W w lo X Y zs s R):Only w (fun k=>s.own X k\/R.wr Y k) (yJ++rY):=fun k cur e hk hb=>by
 rcases hk with hk | hk
 ·exact List.mem_append_left _ (h.at_.mem.only k cur e hk hb)
 ·exact List.mem_append_right _ (h.ref.only k cur e hk hb)
noncomputable def adk:Array Oper:=gU Tryz.f38 6
noncomputable def adl:Array Oper:=gU Tryz.f38 7
noncomputable def YZ:Array Oper:=gU Tryz.f38 10
set_option maxRecDepth 1000000 in
theorem Jr (W:World) (lo B:Nat) (L:LW) (d:Sd) (o:kU) (w:World) (h:LS W w lo B L d) (hbz:d.bz=false) (hk:o.kind=2):
  Calls Tryz.prog 38 #[.pointer (some ⟨d.D,0,none⟩),.agg o.cells] w fun e w'=>e= .returned (.bool true)/\∃d',LS W w' lo B L d'/\dJ w w' B L L d d':=by
 obtain⟨b0,hb0⟩:∃b0,b0=w.heap.size:=⟨_,rfl⟩;obtain⟨V,hV⟩:∃V,V=w.alloc (.cells o.cells 54):=⟨_,rfl⟩;have fA:Nw w V:=by rw[hV];exact(Fr.refl _ w).alloc _
 have hC:qV V b0 d o:=⟨h.side.blk.nw fA,by rw[hV,hb0];exact af.new _ _ _⟩
 have uk:=h.nw fA;have HC:=hd hC;have HV:=hd uk;have lK:=hd fA;obtain⟨a,ha⟩:∃a,o.a=a:=⟨_,rfl⟩;obtain⟨b,hb⟩:∃b,o.b=b:=⟨_,rfl⟩;have hcell:∀w',qV w' b0 d o->w'.cell? ⟨b0,0,none⟩=some (.int .i64 2)/\w'.cell? ⟨b0,1,none⟩=some (.int .i64 a)/\w'.cell? ⟨b0,2,none⟩=some (.int .i64 b)/\w'.cell? ⟨d.D,0,none⟩=some (.pointer (some ⟨d.X,0,none⟩))/\w'.cell? ⟨d.D,1,none⟩=some (.pointer (some ⟨d.Y,0,none⟩))/\w'.cell? ⟨d.D,2,none⟩=some (.bool false):=fun w' hc=>by
  refine⟨(hc.k2.cell 0).trans ?_,(hc.k2.cell 1).trans ?_,(hc.k2.cell 2).trans ?_,hc.k1.cell 0,hc.k1.cell 1,(hc.k1.cell 2).trans ?_⟩
  ·rw[<-hk];rfl
  ·rw[<-ha];rfl
  ·rw[<-hb];rfl
  ·rw[<-hbz];rfl
 have fH:=hd hcell;obtain⟨c0,c1,c2,_,_,_⟩:=hcell V hC;have hbl:=hC.k2.lt;have hp0:=uk.side.pair;rw[hbz] at hp0;have Oy:=hd hp0;have F6:=hd hbz;clear h uk hC hcell hbz hk ha hb fA hp0;go_enter Tryz.func38,Tryz.ntmps38
 go_upto_region 1 with fail
 rw[<-hV,<-hb0];clear hV hb0;go_wp2_with fail
 have hK0:qV V.drew b0 d o:=HC.out.nw ((Fr.refl _ V).drew);refine eF adk 10 (fun w''=>qV w'' b0 d o) (by kernel_rfl) (by kernel_rfl) (by kernel_rfl) ?_
 refine take_at (i:=0) (d:=some 16) (v:=.pointer (some ⟨d.D,0,none⟩)) (by kernel_rfl) (by kernel_rfl) (fun _ _ _ h=>h) (fun w'' hS=>by kernel_rfl) hK0 ?_
 refine take_at (i:=1) (d:=some 17) (v:=.pointer (some ⟨d.D,0,none⟩)) (by kernel_rfl) (by kernel_rfl) (fun _ _ _ h=>h) (fun w'' hS=>by kernel_rfl) hK0 ?_
 refine take_at (i:=2) (d:=some 18) (v:=.pointer (some ⟨d.D,0,none⟩)) (by kernel_rfl) (by kernel_rfl) (fun _ _ _ h=>h) (fun w'' hS=>by kernel_rfl) hK0 ?_
 refine take_at (i:=3) (d:=some 19) (v:=.pointer (some ⟨d.X,0,none⟩)) (by kernel_rfl) (by kernel_rfl) (fun _ _ _ h=>h) (fun w'' hS=>aj 35 (.tmp 18) (by kernel_rfl) (by kernel_rfl) (by kernel_rfl) (fH.out w'' hS).2.2.2.1) hK0 ?_
 refine take_at (i:=4) (d:=some 20) (v:=.pointer (some ⟨b0,1,none⟩)) (by kernel_rfl) (by kernel_rfl) (fun _ _ _ h=>h) (fun w'' hS=>by kernel_rfl) hK0 ?_
 refine take_at (i:=5) (d:=some 21) (v:=.int .i64 a) (by kernel_rfl) (by kernel_rfl) (fun _ _ _ h=>h) (fun w'' hS=>aj 3 (.tmp 20) (by kernel_rfl) (by kernel_rfl) (by kernel_rfl) (fH.out w'' hS).2.1) hK0 ?_
 refine take_at (i:=6) (d:=some 22) (v:=.pointer (some ⟨b0,2,none⟩)) (by kernel_rfl) (by kernel_rfl) (fun _ _ _ h=>h) (fun w'' hS=>by kernel_rfl) hK0 ?_
 refine take_at (i:=7) (d:=some 23) (v:=.int .i64 b) (by kernel_rfl) (by kernel_rfl) (fun _ _ _ h=>h) (fun w'' hS=>aj 3 (.tmp 22) (by kernel_rfl) (by kernel_rfl) (by kernel_rfl) (fH.out w'' hS).2.2.1) hK0 ?_
 refine enter_at (i:=8) (d:=some 24) (w':=V.drew) (f:=56) (args:=#[.pointer (some ⟨d.X,0,none⟩),.int .i64 a,.int .i64 b]) (by kernel_rfl) (by kernel_rfl) (by kernel_rfl) ?_
 have hdr:Nw V V.drew:=(Fr.refl _ V).drew;refine(XE a b (HV.out.env.step hdr) (Oy.out.nw hdr)).mono ?_
 rintro e w1 ⟨r,rfl,hf1,hnext⟩
 have hK1:qV w1 b0 d o:=hK0.fr hf1 (Oy.out.nw hdr).at_.mem.only (by decide) (by decide)
 refine⟨_,rfl,hK1,?_⟩
 refine dG (i:=9) (d:=some 5) (v:=.int .i64 r) (w':=w1) (by kernel_rfl) (by kernel_rfl) (by kernel_rfl) hK1 ?_
 refine wpAnyH_done (by kernel_rfl) ?_ _
 simp only[Act.put,bQ,bW,bU];have Ru:=hd hK1;have gY:=hd hnext;obtain⟨_,_,_,_,_,e2⟩:=fH.out w1 hK1;have hDl:=hK1.k1.lt;clear hK1 hnext hf1 hK0 c0 c1 c2 hdr hbl;go_wp2_with fail
 have hK2:qV w1.drew b0 d o:=Ru.out.nw ((Fr.refl _ w1).drew);refine eF YZ 16 (fun w''=>qV w'' b0 d o) (by kernel_rfl) (by kernel_rfl) (by kernel_rfl) ?_
 refine take_at (i:=0) (d:=some 40) (v:=.pointer (some ⟨d.D,0,none⟩)) (by kernel_rfl) (by kernel_rfl) (fun _ _ _ h=>h) (fun w'' hS=>by kernel_rfl) hK2 ?_
 refine take_at (i:=1) (d:=some 41) (v:=.int .i64 r) (by kernel_rfl) (by kernel_rfl) (fun _ _ _ h=>h) (fun w'' hS=>by kernel_rfl) hK2 ?_
 refine take_at (i:=2) (d:=some 42) (v:=.pointer (some ⟨d.D,0,none⟩)) (by kernel_rfl) (by kernel_rfl) (fun _ _ _ h=>h) (fun w'' hS=>by kernel_rfl) hK2 ?_
 refine take_at (i:=3) (d:=some 43) (v:=.pointer (some ⟨d.D,0,none⟩)) (by kernel_rfl) (by kernel_rfl) (fun _ _ _ h=>h) (fun w'' hS=>by kernel_rfl) hK2 ?_
 refine take_at (i:=4) (d:=some 44) (v:=.pointer (some ⟨d.D,1,none⟩)) (by kernel_rfl) (by kernel_rfl) (fun _ _ _ h=>h) (fun w'' hS=>by kernel_rfl) hK2 ?_
 refine take_at (i:=5) (d:=some 45) (v:=.pointer (some ⟨d.Y,0,none⟩)) (by kernel_rfl) (by kernel_rfl) (fun _ _ _ h=>h) (fun w'' hS=>aj 46 (.tmp 44) (by kernel_rfl) (by kernel_rfl) (by kernel_rfl) (fH.out w'' hS).2.2.2.2.1) hK2 ?_
 refine take_at (i:=6) (d:=some 46) (v:=.pointer (some ⟨b0,1,none⟩)) (by kernel_rfl) (by kernel_rfl) (fun _ _ _ h=>h) (fun w'' hS=>by kernel_rfl) hK2 ?_
 refine take_at (i:=7) (d:=some 47) (v:=.int .i64 a) (by kernel_rfl) (by kernel_rfl) (fun _ _ _ h=>h) (fun w'' hS=>aj 3 (.tmp 46) (by kernel_rfl) (by kernel_rfl) (by kernel_rfl) (fH.out w'' hS).2.1) hK2 ?_
 refine take_at (i:=8) (d:=some 48) (v:=.pointer (some ⟨b0,2,none⟩)) (by kernel_rfl) (by kernel_rfl) (fun _ _ _ h=>h) (fun w'' hS=>by kernel_rfl) hK2 ?_
 refine take_at (i:=9) (d:=some 49) (v:=.int .i64 b) (by kernel_rfl) (by kernel_rfl) (fun _ _ _ h=>h) (fun w'' hS=>aj 3 (.tmp 48) (by kernel_rfl) (by kernel_rfl) (by kernel_rfl) (fH.out w'' hS).2.2.1) hK2 ?_
 refine take_at (i:=10) (d:=some 50) (v:=.pointer (some ⟨b0,0,none⟩)) (by kernel_rfl) (by kernel_rfl) (fun _ _ _ h=>h) (fun w'' hS=>by kernel_rfl) hK2 ?_
 refine take_at (i:=11) (d:=some 51) (v:=.int .i64 2) (by kernel_rfl) (by kernel_rfl) (fun _ _ _ h=>h) (fun w'' hS=>aj 3 (.tmp 50) (by kernel_rfl) (by kernel_rfl) (by kernel_rfl) (fH.out w'' hS).1) hK2 ?_
 refine take_at (i:=12) (d:=some 52) (v:=.bool true) (by kernel_rfl) (by kernel_rfl) (fun _ _ _ h=>h) (fun w'' hS=>by kernel_rfl) hK2 ?_
 refine enter_at (i:=13) (d:=some 53) (w':=w1.drew) (f:=58) (args:=#[.pointer (some ⟨d.Y,0,none⟩),.int .i64 a,.int .i64 b,.bool true]) (by kernel_rfl) (by kernel_rfl) (by kernel_rfl) ?_
 refine(gY.out w1.drew ((Fr.refl _ w1).drew)).mono ?_
 rintro e w3 ⟨rfl,s',R',hp3,hs3,hW3⟩
 have hdr:Nw V V.drew:=(Fr.refl _ V).drew;have hK3:qV w3 b0 d o:=(HC.out.nw hdr).fr hs3.fr (Oy.out.nw hdr).YY (by decide) (by decide)
 refine⟨_,rfl,hK3,?_⟩
 refine enter_at (i:=14) (d:=some 54) (w':=w3) (f:=57) (args:=#[.pointer (some ⟨d.D,0,none⟩),.int .i64 r,.int .i64 r]) (by kernel_rfl) (by kernel_rfl) (by kernel_rfl) ?_
 refine(nT _ r w3).mono ?_
 rintro e w4 ⟨rfl,rfl⟩
 refine⟨_,rfl,hK3,?_⟩
 refine dG (i:=15) (d:=some 4) (v:=.bool true) (w':=w4) (by kernel_rfl) (by kernel_rfl) (by kernel_rfl) hK3 ?_
 refine wpAnyH_done (by kernel_rfl) ?_ _
 simp only[Act.put,bQ,bW,bU];rw[<-F6.out] at hp3;have fQ:=hd ((HV.out.nw hdr).pair hp3 hs3 hW3);have aaM:=hd (lK.out.trans hdr (fun _ x=>x.elim))
 clear hK3 hK2 hp3 hs3 hW3 hdr gY Ru e2 hDl;go_wp2_with fail
 go_ret
 exact⟨rfl,_,fQ.out.1,(dJ.nw aaM.out B L d).trans fQ.out.2⟩
set_option maxRecDepth 1000000 in
theorem Cf (W:World) (lo B:Nat) (L:LW) (d:Sd) (o:kU) (w:World) (h:LS W w lo B L d) (hbz:d.bz=false) (hk:o.kind=3):
  Calls Tryz.prog 38 #[.pointer (some ⟨d.D,0,none⟩),.agg o.cells] w fun e w'=>e= .returned (.bool true)/\∃d',LS W w' lo B L d'/\dJ w w' B L L d d':=by
 obtain⟨b0,hb0⟩:∃b0,b0=w.heap.size:=⟨_,rfl⟩;obtain⟨V,hV⟩:∃V,V=w.alloc (.cells o.cells 54):=⟨_,rfl⟩;have fA:Nw w V:=by rw[hV];exact(Fr.refl _ w).alloc _
 have hC:qV V b0 d o:=⟨h.side.blk.nw fA,by rw[hV,hb0];exact af.new _ _ _⟩
 have uk:=h.nw fA;have HC:=hd hC;have HV:=hd uk;have lK:=hd fA;obtain⟨a,ha⟩:∃a,o.a=a:=⟨_,rfl⟩;obtain⟨b,hb⟩:∃b,o.b=b:=⟨_,rfl⟩;have hcell:∀w',qV w' b0 d o->w'.cell? ⟨b0,0,none⟩=some (.int .i64 3)/\w'.cell? ⟨b0,1,none⟩=some (.int .i64 a)/\w'.cell? ⟨b0,2,none⟩=some (.int .i64 b)/\w'.cell? ⟨d.D,0,none⟩=some (.pointer (some ⟨d.X,0,none⟩))/\w'.cell? ⟨d.D,1,none⟩=some (.pointer (some ⟨d.Y,0,none⟩))/\w'.cell? ⟨d.D,2,none⟩=some (.bool false):=fun w' hc=>by
  refine⟨(hc.k2.cell 0).trans ?_,(hc.k2.cell 1).trans ?_,(hc.k2.cell 2).trans ?_,hc.k1.cell 0,hc.k1.cell 1,(hc.k1.cell 2).trans ?_⟩
  ·rw[<-hk];rfl
  ·rw[<-ha];rfl
  ·rw[<-hb];rfl
  ·rw[<-hbz];rfl
 have fH:=hd hcell;obtain⟨c0,c1,c2,_,_,_⟩:=hcell V hC;have hbl:=hC.k2.lt;have hp0:=uk.side.pair;rw[hbz] at hp0;have Oy:=hd hp0;have F6:=hd hbz;clear h uk hC hcell hbz hk ha hb fA hp0;go_enter Tryz.func38,Tryz.ntmps38
 go_upto_region 1 with fail
 rw[<-hV,<-hb0];clear hV hb0;go_wp2_with fail
 have hK0:qV V.drew b0 d o:=HC.out.nw ((Fr.refl _ V).drew);refine eF adl 10 (fun w''=>qV w'' b0 d o) (by kernel_rfl) (by kernel_rfl) (by kernel_rfl) ?_
 refine take_at (i:=0) (d:=some 25) (v:=.pointer (some ⟨d.D,0,none⟩)) (by kernel_rfl) (by kernel_rfl) (fun _ _ _ h=>h) (fun w'' hS=>by kernel_rfl) hK0 ?_
 refine take_at (i:=1) (d:=some 26) (v:=.pointer (some ⟨d.D,0,none⟩)) (by kernel_rfl) (by kernel_rfl) (fun _ _ _ h=>h) (fun w'' hS=>by kernel_rfl) hK0 ?_
 refine take_at (i:=2) (d:=some 27) (v:=.pointer (some ⟨d.D,0,none⟩)) (by kernel_rfl) (by kernel_rfl) (fun _ _ _ h=>h) (fun w'' hS=>by kernel_rfl) hK0 ?_
 refine take_at (i:=3) (d:=some 28) (v:=.pointer (some ⟨d.X,0,none⟩)) (by kernel_rfl) (by kernel_rfl) (fun _ _ _ h=>h) (fun w'' hS=>aj 35 (.tmp 27) (by kernel_rfl) (by kernel_rfl) (by kernel_rfl) (fH.out w'' hS).2.2.2.1) hK0 ?_
 refine take_at (i:=4) (d:=some 29) (v:=.pointer (some ⟨b0,1,none⟩)) (by kernel_rfl) (by kernel_rfl) (fun _ _ _ h=>h) (fun w'' hS=>by kernel_rfl) hK0 ?_
 refine take_at (i:=5) (d:=some 30) (v:=.int .i64 a) (by kernel_rfl) (by kernel_rfl) (fun _ _ _ h=>h) (fun w'' hS=>aj 3 (.tmp 29) (by kernel_rfl) (by kernel_rfl) (by kernel_rfl) (fH.out w'' hS).2.1) hK0 ?_
 refine take_at (i:=6) (d:=some 31) (v:=.pointer (some ⟨b0,2,none⟩)) (by kernel_rfl) (by kernel_rfl) (fun _ _ _ h=>h) (fun w'' hS=>by kernel_rfl) hK0 ?_
 refine take_at (i:=7) (d:=some 32) (v:=.int .i64 b) (by kernel_rfl) (by kernel_rfl) (fun _ _ _ h=>h) (fun w'' hS=>aj 3 (.tmp 31) (by kernel_rfl) (by kernel_rfl) (by kernel_rfl) (fH.out w'' hS).2.2.1) hK0 ?_
 refine enter_at (i:=8) (d:=some 33) (w':=V.drew) (f:=13) (args:=#[.pointer (some ⟨d.X,0,none⟩),.int .i64 a,.int .i64 b]) (by kernel_rfl) (by kernel_rfl) (by kernel_rfl) ?_
 have hdr:Nw V V.drew:=(Fr.refl _ V).drew;refine(MM a b (HV.out.env.step hdr) (Oy.out.nw hdr)).mono ?_
 rintro e w1 ⟨r,rfl,hf1,hnext⟩
 have hK1:qV w1 b0 d o:=hK0.fr hf1 (Oy.out.nw hdr).at_.mem.only (by decide) (by decide)
 refine⟨_,rfl,hK1,?_⟩
 refine dG (i:=9) (d:=some 5) (v:=.int .i64 r) (w':=w1) (by kernel_rfl) (by kernel_rfl) (by kernel_rfl) hK1 ?_
 refine wpAnyH_done (by kernel_rfl) ?_ _
 simp only[Act.put,bQ,bW,bU];have Ru:=hd hK1;have gY:=hd hnext;obtain⟨_,_,_,_,_,e2⟩:=fH.out w1 hK1;have hDl:=hK1.k1.lt;clear hK1 hnext hf1 hK0 c0 c1 c2 hdr hbl;go_wp2_with fail
 have hK2:qV w1.drew b0 d o:=Ru.out.nw ((Fr.refl _ w1).drew);refine eF YZ 16 (fun w''=>qV w'' b0 d o) (by kernel_rfl) (by kernel_rfl) (by kernel_rfl) ?_
 refine take_at (i:=0) (d:=some 40) (v:=.pointer (some ⟨d.D,0,none⟩)) (by kernel_rfl) (by kernel_rfl) (fun _ _ _ h=>h) (fun w'' hS=>by kernel_rfl) hK2 ?_
 refine take_at (i:=1) (d:=some 41) (v:=.int .i64 r) (by kernel_rfl) (by kernel_rfl) (fun _ _ _ h=>h) (fun w'' hS=>by kernel_rfl) hK2 ?_
 refine take_at (i:=2) (d:=some 42) (v:=.pointer (some ⟨d.D,0,none⟩)) (by kernel_rfl) (by kernel_rfl) (fun _ _ _ h=>h) (fun w'' hS=>by kernel_rfl) hK2 ?_
 refine take_at (i:=3) (d:=some 43) (v:=.pointer (some ⟨d.D,0,none⟩)) (by kernel_rfl) (by kernel_rfl) (fun _ _ _ h=>h) (fun w'' hS=>by kernel_rfl) hK2 ?_
 refine take_at (i:=4) (d:=some 44) (v:=.pointer (some ⟨d.D,1,none⟩)) (by kernel_rfl) (by kernel_rfl) (fun _ _ _ h=>h) (fun w'' hS=>by kernel_rfl) hK2 ?_
 refine take_at (i:=5) (d:=some 45) (v:=.pointer (some ⟨d.Y,0,none⟩)) (by kernel_rfl) (by kernel_rfl) (fun _ _ _ h=>h) (fun w'' hS=>aj 46 (.tmp 44) (by kernel_rfl) (by kernel_rfl) (by kernel_rfl) (fH.out w'' hS).2.2.2.2.1) hK2 ?_
 refine take_at (i:=6) (d:=some 46) (v:=.pointer (some ⟨b0,1,none⟩)) (by kernel_rfl) (by kernel_rfl) (fun _ _ _ h=>h) (fun w'' hS=>by kernel_rfl) hK2 ?_
 refine take_at (i:=7) (d:=some 47) (v:=.int .i64 a) (by kernel_rfl) (by kernel_rfl) (fun _ _ _ h=>h) (fun w'' hS=>aj 3 (.tmp 46) (by kernel_rfl) (by kernel_rfl) (by kernel_rfl) (fH.out w'' hS).2.1) hK2 ?_
 refine take_at (i:=8) (d:=some 48) (v:=.pointer (some ⟨b0,2,none⟩)) (by kernel_rfl) (by kernel_rfl) (fun _ _ _ h=>h) (fun w'' hS=>by kernel_rfl) hK2 ?_
 refine take_at (i:=9) (d:=some 49) (v:=.int .i64 b) (by kernel_rfl) (by kernel_rfl) (fun _ _ _ h=>h) (fun w'' hS=>aj 3 (.tmp 48) (by kernel_rfl) (by kernel_rfl) (by kernel_rfl) (fH.out w'' hS).2.2.1) hK2 ?_
 refine take_at (i:=10) (d:=some 50) (v:=.pointer (some ⟨b0,0,none⟩)) (by kernel_rfl) (by kernel_rfl) (fun _ _ _ h=>h) (fun w'' hS=>by kernel_rfl) hK2 ?_
 refine take_at (i:=11) (d:=some 51) (v:=.int .i64 3) (by kernel_rfl) (by kernel_rfl) (fun _ _ _ h=>h) (fun w'' hS=>aj 3 (.tmp 50) (by kernel_rfl) (by kernel_rfl) (by kernel_rfl) (fH.out w'' hS).1) hK2 ?_
 refine take_at (i:=12) (d:=some 52) (v:=.bool false) (by kernel_rfl) (by kernel_rfl) (fun _ _ _ h=>h) (fun w'' hS=>by kernel_rfl) hK2 ?_
 refine enter_at (i:=13) (d:=some 53) (w':=w1.drew) (f:=58) (args:=#[.pointer (some ⟨d.Y,0,none⟩),.int .i64 a,.int .i64 b,.bool false]) (by kernel_rfl) (by kernel_rfl) (by kernel_rfl) ?_
 refine(gY.out w1.drew ((Fr.refl _ w1).drew)).mono ?_
 rintro e w3 ⟨rfl,s',R',hp3,hs3,hW3⟩
 have hdr:Nw V V.drew:=(Fr.refl _ V).drew;have hK3:qV w3 b0 d o:=(HC.out.nw hdr).fr hs3.fr (Oy.out.nw hdr).YY (by decide) (by decide)
 refine⟨_,rfl,hK3,?_⟩
 refine enter_at (i:=14) (d:=some 54) (w':=w3) (f:=57) (args:=#[.pointer (some ⟨d.D,0,none⟩),.int .i64 r,.int .i64 r]) (by kernel_rfl) (by kernel_rfl) (by kernel_rfl) ?_
 refine(nT _ r w3).mono ?_
 rintro e w4 ⟨rfl,rfl⟩
 refine⟨_,rfl,hK3,?_⟩
 refine dG (i:=15) (d:=some 4) (v:=.bool true) (w':=w4) (by kernel_rfl) (by kernel_rfl) (by kernel_rfl) hK3 ?_
 refine wpAnyH_done (by kernel_rfl) ?_ _
 simp only[Act.put,bQ,bW,bU];rw[<-F6.out] at hp3;have fQ:=hd ((HV.out.nw hdr).pair hp3 hs3 hW3);have aaM:=hd (lK.out.trans hdr (fun _ x=>x.elim))
 clear hK3 hK2 hp3 hs3 hW3 hdr gY Ru e2 hDl;go_wp2_with fail
 go_ret
 exact⟨rfl,_,fQ.out.1,(dJ.nw aaM.out B L d).trans fQ.out.2⟩
theorem uH {P:Program} (d:Nat) (xs:Array Value) (w:World):∀(fs:List Field),(∀f∈fs,∃v,(part f.type xs f.offset).run P w= .ok v w/\(Op.equalIn d f.type v v).run P w= .ok true w)->(Op.eqFields d xs xs fs).run P w= .ok true w
 | [],_=>by simp[Op.eqFields]
 | f::fs,h=>by
  have ih:=uH d xs w fs (fun f hf=>h f (List.mem_cons_of_mem _ hf))
  obtain⟨v,h1,h2⟩:=h f (List.mem_cons_self ..);by_cases hn : f.name ≠ "_"
  ·simp[Op.eqFields,hn,h1,h2,ih,Result.andThen]
  ·simp only[Op.eqFields,if_neg hn];exact ih
def zD (a b c:Int) (dd:Bool) (l f:Int):Array Value:=#[.int .i64 a,.int .i64 b,.int .i64 c,.bool dd,.int .i64 l,.int .i64 f]
theorem Js (a b c:Int) (dd:Bool) (l f:Int) (w:World):(binOp .eql 110 (.agg (zD a b c dd l f)) (.agg (zD a b c dd l f))).run Tryz.prog w= .ok (.bool true) w:=by
 have u1:Tryz.prog.underlying 110=some (.struct (Tryz.prog.fieldsOf 110)):=by kernel_rfl
 have hf:(Tryz.prog.fieldsOf 110).toList.map (fun f=>(f.type,f.offset))=[(3,0),(3,1),(3,2),(4,3),(3,4),(3,5)]:=by kernel_rfl
 rw[run_eql_struct,run_equalIn_struct w 9999 _ _ _ u1 (by kernel_rfl),uH 9999 (zD a b c dd l f) w _ (fun x hx=>?_),Result.andThen_ok]
 have hm:(x.type,x.offset)∈[((3:TypeId),0),(3,1),(3,2),(4,3),(3,4),(3,5)]:=by
  rw[<-hf];exact List.mem_map_of_mem hx
 simp only[List.mem_cons,Prod.mk.injEq,List.not_mem_nil,or_false] at hm;rcases hm with ⟨e1,e2⟩ | ⟨e1,e2⟩ | ⟨e1,e2⟩ | ⟨e1,e2⟩ | ⟨e1,e2⟩ | ⟨e1,e2⟩ <;> rw[e1,e2]
 ·exact⟨.int .i64 a,by kernel_rfl,by rw[run_equalIn_int w 9998 _ _ .i64 a a Tryz.underlying3];simp⟩
 ·exact⟨.int .i64 b,by kernel_rfl,by rw[run_equalIn_int w 9998 _ _ .i64 b b Tryz.underlying3];simp⟩
 ·exact⟨.int .i64 c,by kernel_rfl,by rw[run_equalIn_int w 9998 _ _ .i64 c c Tryz.underlying3];simp⟩
 ·exact⟨.bool dd,by kernel_rfl,by rw[run_equalIn_bool' w 9998 _ dd dd Tryz.underlying4];simp⟩
 ·exact⟨.int .i64 l,by kernel_rfl,by rw[run_equalIn_int w 9998 _ _ .i64 l l Tryz.underlying3];simp⟩
 ·exact⟨.int .i64 f,by kernel_rfl,by rw[run_equalIn_int w 9998 _ _ .i64 f f Tryz.underlying3];simp⟩
theorem MS {ev:Operand->Value} {o:Oper} {w:World} {b:Nat} {v0 v1 v2 v3 v4 v5:Value} {e:TypeId} (t:TypeId) (x:Operand) (ho:o.op= .load t x) (hx:ev x= .pointer (some ⟨b,0,none⟩)) (hag:(isAgg t).run Tryz.prog w= .ok true w) (hsz:(sizeOf t).run Tryz.prog w= .ok 6 w)
  (hb:af w b #[v0,v1,v2,v3,v4,v5] e):(execOp ev o).run Tryz.prog w= .ok (.value (.agg #[v0,v1,v2,v3,v4,v5])) w:=by
 have hl:∀(a:Addr) (v:Value),w.cell? a=some v->(Sem.load Mode.plain a Sem.pure).run Tryz.prog w= .ok v w:=fun a v hc=>by
  unfold Sem.run;rw[hc];rfl
 have c0:w.cell? ⟨b,0,none⟩=some v0:=hb.cell 0
 have c1:w.cell? ⟨b,1,none⟩=some v1:=hb.cell 1
 have c2:w.cell? ⟨b,2,none⟩=some v2:=hb.cell 2
 have c3:w.cell? ⟨b,3,none⟩=some v3:=hb.cell 3
 have c4:w.cell? ⟨b,4,none⟩=some v4:=hb.cell 4
 have c5:w.cell? ⟨b,5,none⟩=some v5:=hb.cell 5
 unfold execOp;simp[ho,hx,Instr.loadAt,Instr.sureAddr,loadVar,hag,hsz,Result.andThen,load,loadCells,loadCellsFrom,Addr.add,hl _ _ c0,hl _ _ c1,hl _ _ c2,hl _ _ c3,hl _ _ c4,hl _ _ c5]
theorem QJ {P:Program} {ev:Operand->Value} {o:Oper} {w:World} {r v u:Value} (x y:Operand) (t tb:TypeId) (ho:o.op= .binOp .eql t x y tb) (hx:ev x=v) (hy:ev y=u) (hg:(eqGuard .eql t x y v u).run P w= .ok () w) (h:(binOp .eql t v u).run P w= .ok r w):(execOp ev o).run P w= .ok (.value r) w:=by
 subst hx;subst hy;exact rH x y t tb ho hg h
theorem MV (a b c:Int) (dd:Bool) (l f:Int) (x y:Operand) (w:World):(eqGuard .eql 110 x y (.agg (zD a b c dd l f)) (.agg (zD a b c dd l f))).run Tryz.prog w= .ok () w:=run_eqGuard_agg w _ _ _ _ _ _ (by kernel_rfl)
noncomputable def adn:Array Oper:=gU Tryz.f38 15
set_option maxRecDepth 1000000 in
theorem xC (W:World) (lo B:Nat) (L:LW) (d:Sd) (oc:Array Value) (w:World) (h:LS W w lo B L d) (hbz:d.bz=false) (hoc:oc[0]? = some (.int .i64 5)):
  Calls Tryz.prog 38 #[.pointer (some ⟨d.D,0,none⟩),.agg oc] w fun e w'=>e= .returned (.bool true)/\Nw w w':=by
 obtain⟨b0,hb0⟩:∃b0,b0=w.heap.size:=⟨_,rfl⟩;obtain⟨V,hV⟩:∃V,V=w.alloc (.cells oc 54):=⟨_,rfl⟩;have fA:Nw w V:=by rw[hV];exact(Fr.refl _ w).alloc _
 have hC:af V b0 oc 54:=by rw[hV,hb0];exact af.new _ _ _
 have uk:=h.nw fA;have HV:=hd uk;have lK:=hd fA;have c0:V.cell? ⟨b0,0,none⟩=some (.int .i64 5):=(hC.cell 0).trans hoc
 have hbl:=hC.lt;have hp0:=uk.side.pair;rw[hbz] at hp0;have Oy:=hd hp0;have fH:=hd (show ∀w',af w' d.D d.cells 52->w'.cell? ⟨d.D,0,none⟩=some (.pointer (some ⟨d.X,0,none⟩))/\w'.cell? ⟨d.D,1,none⟩=some (.pointer (some ⟨d.Y,0,none⟩))/\w'.cell? ⟨d.D,2,none⟩=some (.bool false) from fun w' hc=>⟨hc.cell 0,hc.cell 1,(hc.cell 2).trans (by rw[<-hbz];rfl)⟩)
 obtain⟨d0,_,_⟩:=fH.out V uk.side.blk;have hDl:=uk.side.blk.lt;have aK:=hd (Ve hp0);clear h uk hC hbz hoc fA hp0;go_enter Tryz.func38,Tryz.ntmps38
 go_upto_region 1 with fail
 rw[<-hV,<-hb0];clear hV hb0;go_wp2_with (go_at_call 59;refine aK.out.mono ?_;rintro e w1 ⟨a,b,c,l,f,dd,rfl,hf1,hnext⟩;have Hf1:=hd hf1;have gY:=hd hnext;obtain⟨_,_,d2⟩:=fH.out w1 (HV.out.side.blk.nw hf1);have QK:=(HV.out.side.blk.nw hf1).lt;clear hf1 hnext)
 obtain⟨wa,Ot⟩:∃wa,w1.alloc (.cells #[.int .i64 (a:Int),.int .i64 (b:Int),.int .i64 (c:Int),.bool dd,.int .i64 (l:Int),.int .i64 (f:Int)] 110)=wa:=⟨_,rfl⟩;have hfa:Nw w1 wa:=by rw[<-Ot];exact(Fr.refl _ w1).alloc _
 have hba:af wa w1.heap.size #[.int .i64 (a:Int),.int .i64 (b:Int),.int .i64 (c:Int),.bool dd,.int .i64 (l:Int),.int .i64 (f:Int)] 110:=by rw[<-Ot];exact af.new _ _ _
 rw[Ot];have hVa:Nw V wa:=Hf1.out.trans hfa (fun _ x=>x.elim)
 have hbD:=HV.out.side.blk.nw hVa;have hK0:Nw wa wa.drew:=(Fr.refl _ wa).drew;refine eF adn 8 (fun w''=>Nw wa w'') (by kernel_rfl) (by kernel_rfl) (by kernel_rfl) ?_
 refine take_at (i:=0) (d:=some 69) (v:=.agg (zD a b c dd l f)) (by kernel_rfl) (by kernel_rfl) (fun _ _ _ h=>h) (fun w'' hS=>MS 110 (.tmp 6) (by kernel_rfl) (by kernel_rfl) (by kernel_rfl) (by kernel_rfl) (hba.nw hS)) hK0 ?_
 refine take_at (i:=1) (d:=some 70) (v:=.pointer (some ⟨d.D,0,none⟩)) (by kernel_rfl) (by kernel_rfl) (fun _ _ _ h=>h) (fun w'' hS=>by kernel_rfl) hK0 ?_
 refine take_at (i:=2) (d:=some 71) (v:=.pointer (some ⟨d.D,0,none⟩)) (by kernel_rfl) (by kernel_rfl) (fun _ _ _ h=>h) (fun w'' hS=>by kernel_rfl) hK0 ?_
 refine take_at (i:=3) (d:=some 72) (v:=.pointer (some ⟨d.D,1,none⟩)) (by kernel_rfl) (by kernel_rfl) (fun _ _ _ h=>h) (fun w'' hS=>by kernel_rfl) hK0 ?_
 refine take_at (i:=4) (d:=some 73) (v:=.pointer (some ⟨d.Y,0,none⟩)) (by kernel_rfl) (by kernel_rfl) (fun _ _ _ h=>h) (fun w'' hS=>aj 46 (.tmp 72) (by kernel_rfl) (by kernel_rfl) (by kernel_rfl) (fH.out w'' (hbD.nw hS)).2.1) hK0 ?_
 refine enter_at (i:=5) (d:=some 74) (w':=wa.drew) (f:=60) (args:=#[.pointer (some ⟨d.Y,0,none⟩)]) (by kernel_rfl) (by kernel_rfl) (by kernel_rfl) ?_
 refine(gY.out wa.drew (hVa.trans hK0 (fun _ x=>x.elim))).mono ?_
 rintro e w3 ⟨rfl,hf3⟩
 have hK3:Nw wa w3:=hK0.trans hf3 (fun _ x=>x.elim)
 refine⟨_,rfl,hK3,?_⟩
 refine dG (i:=6) (d:=some 75) (v:=.bool true) (w':=w3) (by kernel_rfl) (by kernel_rfl) (QJ (v:=.agg (zD a b c dd l f)) (u:=.agg (zD a b c dd l f)) (.tmp 69) (.tmp 74) 110 110 (by kernel_rfl) (by kernel_rfl) (by kernel_rfl) (MV a b c dd l f _ _ w3) (Js a b c dd l f w3)) hK3 ?_
 refine dG (i:=7) (d:=some 4) (v:=.bool true) (w':=w3) (by kernel_rfl) (by kernel_rfl) (by kernel_rfl) hK3 ?_
 refine wpAnyH_done (by kernel_rfl) ?_ _
 simp only[Act.put,bQ,bW,bU];have fQ:=hd ((lK.out.trans hVa (fun _ x=>x.elim)).trans hK3 (fun _ x=>x.elim))
 clear hK3 hK0 hf3 hVa hfa hba Ot hbD d2 QK gY Hf1;go_wp2_with fail
 go_ret
 exact⟨rfl,fQ.out⟩
set_option maxRecDepth 1000000 in
theorem F7 (W:World) (lo B:Nat) (L:LW) (d:Sd) (o:kU) (w:World) (h:LS W w lo B L d) (hbz:d.bz=false) (hk:o.kind=6):
  Calls Tryz.prog 38 #[.pointer (some ⟨d.D,0,none⟩),.agg o.cells] w fun e w'=>e= .returned (.bool true)/\∃d',LS W w' lo B L d'/\dJ w w' B L L d d':=by
 obtain⟨b0,hb0⟩:∃b0,b0=w.heap.size:=⟨_,rfl⟩;obtain⟨V,hV⟩:∃V,V=w.alloc (.cells o.cells 54):=⟨_,rfl⟩;have fA:Nw w V:=by rw[hV];exact(Fr.refl _ w).alloc _
 have hC:qV V b0 d o:=⟨h.side.blk.nw fA,by rw[hV,hb0];exact af.new _ _ _⟩
 have uk:=h.nw fA;have HC:=hd hC;have HV:=hd uk;have lK:=hd fA;have hcell:∀w',qV w' b0 d o->w'.cell? ⟨b0,0,none⟩=some (.int .i64 6)/\w'.cell? ⟨d.D,0,none⟩=some (.pointer (some ⟨d.X,0,none⟩))/\w'.cell? ⟨d.D,1,none⟩=some (.pointer (some ⟨d.Y,0,none⟩))/\w'.cell? ⟨d.D,2,none⟩=some (.bool false):=fun w' hc=>by
  refine⟨(hc.k2.cell 0).trans ?_,hc.k1.cell 0,hc.k1.cell 1,(hc.k1.cell 2).trans ?_⟩
  ·rw[<-hk];rfl
  ·rw[<-hbz];rfl
 have fH:=hd hcell;obtain⟨c0,d0,d1,d2⟩:=hcell V hC;have hbl:=hC.k2.lt;have hDl:=hC.k1.lt;have hp0:=uk.side.pair;rw[hbz] at hp0;have Oy:=hd hp0;have F6:=hd hbz;clear h uk hC hcell hbz hk fA hp0;go_enter Tryz.func38,Tryz.ntmps38
 go_upto_region 1 with fail
 rw[<-hV,<-hb0];clear hV hb0;go_wp2_with (first
  | (go_at_call 61;refine(U8 HV.out.env Oy.out).mono ?_;rintro e w1 ⟨r,rfl,hf1,hnext⟩;have hK1:qV w1 b0 d o:=HC.out.fr hf1 Oy.out.at_.mem.only (by decide) (by decide);have gY:=hd hnext;obtain⟨x0,x1,x2,x3⟩:=fH.out w1 hK1;have xl:=hK1.k1.lt;have xb:=hK1.k2.lt;clear hf1 hnext hK1)
  | (go_at_call 63;refine(gY.out _ (Fr.refl _ _)).mono ?_;rintro e w3 ⟨rfl,s',R',hp3,hs3,hW3⟩;have Vg:Pair d.bz W w3 lo d.X d.Y d.zs s' R':=(by rw[F6.out];exact hp3);have fQ:=hd (HV.out.pair Vg hs3 hW3);clear hp3 hs3 hW3 Vg)
  | (go_at_call 57;refine(nT _ r _).mono ?_;rintro e w4 ⟨rfl,rfl⟩))
 go_ret
 exact⟨rfl,_,fQ.out.1,(dJ.nw lK.out B L d).trans fQ.out.2⟩
set_option maxRecDepth 1000000 in
theorem Jt (W:World) (lo B:Nat) (L:LW) (d:Sd) (o:kU) (w:World) (h:LS W w lo B L d) (hbz:d.bz=false) (hk:o.kind=7):
  Calls Tryz.prog 38 #[.pointer (some ⟨d.D,0,none⟩),.agg o.cells] w fun e w'=>e= .returned (.bool true)/\∃d',LS W w' lo B L d'/\dJ w w' B L L d d':=by
 obtain⟨b0,hb0⟩:∃b0,b0=w.heap.size:=⟨_,rfl⟩;obtain⟨V,hV⟩:∃V,V=w.alloc (.cells o.cells 54):=⟨_,rfl⟩;have fA:Nw w V:=by rw[hV];exact(Fr.refl _ w).alloc _
 have hC:qV V b0 d o:=⟨h.side.blk.nw fA,by rw[hV,hb0];exact af.new _ _ _⟩
 have uk:=h.nw fA;have HC:=hd hC;have HV:=hd uk;have lK:=hd fA;have hcell:∀w',qV w' b0 d o->w'.cell? ⟨b0,0,none⟩=some (.int .i64 7)/\w'.cell? ⟨d.D,0,none⟩=some (.pointer (some ⟨d.X,0,none⟩))/\w'.cell? ⟨d.D,1,none⟩=some (.pointer (some ⟨d.Y,0,none⟩))/\w'.cell? ⟨d.D,2,none⟩=some (.bool false):=fun w' hc=>by
  refine⟨(hc.k2.cell 0).trans ?_,hc.k1.cell 0,hc.k1.cell 1,(hc.k1.cell 2).trans ?_⟩
  ·rw[<-hk];rfl
  ·rw[<-hbz];rfl
 have fH:=hd hcell;obtain⟨c0,d0,d1,d2⟩:=hcell V hC;have hbl:=hC.k2.lt;have hDl:=hC.k1.lt;have hp0:=uk.side.pair;rw[hbz] at hp0;have Oy:=hd hp0;have F6:=hd hbz;clear h uk hC hcell hbz hk fA hp0;go_enter Tryz.func38,Tryz.ntmps38
 go_upto_region 1 with fail
 rw[<-hV,<-hb0];clear hV hb0;go_wp2_with (first
  | (go_at_call 62;refine(XG HV.out.env Oy.out).mono ?_;rintro e w1 ⟨r,rfl,hf1,hnext⟩;have hK1:qV w1 b0 d o:=HC.out.fr hf1 Oy.out.at_.mem.only (by decide) (by decide);have gY:=hd hnext;obtain⟨x0,x1,x2,x3⟩:=fH.out w1 hK1;have xl:=hK1.k1.lt;have xb:=hK1.k2.lt;clear hf1 hnext hK1)
  | (go_at_call 64;refine(gY.out _ (Fr.refl _ _)).mono ?_;rintro e w3 ⟨rfl,s',R',hp3,hs3,hW3⟩;have Vg:Pair d.bz W w3 lo d.X d.Y d.zs s' R':=(by rw[F6.out];exact hp3);have fQ:=hd (HV.out.pair Vg hs3 hW3);clear hp3 hs3 hW3 Vg)
  | (go_at_call 57;refine(nT _ r _).mono ?_;rintro e w4 ⟨rfl,rfl⟩))
 go_ret
 exact⟨rfl,_,fQ.out.1,(dJ.nw lK.out B L d).trans fQ.out.2⟩
theorem XL {w:World} {g:Nat} {xs:List Value} {e:TypeId} (h:af w g xs.toArray e) (hm:xs.length<=maxLen):Row w (.slice (some ⟨g,0,none⟩) xs.length xs.length) e xs:=⟨by simp,.inr ⟨g,xs.length,xs.toArray,rfl,Nat.zero_le _,h,Nat.le_refl _,hm,by simp,by simp⟩⟩
theorem XM {W w:World} {lo X Y:Nat} {zs:List Int} {s:WS} {R:RS} (v:Nat) (h:Pair false W w lo X Y zs s R) (hv:v<zs.length):
  Calls Tryz.prog 12 #[.pointer (some ⟨X,0,none⟩),.int .i64 (v:Int)] w fun e w1=>∃xs:List Int,e= .returned (.tuple #[.slice (some ⟨w.heap.size,0,none⟩) xs.length xs.length,.int .i64 0])/\Nw w w1/\af w1 w.heap.size (xs.map (Value.int .i64)).toArray 3/\xs.length<=8 /\
   ∀w2,Nw w1 w2->Calls Tryz.prog 54 #[.pointer (some ⟨Y,0,none⟩),.int .i64 (v:Int)] w2 fun e w3=>∃bo bc,e= .returned (.slice bo xs.length bc)/\ax w3 bo xs/\Nw w2 w3:=by
 have hz:=aF h.at_.mem.lJ;have h64:=h.at_.good.dm.lt v;refine(xY X s.az s.d _ s.l zs v w h.at_.mem.blk h.at_.mem.sz hz.2 hv h.at_.good.dm.len (by omega) h.busy).mono ?_
 rintro e w1 ⟨rfl,hf,hb⟩
 have Y0:=kM.vals h.now h.ref.dU.LM h.ref.dU.b6 h.ref.dU.len v;rw[if_pos hv] at Y0;have hil:∀l:List Nat,ints l=(l.map (fun n:Nat=>(n:Int))).map (Value.int .i64):=fun l=>by simp[ints]
 have h8:(vals (s.d.getD v 0)).length<=8:=Nat.le_trans (List.length_filter_le _ _) (by simp)
 obtain⟨xs,hxs⟩:∃xs:List Int,(vals (s.d.getD v 0)).map (fun n:Nat=>(n:Int))=xs:=⟨_,rfl⟩
 have hxl:(vals (s.d.getD v 0)).length=xs.length:=by rw[<-hxs,List.length_map]
 rw[hil,hxs] at hb;rw[hxl] at h8 ⊢;refine⟨xs,rfl,hf,hb,h8,fun w2 f2=>?_⟩
 refine(oU lo Y zs R.az R.now.inv R.now.vs R.now.bss R.now.dead R.tv R.lv v w2 (h.ref.nw (hf.trans f2 (fun _ x=>x.elim))).dU (by rw[h.ref.dU.len];exact hv)).mono ?_
 rintro e w3 ⟨v3,rfl,hM⟩
 have e1:ints (if R.now.dead then [] else eU (R.now.bss.getD v []) (R.now.bss.getD v []).length)=xs.map (Value.int .i64):=by
  rw[<-hxs,Y0,hil];rfl
 rw[e1] at hM;obtain⟨bo,bc,hf3,_⟩:=hM.row.form;rw[List.length_map] at hf3;refine⟨bo,bc,by rw[hf3],?_,hM.nw⟩
 have hr:=hM.row;rw[hf3] at hr;exact hr.oC
set_option maxRecDepth 1000000 in
theorem Ju (W:World) (lo B:Nat) (L:LW) (d:Sd) (v:Int) (w:World) (h:LS W w lo B L d) (hbz:d.bz=false) (hv:¬(0<=v/\v<d.zs.length)):
  Calls Tryz.prog 36 #[.pointer (some ⟨B,0,none⟩),.pointer (some ⟨d.D,0,none⟩),.int .i64 v] w fun e w'=>e= .returned (.bool true)/\w'=w:=by
 have hp:=h.side.pair;have hz:=aF hp.at_.mem.lJ;have aK:=hd (OT d.X d.s.az d.s.d _ d.s.l d.zs v w hp.at_.mem.blk hp.at_.mem.sz hz.2 hv hp.at_.good.dm.len (by rw[hp.busy];exact hbz))
 have c0:w.cell? ⟨d.D,0,none⟩=some (.pointer (some ⟨d.X,0,none⟩)):=h.side.blk.cell 0
 have c1:w.cell? ⟨d.D,1,none⟩=some (.pointer (some ⟨d.Y,0,none⟩)):=h.side.blk.cell 1
 have c2:w.cell? ⟨d.D,2,none⟩=some (.bool false):=(h.side.blk.cell 2).trans (by rw[<-hbz];rfl)
 obtain⟨xW,zx,iU,_⟩:=hp.ref.dU.sz.form;rw[List.length_map] at iU;have c3:w.cell? ⟨d.Y,0,none⟩=some (.slice xW d.zs.length zx):=by
  have:=hp.ref.dU.blk.cell 0
  rw[iU] at this;exact this
 have hDl:=h.side.blk.lt;have hYl:=hp.ref.dU.blk.lt;have NM:=hz.2;clear h hp hz iU;by_cases hv0:v<0
 ·go_enter Tryz.func36,Tryz.ntmps36
  go_wp2_with (go_at_call 12;refine aK.out.mono ?_;rintro e w1 ⟨rfl,rfl⟩)
  go_ret
  exact⟨rfl,rfl⟩
 ·have hge:(d.zs.length:Int)<=v:=by omega
  go_enter Tryz.func36,Tryz.ntmps36
  go_wp2_with (go_at_call 12;refine aK.out.mono ?_;rintro e w1 ⟨rfl,rfl⟩)
  go_ret
  exact⟨rfl,rfl⟩
theorem LS.kept {W w w':World} {lo B:Nat} {L:LW} {d:Sd} {g:Nat} {nv:Value} {news:List Value} {cur:Array Value} (h:LS W w lo B L d) (hg:af w g cur 3) (hgn:¬d.own g) (hW:W.heap.size<=g) (hL:gZ w' lo B {L with nv:=nv,nums:=L.nums++news}) (hf:Fr (fun k=>k=B\/L.nv.ownBlock=some k\/k=g) w w') (ho:∀k,LW.own B {L with nv:=nv,nums:=L.nums++news} k->L.own B k\/k=g\/w.heap.size<=k):
  LS W w' lo B {L with nv:=nv,nums:=L.nums++news} d:=by
 have hon:Only w (fun k=>k=B\/L.nv.ownBlock=some k\/k=g) [29,22,3]:=fun k cur' e hk hb=>by
  rcases hk with rfl | hk | rfl
  ·rw[(hb.inj h.law.blk).2];decide
  ·obtain⟨c2,hb2,_⟩:=h.law.keeps.rn.blk hk;rw[(hb.inj hb2).2];decide
  ·rw[(hb.inj hg).2];decide
 have hBo:lo<=B:=h.law.lo B (.inl rfl);refine⟨⟨h.env.base,h.env.nw.trans hf (fun i hi=>.inr ?_),Nat.le_trans h.env.le hf.size⟩,hL,h.side.fr hf (fun k hk hs=>?_) hon (by decide),fun k hk hd=>?_⟩
 ·have hb:=h.env.base;rcases hi with hi | hi | hi
  ·omega
  ·have:=h.law.lo i (.inr (.inr (.inl hi)))
   omega
  ·omega
 ·rcases hs with hs | hs | hs
  ·exact h.apart k (.inl hs) hk
  ·exact h.apart k (.inr (.inr (.inl hs))) hk
  ·rw[hs] at hk;exact hgn hk
 ·rcases ho k hk with h1 | h1 | h1
  ·exact h.apart k h1 hd
  ·rw[h1] at hd;exact hgn hd
  ·have:=h.side.lt hd
   omega
set_option maxRecDepth 1000000 in
theorem MW (W:World) (lo B:Nat) (L:LW) (d:Sd) (v:Nat) (w:World) (h:LS W w lo B L d) (hbz:d.bz=false) (hv:v<d.zs.length) (hn:L.nums.length<=68719476736) (h4:L.nums.length % 4=0):
  Calls Tryz.prog 36 #[.pointer (some ⟨B,0,none⟩),.pointer (some ⟨d.D,0,none⟩),.int .i64 (v:Int)] w fun e w'=>e= .returned (.bool true)/\∃L',LS W w' lo B L' d/\dJ w w' B L L' d d/\L'.nums.length=L.nums.length+4/\L'.turned=L.turned/\L'.rows=L.rows:=by
 have hp:=h.side.pair;rw[hbz] at hp;have hz:=aF hp.at_.mem.lJ;have aK:=hd (XM v hp hv);have hcell:∀w',Nw w w'->w'.cell? ⟨d.D,0,none⟩=some (.pointer (some ⟨d.X,0,none⟩))/\w'.cell? ⟨d.D,1,none⟩=some (.pointer (some ⟨d.Y,0,none⟩))/\w'.cell? ⟨d.D,2,none⟩=some (.bool false):=fun w' f=>⟨(h.side.blk.nw f).cell 0,(h.side.blk.nw f).cell 1,((h.side.blk.nw f).cell 2).trans (by rw[<-hbz];rfl)⟩
 have fH:=hd hcell;obtain⟨c0,c1,c2⟩:=hcell w (Fr.refl _ _);obtain⟨xW,zx,iU,_⟩:=hp.ref.dU.sz.form;rw[List.length_map] at iU;have ZE:=hd (show ∀w',Nw w w'->w'.cell? ⟨d.Y,0,none⟩=some (.slice xW d.zs.length zx) from fun w' f=>by
  have:=(hp.ref.nw f).dU.blk.cell 0
  rw[iU] at this;exact this)
 have hDl:=h.side.blk.lt;have HY:=hd hp.ref.dU.blk;have hv0:¬((v:Int)<0):=by omega
 have hvn:¬((d.zs.length:Int)<=(v:Int)):=by omega
 have NM:=hz.2;have H:=hd h;clear h hp hz iU hbz hcell;go_enter Tryz.func36,Tryz.ntmps36
 go_wp2_with (first
  | (go_at_call 12;refine aK.out.mono ?_;rintro e w1 ⟨xs,rfl,hf1,hb1,hx8,hnext⟩;obtain⟨x0,x1,x2⟩:=fH.out w1 hf1;have x3:=ZE.out w1 hf1;have QK:=Nat.lt_of_lt_of_le hDl hf1.size;have TG:=(HY.out.nw hf1).lt;have gY:=hd hnext;have Hf1:=hd hf1;have Hb1:=hd hb1;clear hf1 hb1 hnext)
  | (go_at_call 54;refine(gY.out _ (Fr.refl _ _)).mono ?_;rintro e w2 ⟨bo,bc,rfl,hI2,hf2⟩;have HI2:=hd hI2;have yG:=hd (Hf1.out.trans hf2 (fun _ x=>x.elim));have Hb2:=hd (Hb1.out.nw hf2);clear hI2 hf2)
  | (go_at_call 33;refine(qW _ _ _ _ xs _ (by omega) (ax.pW Hb2.out 0 xs (fun i hi=>by simp[hi])) HI2.out).mono ?_;rintro e w3 ⟨rfl,n3,rfl⟩;have Jv:=hd (yG.out.drewN n3);have Hb3:=hd (Hb2.out.drewN n3))
  | (go_at_call 19;refine(sF B _ _ _ _ _ _ _ _ (H.out.law.nw Jv.out).blk (H.out.law.nw Jv.out).keeps).mono ?_;rintro e w4 ⟨rfl,rfl⟩)
  | (go_at_call 52;refine(keep_any lo B L w.heap.size xs.length xs.length (xs.map (Value.int .i64)) _ (H.out.law.nw Jv.out) (by simp) (by have:=XL Hb3.out (by rw[List.length_map];unfold maxLen;omega);rw[List.length_map] at this;exact this) (by omega) hn h4 (fun ho=>by have:=H.out.law.lt _ ho;omega) H.out.env.le (Nat.le_trans H.out.env.le Jv.out.size)).mono ?_;rintro e w5 ⟨rfl,nv,news,k1,k2,k3,k4⟩;have fQ:=hd ((H.out.nw Jv.out).kept Hb3.out (fun ho=>by have:=H.out.side.lt ho;omega) (Nat.le_trans H.out.env.base H.out.env.le) k2 k3 k4);have K1:=hd k1;have K3:=hd k3;have K4:=hd k4;clear k1 k2 k3 k4))
 go_ret
 have hs3:=Jv.out.size;refine⟨rfl,_,fQ.out,⟨(Jv.out.mono (fun _ x=>x.elim)).trans K3.out (fun i hi=>?_),fun k hk=>?_,fun k hk=>.inl hk,rfl,rfl,rfl,rfl,rfl,?_⟩,?_,rfl,rfl⟩
 ·rcases hi with hi | hi | hi
  ·exact .inl (.inl (.inl hi))
  ·exact .inl (.inl (.inr (.inr (.inl hi))))
  ·exact .inr (by omega)
 ·rcases K4.out k hk with h1 | h1 | h1
  ·exact .inl h1
  ·exact .inr (by omega)
  ·exact .inr (by omega)
 ·show (L.nums++news).length % 4=_
  rw[List.length_append,K1.out];omega
 ·show (L.nums++news).length=_
  rw[List.length_append,K1.out]
end Go.Proofs.YtkjfpdfkcfgfkaaGreat
