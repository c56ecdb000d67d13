/- Parts of the proof, number 7: contracts of the functions that the statement calls. -/
import Derived.Test.YtkjfpdfkcfgfkaaGreatM6
import Derived.Test.YtkjfpdfkcfgfkaaGreatM0
import Derived.Test.YtkjfpdfkcfgfkaaGreatM3
import Derived.Test.YtkjfpdfkcfgfkaaGreatM5
import Derived.Maps.AppendAt

namespace Go.Proofs.YtkjfpdfkcfgfkaaGreat
open Go.RowKit

theorem Tryz.infoLevelR : (Tryz.prog.info? 147).map (fun i => (i.zero, i.size, i.bytes)) = some (some (.agg #[.slice none 0 0, .bool false]), 2, 32) := by kernel_rfl
section
variable {P : Program} {Q : Exit → Act → World → Prop} {S : World → Prop} {ops : Array Oper}
theorem enterU_at {z i : Nat} {d : Option Tmp} {fuel : Nat} {listed : Array Bool} {a : Act} {w w' : World} {f : FuncId} {args : Array Value} (hB : oneB ops listed i d = true) (hw : Region.wanted (opAt ops i) (yielded ops a.tmps) = true)
  (hr : (execOp a.eval (opAt ops i)).run P w = .ok (.enter f args) w')
  (h : Calls P f args w' (fun e w'' => ∃ v, e = .returned v ∧ (i ≠ z → S w'') ∧ wpAnyU P .any ops Q S z fuel (listed.setIfInBounds i true) (a.put d v) w'')) : wpAnyU P .any ops Q S z (fuel + 1) listed a w := by
 simp only [oneB, Bool.and_eq_true, decide_eq_true_eq] at hB
 obtain ⟨⟨h3, h4⟩, h5⟩ := hB
 subst h5
 exact anyU_one h3 (op_enter (opAt_of h4) hw hr h)
end
noncomputable def pushReg : Array Oper := regOps Tryz.f63 3
def pushEv (x y : Value) : Operand → Value
 | .tmp 13 => x
 | .tmp _ => y
 | _ => undef

set_option maxHeartbeats 1600000 in
set_option maxRecDepth 1000000 in
theorem refPush_no (Y : Nat) (szv inv tv : Value) (dead : Bool) (llo : Option Addr) (lcap : Nat) (w : World) (hb : Blk w Y #[szv, inv, .bool dead, tv, .slice llo 20 lcap] 83) :
  Calls Tryz.prog 63 #[.pointer (some ⟨Y, 0, none⟩)] w fun e w' => e = .returned (.int .i64 2) ∧ w' = w := by
 have c4 : w.cell? ⟨Y, 4, none⟩ = some (.slice llo 20 lcap) := hb.cell 4
 have hYl := hb.lt
 go_enter Tryz.func63, Tryz.ntmps63
 go_wp2_with fail
 go_ret
 exact ⟨rfl, rfl⟩

set_option maxHeartbeats 1600000 in
set_option maxRecDepth 1000000 in
theorem refPush_yes (W : World) (lo Y : Nat) (zs : List Int) (R : RS) (w : World) (hlw : lo ≤ w.heap.size) (hR : RAt W w lo Y zs R) (h20 : R.ls.length < 20) :
  Calls Tryz.prog 63 #[.pointer (some ⟨Y, 0, none⟩)] w fun e w' => e = .returned (.int .i64 0) ∧ ∃ lv inv vs, RAt W w' lo Y zs { R with lv := lv, ls := ⟨inv, vs, R.now.bss, R.now.dead⟩ :: R.ls } ∧ Fr (R.wr Y) w w' ∧ (∀ k, RS.own Y { R with lv := lv, ls := ⟨inv, vs, R.now.bss, R.now.dead⟩ :: R.ls } k → R.own Y k ∨ w.heap.size ≤ k) := by
 obtain ⟨llo, lcap, hlv⟩ := owns_form hR.lrow
 obtain ⟨io, icap, hio, hBR, hcY⟩ := hR.rin.brows
 obtain ⟨i0, hi0, hz0, hz1, hz2⟩ := info_parts Tryz.infoLevelR
 have h1 : w.cell? ⟨Y, 4, none⟩ = some (.slice llo R.ls.length lcap) := by
  have := hR.rin.blk.cell 4
  rw [hlv] at this
  exact this
 have h2 : w.cell? ⟨Y, 2, none⟩ = some (.bool R.now.dead) := hR.rin.blk.cell 2
 have h6 : ∀ u, u < R.now.bss.length → 1 ≤ (R.now.bss.getD u []).length ∧ (R.now.bss.getD u []).length ≤ 6 := fun u hu => ⟨by
  rw [hR.rin.each u (by rw [← hR.rin.len]; exact hu)]
  have := (okSizes_get hR.rin.zok u (by rw [← hR.rin.len]; exact hu)).1
  omega, hR.rin.b6 u hu⟩
 have HBR := hd hBR
 have H6 := hd h6
 have H8 := hd hR.rin.in8
 have HR := hd hR
 have Hlv := hd hlv
 have hYl := hR.rin.blk.lt
 obtain ⟨n, hn⟩ : ∃ n, R.ls.length = n := ⟨_, rfl⟩
 obtain ⟨bss, hbss⟩ : ∃ bss, R.now.bss = bss := ⟨_, rfl⟩
 obtain ⟨dead, hdead⟩ : ∃ dead, R.now.dead = dead := ⟨_, rfl⟩
 rw [hn] at h1 h20 Hlv
 rw [hbss] at hcY HBR H6 H8
 rw [hdead] at h2
 have Hn := hd hn
 have Hbss := hd hbss
 have Hdead := hd hdead
 have hlY : ¬ (Value.slice llo n lcap).ownBlock = some Y := fun h => by
  obtain ⟨cur, hb⟩ := ownsRow.blk hR.lrow (k := Y) (by rw [Hlv.out]; exact h)
  exact absurd (hb.inj hR.rin.blk).2 (by decide)
 have hln : ¬ ((20 : Int) ≤ (n : Int)) := by omega
 clear hR hBR h6 hlv hn hbss hdead
 go_enter Tryz.func63, Tryz.ntmps63
 go_wp2_with fail
 have hK0 : Fr (fun k => (Value.slice llo n lcap).ownBlock = some k) w w.drew := (Fr.refl _ w).drew
 refine region_nU pushReg 20 (fun w'' => Fr (fun k => (Value.slice llo n lcap).ownBlock = some k) w w'') 19 (by kernel_rfl) (by kernel_rfl) (by kernel_rfl) ?_
 refine takeU_at (i := 0) (d := some 9) (v := .pointer (some ⟨Y, 0, none⟩)) (by kernel_rfl) (by kernel_rfl) (fun _ _ _ h => h) (fun w'' hS => by kernel_rfl) hK0 ?_
 refine takeU_at (i := 1) (d := some 10) (v := .pointer (some ⟨Y, 0, none⟩)) (by kernel_rfl) (by kernel_rfl) (fun _ _ _ h => h) (fun w'' hS => by kernel_rfl) hK0 ?_
 refine takeU_at (i := 2) (d := some 11) (v := .pointer (some ⟨Y, 0, none⟩)) (by kernel_rfl) (by kernel_rfl) (fun _ _ _ h => h) (fun w'' hS => by kernel_rfl) hK0 ?_
 refine takeU_at (i := 3) (d := some 12) (v := .pointer (some ⟨Y, 4, none⟩)) (by kernel_rfl) (by kernel_rfl) (fun _ _ _ h => h) (fun w'' hS => by kernel_rfl) hK0 ?_
 refine takeU_at (i := 4) (d := some 13) (v := .slice llo n lcap) (by kernel_rfl) (by kernel_rfl) (fun _ _ _ h => h) (fun w'' hS => exec_load 81 (.tmp 12) (by kernel_rfl) (by kernel_rfl) (by kernel_rfl) ((hS.cell hYl hlY).trans h1)) hK0 ?_
 refine takeU_at (i := 5) (d := some 14) (v := .pointer (some ⟨Y, 0, none⟩)) (by kernel_rfl) (by kernel_rfl) (fun _ _ _ h => h) (fun w'' hS => by kernel_rfl) hK0 ?_
 refine takeU_at (i := 6) (d := some 15) (v := .pointer (some ⟨Y, 0, none⟩)) (by kernel_rfl) (by kernel_rfl) (fun _ _ _ h => h) (fun w'' hS => by kernel_rfl) hK0 ?_
 refine takeU_at (i := 7) (d := some 16) (v := .pointer (some ⟨Y, 1, none⟩)) (by kernel_rfl) (by kernel_rfl) (fun _ _ _ h => h) (fun w'' hS => by kernel_rfl) hK0 ?_
 refine takeU_at (i := 8) (d := some 17) (v := .slice io bss.length icap) (by kernel_rfl) (by kernel_rfl) (fun _ _ _ h => h) (fun w'' hS => exec_load 79 (.tmp 16) (by kernel_rfl) (by kernel_rfl) (by kernel_rfl) ((hS.cell hYl hlY).trans hcY)) hK0 ?_
 refine takeU_at (i := 10) (d := some 19) (v := .pointer (some ⟨Y, 0, none⟩)) (by kernel_rfl) (by kernel_rfl) (fun _ _ _ h => h) (fun w'' hS => by kernel_rfl) hK0 ?_
 refine takeU_at (i := 11) (d := some 20) (v := .pointer (some ⟨Y, 0, none⟩)) (by kernel_rfl) (by kernel_rfl) (fun _ _ _ h => h) (fun w'' hS => by kernel_rfl) hK0 ?_
 refine takeU_at (i := 12) (d := some 21) (v := .pointer (some ⟨Y, 2, none⟩)) (by kernel_rfl) (by kernel_rfl) (fun _ _ _ h => h) (fun w'' hS => by kernel_rfl) hK0 ?_
 refine takeU_at (i := 13) (d := some 22) (v := .bool dead) (by kernel_rfl) (by kernel_rfl) (fun _ _ _ h => h) (fun w'' hS => exec_load 4 (.tmp 21) (by kernel_rfl) (by kernel_rfl) (by kernel_rfl) ((hS.cell hYl hlY).trans h2)) hK0 ?_
 refine enterU_at (i := 9) (d := some 18) (w' := w.drew) (f := 84) (args := #[.slice io bss.length icap]) (by kernel_rfl) (by kernel_rfl) (by kernel_rfl) ?_
 have hdr : Nw w w.drew := (Fr.refl _ w).drew
 refine (copied_any io icap bss w.drew H8.out H6.out (HBR.out.nw hdr)).mono ?_
 rintro e w1 ⟨v1, rfl, vs1, hM, hI⟩
 have hf1 : Nw w w1 := hdr.trans hM.nw (fun _ x => x.elim)
 have hK1 : Fr (fun k => (Value.slice llo n lcap).ownBlock = some k) w w1 := hf1.mono (fun _ x => x.elim)
 obtain ⟨o1, c1, hv1, _⟩ := hM.row.form
 have hone1 : v1.oneCell' = true := by rw [hv1]; rfl
 refine ⟨v1, rfl, fun _ => hK1, ?_⟩
 subst hv1
 refine valueU_at (i := 14) (d := some 23) (v := .agg #[.slice o1 vs1.length c1, .bool dead]) (w' := w1) (by kernel_rfl) (by kernel_rfl) (by kernel_rfl) (fun _ => hK1) ?_
 obtain ⟨wa, hwa⟩ : ∃ wa, w1.alloc (.cells #[.slice o1 vs1.length c1, .bool dead] 147) = wa := ⟨_, rfl⟩
 have hfa : Nw w1 wa := by rw [← hwa]; exact (Fr.refl _ w1).alloc _
 have hba : Blk wa w1.heap.size #[.slice o1 vs1.length c1, .bool dead] 147 := by rw [← hwa]; exact Blk.new _ _ _
 have hf1a : Nw w wa := hf1.trans hfa (fun _ x => x.elim)
 have hKa : Fr (fun k => (Value.slice llo n lcap).ownBlock = some k) w wa := hf1a.mono (fun _ x => x.elim)
 refine valueU_at (i := 15) (d := some 24) (v := .slice (some ⟨w1.heap.size, 0, none⟩) 1 1) (w' := wa) (by kernel_rfl) (by kernel_rfl) (by rw [← hwa]; kernel_rfl) (fun _ => hKa) ?_
 have hown : wa.ownsRow 0 147 2 (.slice llo n lcap) n (R.ls.reverse.flatMap RL.cells) := by
  have := ownsRow.fr HR.out.lrow hf1a (fun _ _ x => x)
  rw [Hlv.out, Hn.out] at this
  exact this
 obtain ⟨v', wb, hrun, hA1, hA2, hA3⟩ := exec_appendN (c := 1) (ys := [.slice o1 vs1.length c1, .bool dead]) (ev := pushEv (.slice llo n lcap) (.slice (some ⟨w1.heap.size, 0, none⟩) 1 1)) (o := opAt pushReg 16) (w := wa) 2 32 (.tmp 13) (.tmp 24) 81 (by kernel_rfl) (by kernel_rfl) (by kernel_rfl) Tryz.underlying81 hi0 hz0 hz1 hz2 rfl (by decide) hown rfl (blk_cells hba) (by simp [Value.oneCell']) (by unfold maxLen; omega) (by omega)
 obtain ⟨g', cap', rfl, hfb, hab, hltb⟩ := appS hA1 hA2 hA3
 have hKb : Fr (fun k => (Value.slice llo n lcap).ownBlock = some k) w wb := hKa.trans hfb (fun i h => .inl h)
 refine valueU_at (i := 16) (d := some 25) (v := .slice (some ⟨g', 0, none⟩) (n + 1) cap') (w' := wb) (by kernel_rfl) (by kernel_rfl) (Eq.trans (exec_same (s := .tmp 13) (y := .tmp 24) (t := 81) (by kernel_rfl) (by kernel_rfl)) hrun) (fun _ => hKb) ?_
 have hbY := HR.out.rin.blk.fr hKb hlY
 refine valueU_at (i := 17) (d := some 26) (v := .pointer (some ⟨Y, 0, none⟩)) (w' := wb) (by kernel_rfl) (by kernel_rfl) (by kernel_rfl) (fun _ => hKb) ?_
 refine valueU_at (i := 18) (d := some 27) (v := .pointer (some ⟨Y, 4, none⟩)) (w' := wb) (by kernel_rfl) (by kernel_rfl) (by kernel_rfl) (fun _ => hKb) ?_
 refine skipU_at (i := 19) (d := none) (w' := wb.setCell ⟨Y, 4, none⟩ (.slice (some ⟨g', 0, none⟩) (n + 1) cap')) (by kernel_rfl) (by kernel_rfl) (exec_storeU (old := R.lv) 81 (.tmp 27) (.tmp 25) (by kernel_rfl) (by kernel_rfl) (by kernel_rfl) rfl (by kernel_rfl) (hbY.cell 4) (hbY.free 4)) (fun h => absurd rfl h) ?_
 refine anyU_done (by kernel_rfl) (show _ from ?_) _
 simp only [Act.put, List.setIfInBounds_toArray, List.set_cons_zero, List.set_cons_succ]
 obtain ⟨w2, hw2⟩ : ∃ w2, wb.setCell ⟨Y, 4, none⟩ (.slice (some ⟨g', 0, none⟩) (n + 1) cap') = w2 := ⟨_, rfl⟩
 have hfs : Fr (fun k => k = Y) wb w2 := by rw [← hw2]; exact (Fr.refl (fun k => k = Y) wb).setCell _ _ (.inl rfl)
 have hg'Y : g' ≠ Y := fun e => by
  obtain ⟨cur, hb⟩ := ownsRow.blk hA1 (k := g') rfl
  rw [e] at hb
  exact absurd (hb.inj hbY).2 (by decide)
 have hblk2 : Blk w2 Y #[R.szv, R.now.inv, .bool R.now.dead, R.tv, .slice (some ⟨g', 0, none⟩) (n + 1) cap'] 83 := by
  rw [← hw2]
  have := hbY.set 4 (.slice (some ⟨g', 0, none⟩) (n + 1) cap')
  simpa using this
 -- what is neither Y nor the levels' block stays
 have hnT : ∀ {q : Nat} {cur : Array Value} {e : TypeId}, Blk wa q cur e → e ≠ 147 → ¬ (Value.slice llo n lcap).ownBlock = some q := fun hq he h => by
  obtain ⟨cur', hb'⟩ := ownsRow.blk hown h
  exact he (hq.inj hb').2
 have hnY2 : ∀ {q : Nat} {cur : Array Value} {e : TypeId}, Blk wb q cur e → e ≠ 83 → ¬ q = Y := fun hq he h => by
  rw [h] at hq
  exact he (hq.inj hbY).2
 have keepR : ∀ {v : Value} {e : TypeId} {sz k : Nat} {xs : List Value}, wa.ownsRow 0 e sz v k xs → e ≠ 147 → e ≠ 83 → w2.ownsRow 0 e sz v k xs := fun {v e sz k xs} h h1 h2 => by
  have hb : wb.ownsRow 0 e sz v k xs := ownsRow.fr h hfb (fun q hq => by
   obtain ⟨cur, hb⟩ := ownsRow.blk h hq
   exact hnT hb h1)
  exact ownsRow.fr hb hfs (fun q hq => by
   obtain ⟨cur, hb'⟩ := ownsRow.blk hb hq
   exact hnY2 hb' h2)
 have keepL : ∀ {l : RL}, RLAt wa lo zs l → RLAt w2 lo zs l := fun {l} h => ⟨keepR h.inn (by decide) (by decide), ⟨h.rows.len, fun i hi => keepR (h.rows.row i hi) (by decide) (by decide), h.rows.ne, h.rows.lo⟩, h.len, h.each, h.inlo⟩
 have hRa := HR.out.nw hf1a
 have hnow := keepL hRa.rin.lev
 have hnew : RLAt w2 lo zs ⟨.slice o1 vs1.length c1, vs1, R.now.bss, R.now.dead⟩ := by
  have hI2 : InRows w1 lo vs1 R.now.bss := by
   rw [Hbss.out]
   exact ⟨hI.len, hI.row, hI.ne, fun i hi k hk => Nat.le_trans hlw (hI.lo i hi k hk)⟩
  exact keepL ⟨hM.row.nw hfa, hI2.fr hfa (fun _ _ x => x.elim), HR.out.rin.len, HR.out.rin.each, fun k hk => Nat.le_trans hlw (hM.since k hk)⟩
 obtain ⟨cells, t1, t2⟩ := hRa.tabs
 have hglo : lo ≤ g' := by
  rcases hab with h | h
  ·exact HR.out.llo g' (by rw [Hlv.out]; exact h)
  ·have := hf1a.size
   omega
 have hnewHas : ∀ k, RL.has ⟨.slice o1 vs1.length c1, vs1, R.now.bss, R.now.dead⟩ k → w.heap.size ≤ k := fun k ⟨u, hu, hk⟩ => hI.lo u (by rw [← hI.len]; exact hu) k hk
 have hR2 : RAt W w2 lo Y zs { R with lv := .slice (some ⟨g', 0, none⟩) (n + 1) cap', ls := ⟨.slice o1 vs1.length c1, vs1, R.now.bss, R.now.dead⟩ :: R.ls } := by
  refine ⟨⟨hblk2, keepR hRa.rin.sz (by decide) (by decide), hnow.inn, hnow.rows, hnow.len, hnow.each, HR.out.rin.zok, HR.out.rin.szlo, HR.out.rin.inlo, HR.out.rin.ylo⟩, ⟨cells, keepR t1 (by decide) (by decide), t2⟩, HR.out.t12, HR.out.tok, ?_, ?_, ?_, ?_, HR.out.tlo, fun k hk => (by cases hk; exact hglo)⟩
  ·show w2.ownsRow 0 147 2 _ (R.ls.length + 1) ((_ :: R.ls).reverse.flatMap RL.cells)
   rw [Hn.out, List.reverse_cons, List.flatMap_append]
   have := ownsRow.fr hA1 hfs (fun k hk e => by
    cases hk
    exact hg'Y e)
   rw [← Hdead.out] at this
   exact this
  ·intro l hl
   rcases List.mem_cons.1 hl with rfl | hl
   ·exact hnew
   ·exact keepL (hRa.levs l hl)
  ·show R.ls.length + 1 ≤ 20
   rw [Hn.out]
   omega
  ·have ha := List.pairwise_cons.1 HR.out.apart
   refine List.pairwise_cons.2 ⟨fun b hb => ?_, List.pairwise_cons.2 ⟨fun b hb k hk hbk => ?_, ha.2⟩⟩
   ·rcases List.mem_cons.1 hb with rfl | hb
    ·intro k hk hbk
     obtain ⟨cur, hbl⟩ := HR.out.rin.lev.bool hk
     have := hbl.lt
     have := hnewHas k hbk
     omega
    ·exact ha.1 b hb
   ·obtain ⟨cur, hbl⟩ := (HR.out.levs b hb).bool hbk
    have := hbl.lt
    have := hnewHas k hk
    omega
 have Hfin := hd (show ∃ lv inv vs, RAt W w2 lo Y zs { R with lv := lv, ls := ⟨inv, vs, R.now.bss, R.now.dead⟩ :: R.ls } ∧ Fr (R.wr Y) w w2 ∧ (∀ k, RS.own Y { R with lv := lv, ls := ⟨inv, vs, R.now.bss, R.now.dead⟩ :: R.ls } k → R.own Y k ∨ w.heap.size ≤ k) from by
  refine ⟨_, _, _, hR2, (hKb.mono (fun i hi => .inl (.inr (.inr (.inr (by rw [Hlv.out]; exact hi)))))).trans hfs (fun i hi => .inl (.inl hi)), fun k hk => ?_⟩
  rcases hk with (rfl | hk | hk | hk) | hk | hk | ⟨l, hl, hk⟩
  ·exact .inl (.inl (.inl rfl))
  ·exact .inl (.inl (.inr (.inl hk)))
  ·exact .inl (.inl (.inr (.inr (.inl hk))))
  ·cases hk
   rcases hab with h | h
   ·exact .inl (.inl (.inr (.inr (.inr (by rw [Hlv.out]; exact h)))))
   ·right
    have := hf1a.size
    show w.heap.size ≤ g'
    omega
  ·exact .inl (.inr (.inl hk))
  ·exact .inl (.inr (.inr (.inl hk)))
  ·rcases List.mem_cons.1 hl with rfl | hl
   ·rcases hk with hk | hk
    ·exact .inr (hnewHas k hk)
    ·exact .inr (hM.since k hk)
   ·exact .inl (.inr (.inr (.inr ⟨l, hl, hk⟩))))
 rw [hw2]
 clear hR2 hnow hnew keepL keepR hnT hnY2 hRa hblk2 hg'Y hfs hw2 hbY hKb hfb hab hltb hA1 hA2 hA3 hrun hKa hba hfa hwa hK0 h1 h2 hcY hYl hK1 hf1 hM hI hown hf1a hglo hnewHas t1 t2 hdr hlY
 go_wp2_with fail
 go_ret
 exact ⟨rfl, Hfin.out⟩
end Go.Proofs.YtkjfpdfkcfgfkaaGreat

namespace Go.Proofs.YtkjfpdfkcfgfkaaGreat
open Go.RowKit

theorem push_two {W w : World} {lo X Y : Nat} {zs : List Int} {s : WS} {R : RS} (hE : Env W w lo) (h : Pair false W w lo X Y zs s R) :
  Calls Tryz.prog 61 #[.pointer (some ⟨X, 0, none⟩)] w fun e w1 => ∃ r : Int, e = .returned (.int .i64 r) ∧ Fr (s.own X) w w1 ∧ Next false W w w1 lo X Y zs s R 63 #[.pointer (some ⟨Y, 0, none⟩)] (.int .i64 r) := by
 have hlen := h.levs.len
 have h20 := h.ref.l20
 by_cases hf : s.sk.length = 20
 ·refine (wpush_no X zs s w h.at_ h.busy hf).mono ?_
  rintro e w1 ⟨rfl, rfl⟩
  refine ⟨2, rfl, Fr.refl _ _, next_no hE h (Fr.refl _ _) (fun w2 f2 => ?_)⟩
  have hr := (h.ref.nw f2).rin.blk
  obtain ⟨llo, lcap, hlv⟩ := owns_form h.ref.lrow
  rw [hlv, hlen, hf] at hr
  refine (refPush_no Y R.szv R.now.inv R.tv R.now.dead llo lcap w2 hr).mono ?_
  rintro e w3 ⟨rfl, rfl⟩
  exact ⟨rfl, Fr.refl _ _⟩
 ·refine (wpush_yes X zs s w h.at_ h.busy (by omega)).mono ?_
  rintro e w1 ⟨rfl, sv, h3, h4⟩
  have hW1 : Nw W w1 := hE.nw.trans h4.fr (fun i hi => .inr (Nat.le_trans hE.base (h.xlo i hi)))
  refine ⟨0, rfl, h4.fr, fun w2 f2 => ?_⟩
  refine (refPush_yes W lo Y zs R w2 (Nat.le_trans hE.le (Nat.le_trans h4.fr.size f2.size)) (h.mid h4 f2) (by omega)).mono ?_
  rintro e w3 ⟨rfl, lv, inv, vs, k1, k2, k3⟩
  exact ⟨rfl, _, _, h.join hE.base hE.nw hE.le h3 h4 f2 k1 k2 rfl k3 h.busy h.now h.tabs ⟨h.now, h.levs⟩⟩
structure Did (zs : List Int) (s s' : WS) (vars : List Int) (rows : List (List Int)) (nt : Bool) (way r : Int) : Prop where
 num : r = postOf zs s vars rows way
 busy : s'.l.busy = s.l.busy
 no : r ≠ 0 → s' = s
 yes : r = 0 → s'.bs = s.bs ++ [⟨vars, rows, nt⟩] ∧ s'.sk = s.sk ∧ Dm s'.d ∧ Closure zs.length (s.bs ++ [⟨vars, rows, nt⟩]) s.d s'.d
theorem post_prog {X : Nat} {zs : List Int} {s : WS} {w : World} {vo ro : Option Addr} {vcap rcap : Nat} {vars : List Int} {rows : List (List Int)} {nt : Bool} {way : Int} (h : WAt w X zs s) (hbz : s.l.busy = false)
  (hl : vars.length * 8 ≤ 140737488355328) (hrl : rows.length * 24 ≤ 140737488355328) (hvcap : vars.length ≤ vcap) (hvs : IntsAt w vo vars) (hrs : RowsAt w ro rows) :
  Calls Tryz.prog 11 #[.pointer (some ⟨X, 0, none⟩), .agg #[.slice vo vars.length vcap, .slice ro rows.length rcap, .bool nt, .int .i64 way]] w fun e w' => ∃ (r : Int) (s' : WS), e = .returned (.int .i64 r) ∧ WAt w' X zs s' ∧ WStep w w' X s s' ∧ Did zs s s' vars rows nt way r := by
 by_cases h0 : postOf zs s vars rows way = 0
 ·refine (post_yes X vo ro vcap rcap zs s vars rows nt way w h hbz hvcap hvs hrs h0).mono ?_
  rintro e w' ⟨rfl, so, tcap, x, d', bv, ts, us, h1, h2, h3, h4⟩
  exact ⟨0, _, rfl, h3, h4, h0.symm, rfl, fun h => absurd rfl h, fun _ => ⟨rfl, rfl, h2, h1⟩⟩
 ·refine (post_no X vo ro vcap rcap zs s vars rows nt way w h hbz hl hrl hvcap hvs hrs h0).mono ?_
  rintro e w' ⟨rfl, hf⟩
  exact ⟨_, s, rfl, h.nw hf, WStep.nw hf X s, rfl, rfl, fun _ => rfl, fun h => absurd h h0⟩
theorem post_doc {W w : World} {lo Y : Nat} {zs : List Int} {s s' : WS} {R : RS} {vo ro : Option Addr} {vcap rcap : Nat} {vars : List Int} {rows : List (List Int)} {nt : Bool} {way r : Int} (hlo : W.heap.size ≤ lo) (hlw : lo ≤ w.heap.size) (hW : Nw W w) (hR : RAt W w lo Y zs R) (hts : s.ts.length = s.bs.length)
  (hnow : LinkD zs.length R.now s.d) (htabs : s.bs = R.ts.map TbW.tb) (hlevs : LinkL zs.length R.ls s.sk) (hl : vars.length * 8 ≤ 140737488355328) (hrl : rows.length * 24 ≤ 140737488355328) (hvs : IntsAt W vo vars) (hrs : RowsAt W ro rows) (hd : Did zs s s' vars rows nt way r) :
  Calls Tryz.prog 79 #[.pointer (some ⟨Y, 0, none⟩), .agg #[.slice vo vars.length vcap, .slice ro rows.length rcap, .bool nt, .int .i64 way]] w fun e w' => e = .returned (.int .i64 r) ∧ ∃ R', RAt W w' lo Y zs R' ∧ Fr (R.wr Y) w w' ∧ (∀ k, R'.own Y k → R.own Y k ∨ w.heap.size ≤ k) ∧ R'.szv = R.szv ∧ LinkD zs.length R'.now s'.d ∧ s'.bs = R'.ts.map TbW.tb ∧ LinkL zs.length R'.ls s'.sk := by
 have hpos := (okSizes_len hR.rin.zok).1
 have htl : s.ts.length = R.ts.length := by rw [hts, htabs, List.length_map]
 have hll := hlevs.len
 have ht12 := hR.t12
 have hpR : postR zs vars rows way R.ts.length R.ls.length R.now.dead = r := by
  rw [hd.num]
  unfold postR postOf
  rw [htl, hll]
  by_cases h1 : okTable zs vars rows way = false
  ·rw [if_pos h1, if_pos h1]
  ·rw [if_neg h1, if_neg h1]
   by_cases h2 : R.ts.length = 12
   ·rw [if_pos h2, if_pos (by omega)]
   ·rw [if_neg h2, if_neg (by omega)]
    by_cases h3 : s.sk.length ≠ 0
    ·rw [if_pos h3, if_pos (by omega)]
    ·rw [if_neg h3, if_neg (by omega)]
     by_cases h4 : R.now.dead = true
     ·rw [if_pos h4, if_pos ((hnow.iff hpos).2 h4)]
     ·rw [if_neg h4, if_neg (fun h => h4 ((hnow.iff hpos).1 h))]
 obtain ⟨cells, t1, _⟩ := hR.tabs
 obtain ⟨tto, tcap, htv⟩ := owns_form t1
 obtain ⟨llo, lcap, hlv⟩ := owns_form hR.lrow
 by_cases h0 : r = 0
 ·rw [h0] at hpR ⊢
  unfold postR at hpR
  by_cases h1 : okTable zs vars rows way = false
  ·rw [if_pos h1] at hpR
   omega
  ·rw [if_neg h1] at hpR
   by_cases h2 : 12 ≤ R.ts.length
   ·rw [if_pos h2] at hpR
    omega
   ·rw [if_neg h2] at hpR
    by_cases h3 : 0 < R.ls.length
    ·rw [if_pos h3] at hpR
     omega
    ·rw [if_neg h3] at hpR
     by_cases h4 : R.now.dead = true
     ·rw [if_pos h4] at hpR
      omega
     ·have hdd : R.now.dead = false := by simpa using h4
      have hsd : s.d = domB R.now.bss := by
       rcases hnow with ⟨h5, _⟩ | ⟨_, h5, _⟩
       ·exact absurd h5 h4
       ·exact h5
      obtain ⟨y1, y2, y3, y4⟩ := hd.yes h0
      refine (refPost_yes W lo Y zs R vo ro vcap rcap vars rows nt way w hlo hlw hW hR hdd (List.eq_nil_of_length_eq_zero (by omega)) (by omega) (by simpa using h1) hvs hrs).mono ?_
      rintro e w' ⟨rfl, now, tv, d, k1, k2, k3, k4, k5, k6⟩
      have e1 : s'.bs = (R.ts ++ [(⟨⟨vars, rows, nt⟩, way⟩ : TbW)]).map TbW.tb := by rw [y1, htabs, List.map_append]; rfl
      refine ⟨rfl, _, k1, k2, k3, rfl, ?_, e1, by rw [y2]; exact hlevs⟩
      rw [← e1, ← hsd] at k5
      rw [← y1] at y4
      rw [y4.one y3 k4 k5]
      exact k6
 ·rw [hd.no h0]
  have hr := hR.rin
  rw [htv, hlv] at hr
  rw [← hpR]
  refine (refPost_no lo Y zs R.szv R.now.inv R.now.vs R.now.bss R.now.dead tto llo R.ts.length tcap R.ls.length lcap vo ro vcap rcap vars rows nt way w hl hrl hr (hvs.nw hW) (hrs.nw hW) (by rw [hpR]; exact h0)).mono ?_
  rintro e w' ⟨rfl, hf⟩
  exact ⟨rfl, R, hR.nw hf, hf.mono (fun _ x => x.elim), fun k hk => .inl hk, rfl, hnow, htabs, hlevs⟩
theorem Pair.fin {bz : Bool} {W w2 w3 : World} {lo X Y : Nat} {zs : List Int} {s' : WS} {R R' : RS} (h12 : WAt w2 X zs s') (hr2 : RAt W w2 lo Y zs R) (hz' : ∀ k, R.szv.ownBlock = some k → ¬ s'.own X k) (hx' : ∀ k, s'.own X k → lo ≤ k) (hr : RAt W w3 lo Y zs R') (hfr : Fr (R.wr Y) w2 w3) (hz : R'.szv = R.szv)
  (hb : s'.l.busy = bz) (hn : LinkD zs.length R'.now s'.d) (ht : s'.bs = R'.ts.map TbW.tb) (hl : LinkL zs.length R'.ls s'.sk) : Pair bz W w3 lo X Y zs s' R' :=
 ⟨h12.fr hfr (fun q hq hw => h12.apartR hr2 hz' q (.inl hw) hq) hr2.only (by decide), hr, hb, hn, ht, hl, by rw [hz]; exact hz', hx'⟩
theorem left_link {l : RL} {zs : List Int} {d : List Nat} (hv : ∀ q, vals (d.getD q 0) = if q < zs.length then rDom l.bss l.dead q else []) (h8 : zs.length ≤ 8) : leftTo d 8 = leftR l.bss l.dead zs.length ∧ fixTo d 8 = fixR l.bss l.dead zs.length := by
 have hp : ∀ q, pop (d.getD q 0) = if q < zs.length then (rDom l.bss l.dead q).length else 0 := fun q => by
  show (vals (d.getD q 0)).length = _
  rw [hv q]
  split <;> rfl
 have h1 : ∀ k, k ≤ zs.length → leftTo d k = leftR l.bss l.dead k ∧ fixTo d k = fixR l.bss l.dead k := by
  intro k
  induction k with
  | zero => intro _; exact ⟨by simp [leftTo, leftR], by simp [fixTo, fixR]⟩
  | succ k ih =>
   intro hk
   obtain ⟨i1, i2⟩ := ih (by omega)
   rw [leftTo_succ, fixTo_succ, hp k, if_pos (by omega), i1, i2]
   exact ⟨rfl, rfl⟩
 have h2 : ∀ k, zs.length + k ≤ 8 → leftTo d (zs.length + k) = leftTo d zs.length ∧ fixTo d (zs.length + k) = fixTo d zs.length := by
  intro k
  induction k with
  | zero => intro _; exact ⟨rfl, rfl⟩
  | succ k ih =>
   intro hk
   obtain ⟨i1, i2⟩ := ih (by omega)
   rw [← Nat.add_assoc, leftTo_succ, fixTo_succ, hp (zs.length + k), if_neg (by omega), i1, i2]
   exact ⟨rfl, rfl⟩
 obtain ⟨i1, i2⟩ := h1 zs.length (Nat.le_refl _)
 obtain ⟨j1, j2⟩ := h2 (8 - zs.length) (by omega)
 rw [show zs.length + (8 - zs.length) = 8 by omega] at j1 j2
 exact ⟨j1.trans i1, j2.trans i2⟩
theorem look_two {W w : World} {lo X Y : Nat} {zs : List Int} {s : WS} {R : RS} (h : Pair false W w lo X Y zs s R) :
  Calls Tryz.prog 59 #[.pointer (some ⟨X, 0, none⟩)] w fun e w1 => ∃ (a b c l f : Nat) (dd : Bool), e = .returned (.agg #[.int .i64 (a : Int), .int .i64 (b : Int), .int .i64 (c : Int), .bool dd, .int .i64 (l : Int), .int .i64 (f : Int)]) ∧ Nw w w1 ∧
   ∀ w2, Nw w w2 → Calls Tryz.prog 60 #[.pointer (some ⟨Y, 0, none⟩)] w2 fun e w3 => e = .returned (.agg #[.int .i64 (a : Int), .int .i64 (b : Int), .int .i64 (c : Int), .bool dd, .int .i64 (l : Int), .int .i64 (f : Int)]) ∧ Nw w2 w3 := by
 have hz := okSizes_len h.at_.mem.zok
 refine (look_any X zs s w h.at_ h.busy).mono ?_
 rintro e w1 ⟨rfl, hf⟩
 refine ⟨zs.length, s.ts.length, s.sk.length, leftTo s.d 8, fixTo s.d 8, (s.d.getD 0 0 == 0), rfl, hf, fun w2 f2 => ?_⟩
 have hr := (h.ref.nw f2).rin
 obtain ⟨cells, t1, _⟩ := h.ref.tabs
 obtain ⟨tto, tcap, htv⟩ := owns_form t1
 obtain ⟨llo, lcap, hlv⟩ := owns_form h.ref.lrow
 rw [htv, hlv] at hr
 refine (refLook_any lo Y zs R.szv R.now.inv R.now.vs R.now.bss R.now.dead tto llo R.ts.length tcap R.ls.length lcap w2 hr).mono ?_
 rintro e w3 ⟨rfl, hf3⟩
 refine ⟨?_, hf3⟩
 obtain ⟨l1, l2⟩ := left_link (LinkD.vals h.now h.ref.rin.in8 h.ref.rin.b6 h.ref.rin.len) hz.2
 have htl : s.ts.length = R.ts.length := by rw [h.at_.mem.fits.1, h.tabs, List.length_map]
 have hdb : (s.d.getD 0 0 == 0) = R.now.dead := by
  have := h.now.iff hz.1
  cases hb : R.now.dead with
  | true =>
   rw [this.2 hb]
   rfl
  | false =>
   rw [beq_eq_false_iff_ne]
   intro h0
   rw [this.1 h0] at hb
   cases hb
 rw [htl, ← h.levs.len, l1, l2, hdb]
end Go.Proofs.YtkjfpdfkcfgfkaaGreat

namespace Go.Proofs.YtkjfpdfkcfgfkaaGreat
open Go.RowKit

theorem Tryz.infoInts : (Tryz.prog.info? 22).map (fun i => (i.zero, i.size, i.bytes)) = some (some (.slice none 0 0), 1, 24) := by kernel_rfl

def turnedTo (zs : List Int) (k : Nat) : Array Value := ((List.replicate k (-7) ++ (zs ++ [78]).drop k).map (Value.int .i64)).toArray
theorem turnedTo_zero (zs : List Int) : turnedTo zs 0 = ((zs ++ [78]).map (Value.int .i64)).toArray := by simp [turnedTo]
theorem turnedTo_size (zs : List Int) (k : Nat) (hk : k ≤ zs.length + 1) : (turnedTo zs k).size = zs.length + 1 := by simp [turnedTo]; omega
theorem turnedTo_succ (zs : List Int) (k : Nat) (hk : k < zs.length + 1) : (turnedTo zs k).setIfInBounds k (.int .i64 (-7)) = turnedTo zs (k + 1) := by
 apply Array.ext
 ·simp [turnedTo_size zs k (by omega), turnedTo_size zs (k + 1) (by omega)]
 ·intro i h1 h2
  simp only [turnedTo, List.setIfInBounds_toArray, List.getElem_toArray, List.getElem_set, List.getElem_map]
  by_cases h : k = i
  ·subst h; simp
  ·rw [if_neg h]
   congr 1
   simp only [List.getElem_append, List.length_replicate, List.getElem_replicate, List.getElem_drop]
   by_cases h3 : i < k
   ·simp [h3, show i < k + 1 by omega]
   ·simp only [h3, show ¬ i < k + 1 by omega, dite_false]
    have e1 : k + (i - k) = i := by omega
    have e2 : k + 1 + (i - (k + 1)) = i := by omega
    simp only [e1, e2]
theorem turnedTo_end (zs : List Int) : turnedTo zs (zs.length + 1) = (List.replicate (zs.length + 1) (Value.int .i64 (-7))).toArray := by
 simp [turnedTo]

set_option maxHeartbeats 800000 in
set_option maxRecDepth 1000000 in
theorem returned_any (B g : Nat) (ao : Option Addr) (cap : Nat) (zs : List Int) (s0 s1 tv s3 : Value) (xs : List Value) (w : World) (hz : zs.length * 8 ≤ 140737488355328)
  (hB : Blk w B #[s0, s1, tv, s3] 29) (htv : Row w tv 22 xs) (hxs : (xs.length + 1) * 24 ≤ 140737488355328)
  (hg : Blk w g ((zs ++ [78]).map (Value.int .i64)).toArray 3) (hl : IntsAt w ao zs) :
  Calls Tryz.prog 16 #[.pointer (some ⟨B, 0, none⟩), .slice (some ⟨g, 0, none⟩) (zs.length + 1) (zs.length + 1), .slice ao zs.length cap] w fun e w' =>
   e = .returned (.bool true) ∧ ∃ tv', Fr (fun k => k = B ∨ k = g ∨ tv.ownBlock = some k) w w' ∧ Blk w' B #[s0, s1, tv', s3] 29 ∧
    Row w' tv' 22 (xs ++ [.slice (some ⟨g, 0, none⟩) (zs.length + 1) (zs.length + 1)]) ∧ Blk w' g (turnedTo zs (zs.length + 1)) 3 ∧
    (∀ k, tv'.ownBlock = some k → tv.ownBlock = some k ∨ w.heap.size ≤ k) := by
 obtain ⟨i0, hi, hz0, hz1, hz2⟩ := info_parts Tryz.infoInts
 have hg78 : w.cell? ⟨g, zs.length, none⟩ = some (.int .i64 78) := by rw [hg.cell]; simp
 have hown : IntsAt w (some ⟨g, 0, none⟩) zs := IntsAt.of_blk hg 0 zs (fun i hi => by
  simp [List.getElem?_append_left, hi])
 go_enter Tryz.func16, Tryz.ntmps16
 go_wp2_with (go_at_call 33; refine (sameInts_eq _ _ _ _ zs _ hz hown hl).mono ?_; rintro e w' ⟨rfl, n, rfl⟩)
 have hgn : Blk (w.drewN n) g (turnedTo zs 0) 3 := by rw [turnedTo_zero]; exact hg
 have hFr0 : Fr (fun k => k = g) w (w.drewN n) := (Fr.refl _ w).drewN n
 clear hg78 hown hl
 go_loopw [10] (fun i wr => ∃ k : Nat, k ≤ zs.length + 1 ∧ i = .int .i64 k ∧ Hid (Blk wr g (turnedTo zs k) 3) ∧ Fr (fun k => k = g) w wr) (fun i _ => zs.length + 1 - (intOf i).toNat)
 case atStart => exact ⟨0, Nat.zero_le _, rfl, hgn, hFr0⟩
 case round =>
  obtain ⟨k, hk, rfl, hb, hf⟩ := hrel
  clear hgn hFr0
  by_cases hlt : k < zs.length + 1
  ·have hfz := hb.out.free k
   have hck : wr.cell? ⟨g, k, none⟩ = some _ := (hb.out.cell k).trans (Array.getElem?_eq_getElem (by rw [turnedTo_size zs k hk]; exact hlt))
   go_wp2
   go_roundw
   case rel => exact ⟨k + 1, by omega, by go_num, by rw [← turnedTo_succ zs k hlt]; exact hb.out.set k _, hf.setCell _ _ (.inl rfl)⟩
   case measure => simp [intOf]; omega
  ·obtain rfl : k = zs.length + 1 := by omega
   have hgB : g ≠ B := fun e => by subst e; have := (hg.inj hB).2; revert this; decide
   have hBr : Blk wr B #[s0, s1, tv, s3] 29 := hB.fr hf (fun e => hgB e.symm)
   have htr : Row wr tv 22 xs := htv.fr hf (fun k hk e => by subst e; exact htv.ne hg (by decide) hk)
   have hc2 : wr.cell? ⟨B, 2, none⟩ = some tv := hBr.cell 2
   go_wp2_with (at_builtin; refine wpList_append_own_at _ rfl _ _ 26 rfl 0 22 i0 (.slice none 0 0) 1 24 Tryz.underlying26 hi hz0 hz1 hz2 rfl (by decide) _ _ _ rfl (htr.alloc _) ⟨wr.heap.size, 0, none⟩ 1 1 [.slice (some ⟨g, 0, none⟩) (zs.length + 1) (zs.length + 1)] rfl rfl (cell_one_new _ _ _) (by simp [Value.oneCell']) (by unfold maxLen; omega) (by omega) (Nat.zero_le _) ?_; intro v' w1 hown' hgrow _ hat; obtain ⟨g', cap', rfl, hr1, hf1, ha1, hlt1⟩ := app1 hown' hgrow hat; have hB1 : Blk w1 B #[s0, s1, tv, s3] 29 := hBr.fr hf1 (fun e => htr.ne hBr (by decide) e); have hfzB := hB1.free 2; have hcB1 : w1.cell? ⟨B, 2, none⟩ = some tv := hB1.cell 2; clear hown' hgrow hat)
   have hb1 : Blk w1 g (turnedTo zs (zs.length + 1)) 3 := hb.out.fr hf1 (fun e => htr.ne hb.out (by decide) e)
   have hg'B : g' ≠ B := fun e => by
    subst e
    exact hr1.ne hB1 (by decide) rfl
   go_ret
   refine ⟨rfl, .slice (some ⟨g', 0, none⟩) (xs.length + 1) cap', ?_, ?_, ?_, hb1.other _ _ hgB, ?_⟩
   ·exact ((hf.mono (fun i e => .inl (.inr (.inl e)))).trans hf1 (fun i e => .inl (.inr (.inr e)))).setCell _ _ (.inl (.inl rfl))
   ·have := hB1.set 2 (.slice (some ⟨g', 0, none⟩) (xs.length + 1) cap')
    simpa using this
   ·exact hr1.fr ((Fr.refl (fun k => k = B) w1).setCell ⟨B, 2, none⟩ _ (.inl rfl)) (fun k hk e => hg'B (by cases hk; exact e))
   ·intro k hk
    cases hk
    rcases ha1 with h | h
    ·exact .inl h
    ·exact .inr (by have := hf.size; simp only [h]; omega)
end Go.Proofs.YtkjfpdfkcfgfkaaGreat

namespace Go.Proofs.YtkjfpdfkcfgfkaaGreat
open Go.RowKit

def AllAre (w : World) (v : Value) (c : Int) : Prop := ∃ ao n cap, v = .slice ao n cap ∧ n * 8 ≤ 140737488355328 ∧ IntsAt w ao (List.replicate n c)
def AllNil (w : World) (v : Value) : Prop := ∃ ao n cap, v = .slice ao n cap ∧ n * 24 ≤ 140737488355328 ∧ ∀ i, i < n → ∃ b o, ao = some ⟨b, o, none⟩ ∧ b < w.heap.size ∧ w.cell? ⟨b, o + i, none⟩ = some (.slice none 0 0)

structure Keeps (w : World) (nv tv rv : Value) (nums turned rows : List Value) : Prop where
 rn : Row w nv 22 nums
 rt : Row w tv 22 turned
 rr : Row w rv 26 rows
 ln : nums.length * 24 ≤ 140737488355328
 lt : turned.length * 24 ≤ 140737488355328
 lr : rows.length * 24 ≤ 140737488355328
 an : ∀ i (h : i < nums.length), AllAre w nums[i] (-1 - (i / 4 * 4 : Nat))
 at_ : ∀ i (h : i < turned.length), AllAre w turned[i] (-7)
 ar : ∀ i (h : i < rows.length), AllNil w rows[i]

set_option maxHeartbeats 1600000 in
set_option maxRecDepth 1000000 in
theorem kept_any (B : Nat) (s0 nv tv rv : Value) (nums turned rows : List Value) (w : World)
  (hB : Blk w B #[s0, nv, tv, rv] 29) (hK : Keeps w nv tv rv nums turned rows) :
  Calls Tryz.prog 19 #[.pointer (some ⟨B, 0, none⟩)] w fun e w' => e = .returned (.bool true) ∧ w' = w := by
 have c1 : w.cell? ⟨B, 1, none⟩ = some nv := hB.cell 1
 have c2 : w.cell? ⟨B, 2, none⟩ = some tv := hB.cell 2
 have c3 : w.cell? ⟨B, 3, none⟩ = some rv := hB.cell 3
 have hln := hK.ln
 have hlt := hK.lt
 have hlr := hK.lr
 obtain ⟨an, cn, rfl, hna⟩ := hK.rn.form
 obtain ⟨at0, ct, rfl, hta⟩ := hK.rt.form
 obtain ⟨ar, cr, rfl, hra⟩ := hK.rr.form
 have HK := hd hK
 have HB := hd hB
 clear hK hB hna hta hra
 go_enter Tryz.func19, Tryz.ntmps19
 go_wp2
 go_loop [3] (fun i => ∃ k : Nat, k ≤ nums.length ∧ i = .int .i64 k) (fun i => nums.length - (intOf i).toNat)
 case atStart => exact ⟨0, Nat.zero_le _, rfl⟩
 case round =>
  obtain ⟨k, hk, rfl⟩ := hrel
  by_cases hkl : k < nums.length
  ·obtain ⟨g, cap, he, _, hcell, _⟩ := HK.out.rn.cell k hkl
   obtain ⟨ao, m, cap2, he2, hm, hz⟩ := HK.out.an k hkl
   cases he
   rw [he2] at hcell
   clear he2
   go_wp2
   go_loop [4] (fun i => ∃ j : Nat, j ≤ m ∧ i = .int .i64 j) (fun i => m - (intOf i).toNat)
   case atStart => exact ⟨0, Nat.zero_le _, rfl⟩
   case round =>
    obtain ⟨j, hj, rfl⟩ := hrel
    by_cases hjl : j < m
    ·obtain ⟨b, o, rfl, _, hc⟩ := hz j (by simpa using hjl)
     clear hz
     rw [show (List.replicate m (-1 - ((k / 4 * 4 : Nat) : Int))).getD j 0 = -1 - ((k / 4 * 4 : Nat) : Int) from by simp [hjl]] at hc
     go_wp2
     exact ⟨⟨j + 1, by omega, by go_num⟩, by simp [intOf]; omega⟩
    ·go_wp2
     exact ⟨⟨k + 1, by omega, by go_num⟩, by simp [intOf]; omega⟩
  ·go_wp2
   clear c1 hkl hk
   go_loop [5] (fun i => ∃ k : Nat, k ≤ turned.length ∧ i = .int .i64 k) (fun i => turned.length - (intOf i).toNat)
   case atStart => exact ⟨0, Nat.zero_le _, rfl⟩
   case round =>
    obtain ⟨k, hk, rfl⟩ := hrel
    by_cases hkl : k < turned.length
    ·obtain ⟨g, cap, he, _, hcell, _⟩ := HK.out.rt.cell k hkl
     obtain ⟨ao, m, cap2, he2, hm, hz⟩ := HK.out.at_ k hkl
     cases he
     rw [he2] at hcell
     clear he2
     go_wp2
     go_loop [6] (fun i => ∃ j : Nat, j ≤ m ∧ i = .int .i64 j) (fun i => m - (intOf i).toNat)
     case atStart => exact ⟨0, Nat.zero_le _, rfl⟩
     case round =>
      obtain ⟨j, hj, rfl⟩ := hrel
      by_cases hjl : j < m
      ·obtain ⟨b, o, rfl, _, hc⟩ := hz j (by simpa using hjl)
       clear hz
       rw [show (List.replicate m (-7 : Int)).getD j 0 = -7 from by simp [hjl]] at hc
       go_wp2
       exact ⟨⟨j + 1, by omega, by go_num⟩, by simp [intOf]; omega⟩
      ·go_wp2
       exact ⟨⟨k + 1, by omega, by go_num⟩, by simp [intOf]; omega⟩
    ·go_wp2
     clear c2 hkl hk
     go_loop [7] (fun i => ∃ k : Nat, k ≤ rows.length ∧ i = .int .i64 k) (fun i => rows.length - (intOf i).toNat)
     case atStart => exact ⟨0, Nat.zero_le _, rfl⟩
     case round =>
      obtain ⟨k, hk, rfl⟩ := hrel
      by_cases hkl : k < rows.length
      ·obtain ⟨g, cap, he, _, hcell, _⟩ := HK.out.rr.cell k hkl
       obtain ⟨ao, m, cap2, he2, hm, hz⟩ := HK.out.ar k hkl
       cases he
       rw [he2] at hcell
       clear he2
       go_wp2
       go_loop [8] (fun i => ∃ j : Nat, j ≤ m ∧ i = .int .i64 j) (fun i => m - (intOf i).toNat)
       case atStart => exact ⟨0, Nat.zero_le _, rfl⟩
       case round =>
        obtain ⟨j, hj, rfl⟩ := hrel
        by_cases hjl : j < m
        ·obtain ⟨b, o, rfl, _, hc⟩ := hz j hjl
         clear hz
         go_wp2
         exact ⟨⟨j + 1, by omega, by go_num⟩, by simp [intOf]; omega⟩
        ·go_wp2
         exact ⟨⟨k + 1, by omega, by go_num⟩, by simp [intOf]; omega⟩
      ·go_wp2
       go_ret
       exact ⟨rfl, rfl⟩
end Go.Proofs.YtkjfpdfkcfgfkaaGreat

namespace Go.Proofs.YtkjfpdfkcfgfkaaGreat
open Go.RowKit

theorem Tryz.infoSide : (Tryz.prog.info? 49).map (fun i => (i.zero, i.size, i.bytes)) = some (some (.pointer none), 1, 8) := by kernel_rfl

theorem new_ok (b o : Nat) (cap : Nat) (zs : List Int) (w : World) (h1 : 1 ≤ zs.length) (h8 : zs.length ≤ 8) (h : IntsAt w (some ⟨b, o, none⟩) zs) (hok : okSizes zs = true) :
  Calls Tryz.prog 10 #[.slice (some ⟨b, o, none⟩) zs.length cap] w fun e w' =>
   Nw w w' ∧ ∃ B szv, e = .returned (.tuple #[.pointer (some ⟨B, 0, none⟩), .int .i64 0]) ∧ Blk w' B (workCells szv (fullTo zs zs.length) (.slice none 0 0) rest0) 66 ∧
     Row w' szv 3 (zs.map (Value.int .i64)) ∧ w.heap.size ≤ B ∧ (∀ k, szv.ownBlock = some k → w.heap.size ≤ k) :=
 (new_any b o cap zs w h1 h8 h).mono fun e w' ⟨hf, hr⟩ => ⟨hf, hr.elim (fun x => x.2) (fun x => by rw [hok] at x; cases x.1)⟩
theorem new_no (b o : Nat) (cap : Nat) (zs : List Int) (w : World) (h1 : 1 ≤ zs.length) (h8 : zs.length ≤ 8) (h : IntsAt w (some ⟨b, o, none⟩) zs) (hok : okSizes zs = false) :
  Calls Tryz.prog 10 #[.slice (some ⟨b, o, none⟩) zs.length cap] w fun e w' => Nw w w' ∧ e = .returned (.tuple #[.pointer none, .int .i64 1]) :=
 (new_any b o cap zs w h1 h8 h).mono fun e w' ⟨hf, hr⟩ => ⟨hf, hr.elim (fun x => by rw [hok] at x; cases x.1) (fun x => x.2)⟩
theorem refNew_ok (b o : Nat) (cap : Nat) (zs : List Int) (w : World) (h1 : 1 ≤ zs.length) (h8 : zs.length ≤ 8) (h : IntsAt w (some ⟨b, o, none⟩) zs) (hok : okSizes zs = true) :
  Calls Tryz.prog 15 #[.slice (some ⟨b, o, none⟩) zs.length cap] w fun e w' =>
   Nw w w' ∧ ∃ B, e = .returned (.pointer (some ⟨B, 0, none⟩)) ∧ w.heap.size ≤ B ∧ RefAt w' w.heap.size B zs (allIn zs zs.length) false nilS nilS :=
 (refNew_any b o cap zs w h1 h8 h).mono fun e w' ⟨hf, hr⟩ => ⟨hf, hr.elim (fun x => x.2) (fun x => by rw [hok] at x; cases x.1)⟩
theorem refNew_no (b o : Nat) (cap : Nat) (zs : List Int) (w : World) (h1 : 1 ≤ zs.length) (h8 : zs.length ≤ 8) (h : IntsAt w (some ⟨b, o, none⟩) zs) (hok : okSizes zs = false) :
  Calls Tryz.prog 15 #[.slice (some ⟨b, o, none⟩) zs.length cap] w fun e w' => Nw w w' ∧ e = .returned (.pointer none) :=
 (refNew_any b o cap zs w h1 h8 h).mono fun e w' ⟨hf, hr⟩ => ⟨hf, hr.elim (fun x => by rw [hok] at x; cases x.1) (fun x => x.2)⟩

theorem RefAt.fr {S : Nat → Prop} {w w' : World} {lo B : Nat} {zs : List Int} {bss : List (List Bool)} {dead : Bool} {tv lv : Value} (h : RefAt w lo B zs bss dead tv lv) (f : Fr S w w')
  (hn : ∀ k, S k → k ≠ B ∧ ¬ lo ≤ k) : RefAt w' lo B zs bss dead tv lv := by
 obtain ⟨szv, inv, vs, hB, hsz, hin, hvs, h1, h2⟩ := h.ex
 refine ⟨szv, inv, vs, hB.fr f (fun e => (hn _ e).1 rfl), hsz.fr f (fun k hk e => (hn k e).2 (h1 k hk)), hin.fr f (fun k hk e => (hn k e).2 (h2 k hk)), ?_, h1, h2⟩
 exact ⟨hvs.len, fun i hi => (hvs.row i hi).fr f (fun k hk e => (hn k e).2 (hvs.lo i hi k hk)), hvs.ne, hvs.lo⟩

set_option maxHeartbeats 1600000 in
set_option maxRecDepth 1000000 in
theorem opens_len (B : Nat) (sv nv tv rv : Value) (ts : List Value) (ao : Option Addr) (cap : Nat) (zs : List Int) (w : World) (hz : zs.length * 8 ≤ 140737488351232)
  (hB : Blk w B #[sv, nv, tv, rv] 29) (htv : Row w tv 22 ts) (hts : (ts.length + 1) * 24 ≤ 140737488355328) (hl : IntsAt w ao zs) (hlen : zs.length < 1 ∨ 8 < zs.length) :
  Calls Tryz.prog 8 #[.pointer (some ⟨B, 0, none⟩), .slice ao zs.length cap] w fun e w' =>
   e = .returned (.bool true) ∧ ∃ tv', Fr (fun k => k = B ∨ tv.ownBlock = some k) w w' ∧ Blk w' B #[sv, nv, tv', rv] 29 ∧
    Row w' tv' 22 (ts ++ [.slice (some ⟨w.heap.size, 0, none⟩) (zs.length + 1) (zs.length + 1)]) ∧ Blk w' w.heap.size (turnedTo zs (zs.length + 1)) 3 ∧
    (∀ k, tv'.ownBlock = some k → tv.ownBlock = some k ∨ w.heap.size ≤ k) := by
 have hBlt := hB.lt
 go_enter Tryz.func8, Tryz.ntmps8
 go_wp2_with (first
  | (go_at_call 14; refine (lent_any _ _ zs _ (by omega) hl).mono ?_; rintro e w1 ⟨rfl, hf1, hg1⟩)
  | (go_at_call 10; refine (new_len _ _ _ _ (by omega) hlen).mono ?_; rintro e w2 ⟨rfl, rfl⟩)
  | (go_at_call 15; refine (refNew_len _ _ _ _ (by omega) hlen).mono ?_; rintro e w2 ⟨rfl, rfl⟩)
  | (go_at_call 16; refine (returned_any B w.heap.size ao cap zs sv nv tv rv ts _ (by omega) (hB.nw hf1) (htv.nw hf1) hts hg1 (hl.nw hf1)).mono ?_; rintro e w2 ⟨rfl, tv', hf2, hB2, htv2, hg2, hlo2⟩))
 go_ret
 refine ⟨rfl, tv', hf1.mono (fun i h => h.elim) |>.trans hf2 ?_, hB2, htv2, hg2, ?_⟩
 ·rintro i (h | h | h)
  ·exact .inl (.inl h)
  ·exact .inr (by omega)
  ·exact .inl (.inr h)
 ·intro k hk
  rcases hlo2 k hk with h | h
  ·exact .inl h
  ·exact .inr (Nat.le_trans hf1.size h)

def sideCells (X Y : Nat) : Array Value := #[.pointer (some ⟨X, 0, none⟩), .pointer (some ⟨Y, 0, none⟩), .bool false, .nilFunc, .nilFunc]

theorem opens_apart {w : World} {B g : Nat} {sv tv : Value} {ss ts : List Value} {c1 c2 : Array Value} (hsv : Row w sv 49 ss) (hB : Blk w B c1 29) (hg : Blk w g c2 3) (htv : Row w tv 22 ts)
  (k : Nat) (hk : sv.ownBlock = some k) (e : k = B ∨ k = g ∨ tv.ownBlock = some k) : False := by
 rcases e with e | e | e
 ·subst e; exact hsv.ne hB (by decide) hk
 ·subst e; exact hsv.ne hg (by decide) hk
 ·obtain ⟨cur, hb, _⟩ := htv.blk e
  exact hsv.ne hb (by decide) hk

end Go.Proofs.YtkjfpdfkcfgfkaaGreat

namespace Go.Proofs.YtkjfpdfkcfgfkaaGreat
open Go.RowKit

theorem turned_all {w : World} {g : Nat} {zs : List Int} (h : Blk w g (turnedTo zs (zs.length + 1)) 3) (hz : (zs.length + 1) * 8 ≤ 140737488355328) : AllAre w (.slice (some ⟨g, 0, none⟩) (zs.length + 1) (zs.length + 1)) (-7) := by
 refine ⟨some ⟨g, 0, none⟩, zs.length + 1, zs.length + 1, rfl, hz, IntsAt.of_blk h 0 _ (fun i hi => ?_)⟩
 rw [turnedTo_end, Nat.zero_add]
 simp only [List.length_replicate] at hi
 simp [hi]

def FirstOk : Prop := ∀ w : World, Calls Tryz.prog 7 #[] w fun e w' => e = .returned (.bool true) ∧ Nw w w'
end Go.Proofs.YtkjfpdfkcfgfkaaGreat

namespace Go.Proofs.YtkjfpdfkcfgfkaaGreat
open Go.RowKit

theorem append_old {P : Program} (w : World) (base : Nat) (t ty e : TypeId) (i : TypeInfo) (z : Value) (size bytes : Nat) (ht : P.underlying t = some (.slice e)) (hi : P.info? e = some i) (hz : i.zero = some z)
  (hsize : i.size = size) (hby : i.bytes = bytes) (hsz : 0 < size) (v : Value) (n : Nat) (xs : List Value) (hown : w.ownsRow base e size v n xs)
  (a : Addr) (m c : Nat) (news : List Value) (hl : news.length = m * size) (hnews : ∀ j u, news[j]? = some u → w.cell? (a.add j) = some u) (h1 : ∀ u ∈ news, u.oneCell' = true)
  (h63 : n + m ≤ maxLen) (hbytes : (n + m) * bytes ≤ 140737488355328) (v' : Value) (w' : World) (hrun : (Builtin.append_ #[t, t] ty #[v, .slice (some a) m c]).run P w = .ok v' w') : w'.ownsRow base e size v n xs := by
 subst hsize
 subst hby
 have hsmall : n + m ≤ 9223372036854775807 := by simp only [maxLen] at h63; omega
 rcases hown.2 with ⟨rfl, rfl⟩ | ⟨g, cap, cur, rfl, hbg, hg, hnc, hcm, hcs, htake⟩
 ·exact ⟨hown.1, .inl ⟨rfl, rfl⟩⟩
 ·by_cases hroom : n + m ≤ cap
  ·have hfit : n * i.size + news.length ≤ cur.size := by rw [hl, hcs, ← Nat.add_mul]; exact Nat.mul_le_mul_right _ hroom
   have hr := run_append_room (P := P) w t ty e i ht hi g n cap cur hg a m c news hl hnews h1 hroom hfit
   rw [hr] at hrun
   cases hrun
   refine ⟨hown.1, .inr ⟨g, cap, _, rfl, hbg, setRow_heap w g cur _ e _ hg, hnc, hcm, ?_, ?_⟩⟩
   ·simp only [List.size_toArray, List.length_append, List.length_take, List.length_drop, Array.length_toList]
    omega
   ·have hxl := hown.1
    rw [htake]
    simp only [List.append_assoc]
    rw [List.take_append_of_le_length (by omega), List.take_of_length_le (by omega)]
  ·have holds : ∀ j u, xs[j]? = some u → w.cell? ((⟨g, 0, none⟩ : Addr).add j) = some u := hown.cells (g := g) rfl
   have hr := run_append_grow (P := P) w t ty e i z ht hi hz ⟨g, 0, none⟩ n cap xs hown.1 holds a m c news hl hnews (by omega) (by omega) (growslice_fits (by omega) hbytes)
   rw [hr] at hrun
   cases hrun
   refine ⟨hown.1, .inr ⟨g, cap, cur, rfl, hbg, ?_, hnc, hcm, hcs, htake⟩⟩
   exact (heap_alloc_old w.drew _ (lt_of_block hg)).trans hg
theorem wpList_append_keep {P : Program} (w : World) {ops : Array Oper} {rest : List Oper} {o : Oper} {a : Act} {Q : Exit → Act → World → Prop} (hgd : o.guard = none) (s x : Operand) (t : TypeId)
  (ho : o.op = .call { callee := .builtin .append, args := #[s, x], argTypes := #[t, t] })
  (base : Nat) (e : TypeId) (i : TypeInfo) (z : Value) (size bytes : Nat) (ht : P.underlying t = some (.slice e)) (hi : P.info? e = some i) (hz : i.zero = some z)
  (hsize : i.size = size) (hby : i.bytes = bytes) (hzs : z.cells.size = size) (hsz : 0 < size)
  (v : Value) (n : Nat) (xs : List Value) (hs : a.eval s = v) (hown : w.ownsRow base e size v n xs)
  (ad : Addr) (m c : Nat) (news : List Value) (hx : a.eval x = .slice (some ad) m c) (hl : news.length = m * size) (hnews : ∀ j u, news[j]? = some u → w.cell? (ad.add j) = some u) (h1 : ∀ u ∈ news, u.oneCell' = true)
  (h63 : n + m ≤ maxLen) (hbytes : (n + m) * bytes ≤ 140737488355328) (hbase : base ≤ w.heap.size)
  (h : ∀ v' w', w'.ownsRow base e size v' (n + m) (xs ++ news) → w'.ownsRow base e size v n xs → w.grownBy w' v.ownBlock → (v'.ownBlock = v.ownBlock ∨ v'.ownBlock = some w.heap.size) → wpList P ops Q rest (a.put o.dst v') w') :
  wpList P ops Q (o :: rest) a w := by
 refine wpList_plain hgd fun K hK => ?_
 obtain ⟨v', w', hr, h2, h3, _, h5⟩ := run_append_own_at (P := P) w base t o.type e i z size bytes ht hi hz hsize hby hzs hsz v n xs hown ad m c news hl hnews h1 h63 hbytes hbase
 have h6 := append_old (P := P) w base t o.type e i z size bytes ht hi hz hsize hby hsz v n xs hown ad m c news hl hnews h1 h63 hbytes v' w' hr
 unfold Oper.wp execOp
 simp only [ho, resolve, invoke, builtin, Sem.run_bind, Sem.run_pure, Result.andThen_ok, List.map_toArray, List.map_cons, List.map_nil, hs, hx, hr]
 exact hK _ _ (h v' w' h2 h6 h3 h5)

theorem cell_one_set (w : World) (p : Addr) (y x : Value) (t : TypeId) : ∀ j u, [x][j]? = some u → ((w.setCell p y).alloc (.cells #[x] t)).cell? ((⟨w.heap.size, 0, none⟩ : Addr).add j) = some u := fun j u hj => by
 have := cell_one_new (w.setCell p y) x t j u hj
 rw [show (w.setCell p y).heap.size = w.heap.size by simp] at this
 exact this
theorem AllAre.fr {S : Nat → Prop} {w w' : World} {v : Value} {c : Int} (h : AllAre w v c) (f : Fr S w w') (hn : ∀ k, v.ownBlock = some k → ¬ S k) : AllAre w' v c := by
 obtain ⟨ao, n, cap, rfl, h1, h2⟩ := h
 exact ⟨ao, n, cap, rfl, h1, h2.fr f (fun b o e => hn b (by rw [e]; rfl))⟩
theorem AllNil.fr {S : Nat → Prop} {w w' : World} {v : Value} (h : AllNil w v) (f : Fr S w w') (hn : ∀ k, v.ownBlock = some k → ¬ S k) : AllNil w' v := by
 obtain ⟨ao, n, cap, rfl, h1, h2⟩ := h
 refine ⟨ao, n, cap, rfl, h1, fun i hi => ?_⟩
 obtain ⟨b, o, e, hb, hc⟩ := h2 i hi
 exact ⟨b, o, e, Nat.lt_of_lt_of_le hb f.size, (f.cell hb (hn b (by rw [e]; rfl))).trans hc⟩
structure LW where
 sv : Value
 nv : Value
 tv : Value
 rv : Value
 ss : List Value
 nums : List Value
 turned : List Value
 rows : List Value
def LW.own (B : Nat) (L : LW) (k : Nat) : Prop := k = B ∨ L.sv.ownBlock = some k ∨ L.nv.ownBlock = some k ∨ L.tv.ownBlock = some k ∨ L.rv.ownBlock = some k ∨ (∃ v ∈ L.nums, v.ownBlock = some k) ∨ (∃ v ∈ L.turned, v.ownBlock = some k) ∨ ∃ v ∈ L.rows, v.ownBlock = some k
structure LawAt (w : World) (lo B : Nat) (L : LW) : Prop where
 blk : Blk w B #[L.sv, L.nv, L.tv, L.rv] 29
 sides : Row w L.sv 49 L.ss
 keeps : Keeps w L.nv L.tv L.rv L.nums L.turned L.rows
 lo : ∀ k, L.own B k → lo ≤ k
 lt : ∀ k, L.own B k → k < w.heap.size
 ints : ∀ v, v ∈ L.nums ∨ v ∈ L.turned → ∀ k, v.ownBlock = some k → ∃ cur, Blk w k cur 3
 nils : ∀ v, v ∈ L.rows → ∀ k, v.ownBlock = some k → ∃ cur, Blk w k cur 22
 nt : ∀ k, L.nv.ownBlock = some k → L.tv.ownBlock ≠ some k
 nr : ∀ k, L.nv.ownBlock = some k → ∀ v, v ∈ L.rows → v.ownBlock ≠ some k
 tr : ∀ k, L.tv.ownBlock = some k → ∀ v, v ∈ L.rows → v.ownBlock ≠ some k
theorem Keeps.fr {S : Nat → Prop} {w w' : World} {nv tv rv : Value} {nums turned rows : List Value} (h : Keeps w nv tv rv nums turned rows) (f : Fr S w w') (h1 : ∀ k, nv.ownBlock = some k → ¬ S k) (h2 : ∀ k, tv.ownBlock = some k → ¬ S k) (h3 : ∀ k, rv.ownBlock = some k → ¬ S k)
  (h4 : ∀ v ∈ nums, ∀ k, v.ownBlock = some k → ¬ S k) (h5 : ∀ v ∈ turned, ∀ k, v.ownBlock = some k → ¬ S k) (h6 : ∀ v ∈ rows, ∀ k, v.ownBlock = some k → ¬ S k) : Keeps w' nv tv rv nums turned rows :=
 ⟨h.rn.fr f h1, h.rt.fr f h2, h.rr.fr f h3, h.ln, h.lt, h.lr, fun i hi => (h.an i hi).fr f (h4 _ (List.getElem_mem hi)), fun i hi => (h.at_ i hi).fr f (h5 _ (List.getElem_mem hi)), fun i hi => (h.ar i hi).fr f (h6 _ (List.getElem_mem hi))⟩
theorem LawAt.fr {S : Nat → Prop} {w w' : World} {lo B : Nat} {L : LW} (h : LawAt w lo B L) (f : Fr S w w') (hn : ∀ k, L.own B k → ¬ S k) : LawAt w' lo B L :=
 ⟨h.blk.fr f (hn B (.inl rfl)), h.sides.fr f (fun k hk => hn k (.inr (.inl hk))), h.keeps.fr f (fun k hk => hn k (.inr (.inr (.inl hk)))) (fun k hk => hn k (.inr (.inr (.inr (.inl hk))))) (fun k hk => hn k (.inr (.inr (.inr (.inr (.inl hk))))))
  (fun v hv k hk => hn k (.inr (.inr (.inr (.inr (.inr (.inl ⟨v, hv, hk⟩))))))) (fun v hv k hk => hn k (.inr (.inr (.inr (.inr (.inr (.inr (.inl ⟨v, hv, hk⟩)))))))) (fun v hv k hk => hn k (.inr (.inr (.inr (.inr (.inr (.inr (.inr ⟨v, hv, hk⟩)))))))), h.lo, fun k hk => Nat.lt_of_lt_of_le (h.lt k hk) f.size,
  fun v hv k hk => (by
   obtain ⟨cur, hb⟩ := h.ints v hv k hk
   exact ⟨cur, hb.fr f (hn k (hv.elim (fun hv => .inr (.inr (.inr (.inr (.inr (.inl ⟨v, hv, hk⟩)))))) (fun hv => .inr (.inr (.inr (.inr (.inr (.inr (.inl ⟨v, hv, hk⟩)))))))))⟩),
  fun v hv k hk => (by
   obtain ⟨cur, hb⟩ := h.nils v hv k hk
   exact ⟨cur, hb.fr f (hn k (.inr (.inr (.inr (.inr (.inr (.inr (.inr ⟨v, hv, hk⟩))))))))⟩), h.nt, h.nr, h.tr⟩
theorem LawAt.nw {w w' : World} {lo B : Nat} {L : LW} (h : LawAt w lo B L) (f : Nw w w') : LawAt w' lo B L := h.fr f (fun _ _ x => x)
structure KLe (w : World) (v : Value) (c : Int) (n g0 lo0 : Nat) : Prop where
 ex : ∃ g n' cap cur, v = .slice (some ⟨g, 0, none⟩) n' cap ∧ n' ≤ n ∧ Blk w g cur 3 ∧ (g = g0 ∨ lo0 ≤ g) ∧ ∀ i, i < n' → cur[i]? = some (.int .i64 c)
theorem KLe.fr {S : Nat → Prop} {w w' : World} {v : Value} {c : Int} {n g0 lo0 : Nat} (h : KLe w v c n g0 lo0) (f : Fr S w w') (hn : ∀ k cur, Blk w k cur 3 → ¬ S k) : KLe w' v c n g0 lo0 := by
 obtain ⟨g, n', cap, cur, rfl, h1, h2, h3, h4⟩ := h.ex
 exact ⟨g, n', cap, cur, rfl, h1, h2.fr f (hn g cur h2), h3, h4⟩
theorem KLe.all {w : World} {v : Value} {c : Int} {n g0 lo0 : Nat} (h : KLe w v c n g0 lo0) (hn : n * 8 ≤ 140737488355328) : AllAre w v c := by
 obtain ⟨g, n', cap, cur, rfl, h1, h2, h3, h4⟩ := h.ex
 refine ⟨_, n', cap, rfl, by omega, IntsAt.of_blk h2 0 _ (fun i hi => ?_)⟩
 rw [List.length_replicate] at hi
 rw [Nat.zero_add, h4 i hi]
 simp [hi]
theorem KLe.app {w w' : World} {v : Value} {c : Int} {n g0 lo0 g cap : Nat} (h : KLe w v c n g0 lo0) (f : Fr (fun k => k = g) w w') (hr : Row w' (.slice (some ⟨g, 0, none⟩) n cap) 3 (List.replicate n (.int .i64 c))) : KLe w' v c (n + 1) g0 lo0 := by
 obtain ⟨g', n', cap', cur, rfl, h1, h2, h3, h4⟩ := h.ex
 by_cases e : g' = g
 ·subst e
  obtain ⟨cur', hb, ht⟩ := hr.blk (k := g') rfl
  refine ⟨g', n', cap', cur', rfl, by omega, hb, h3, fun i hi => ?_⟩
  rw [List.length_replicate] at ht
  have h5 : (cur'.toList.take n)[i]? = (List.replicate n (Value.int .i64 c))[i]? := by rw [ht]
  rw [List.getElem?_take_of_lt (by omega)] at h5
  rw [← Array.getElem?_toList, h5, List.getElem?_replicate, if_pos (by omega)]
 ·exact ⟨g', n', cap', cur, rfl, by omega, h2.fr f e, h3, h4⟩

set_option maxHeartbeats 1600000 in
set_option maxRecDepth 1000000 in
theorem keep_any (lo B : Nat) (L : LW) (g m cap : Nat) (xs : List Value) (w : World) (h : LawAt w lo B L) (hxm : xs.length = m) (hl : Row w (.slice (some ⟨g, 0, none⟩) m cap) 3 xs) (hm : m ≤ 1000) (hn : L.nums.length ≤ 8388608) (h4 : L.nums.length % 4 = 0) (hg : ¬ L.own B g) (hglo : lo ≤ g) (hlw : lo ≤ w.heap.size) :
  Calls Tryz.prog 52 #[.pointer (some ⟨B, 0, none⟩), .slice (some ⟨g, 0, none⟩) m cap] w fun e w' => e = .returned (.tuple #[]) ∧ ∃ nv news, news.length = 4 ∧ LawAt w' lo B { L with nv := nv, nums := L.nums ++ news } ∧ Fr (fun k => k = B ∨ L.nv.ownBlock = some k ∨ k = g) w w' ∧ (∀ k, LW.own B { L with nv := nv, nums := L.nums ++ news } k → L.own B k ∨ k = g ∨ w.heap.size ≤ k) := by
 obtain ⟨i0, hi0, hz0, hz1, hz2⟩ := info_parts Tryz.infoInt
 obtain ⟨i1, hi1, hz1a, hz1b, hz1c⟩ := info_parts Tryz.infoInts
 obtain ⟨sv, nv, tv, rv, ss, nums, turned, rows⟩ := L
 dsimp only at hn h4 ⊢
 have hB0 : Blk w B #[sv, nv, tv, rv] 29 := h.blk
 obtain ⟨no, nc, hnf, _⟩ := h.keeps.rn.form
 dsimp only at hnf
 have c1 : w.cell? ⟨B, 1, none⟩ = some (.slice no nums.length nc) := by
  have := hB0.cell 1
  rw [hnf] at this
  exact this
 have hBl := hB0.lt
 obtain ⟨c, hc⟩ : ∃ c : Int, c = -1 - (nums.length : Int) := ⟨_, rfl⟩
 have hw64 : (-1 : Int) - (nums.length : Int) = c := hc.symm
 have Hc := hd hc
 have H := hd h
 have Hl := hd hl
 have Hnf := hd hnf
 have hc64 : -9223372036854775808 ≤ c ∧ c < 9223372036854775808 := by omega
 clear h hl hnf hc
 go_enter Tryz.func52, Tryz.ntmps52
 go_wp2_with fail
 go_loopw [5] (fun i wr => ∃ (k : Nat) (ys : List Value), k ≤ m ∧ i = .int .i64 (k : Int) ∧ ys.length = m ∧ Hid (Row wr (.slice (some ⟨g, 0, none⟩) m cap) 3 ys) ∧ Hid (∀ j, j < k → ys[j]? = some (.int .i64 c)) ∧ Hid (Fr (fun k => k = g) w wr)) (fun i _ => m - (intOf i).toNat)
 case atStart => exact ⟨0, xs, by omega, rfl, hxm, Hl, hd (fun j hj => absurd hj (Nat.not_lt_zero _)), Fr.refl _ _⟩
 case round =>
  obtain ⟨k, ys, hk, rfl, hyl, HY, HA, HF⟩ := hrel
  obtain ⟨curg, hbg, _⟩ := HY.out.blk (k := g) rfl
  by_cases hlt : k < m
  ·have hdk : (k : Int) < (m : Int) := by omega
   obtain ⟨gx, cx, hex, _, hcx, _⟩ := HY.out.cell k (by rw [hyl]; exact hlt)
   simp only [Value.slice.injEq, Option.some.injEq, Addr.mk.injEq, and_true] at hex
   obtain ⟨rfl, hexr⟩ := hex
   clear hexr
   have hgl := hbg.lt
   have hgf := hbg.free k
   have Hyl := hd hyl
   obtain ⟨old, hold⟩ : ∃ old, wr.cell? ⟨g, k, none⟩ = some old := ⟨_, hcx⟩
   clear hcx hyl
   go_wp2_with fail
   refine ⟨⟨k + 1, ys.set k (.int .i64 c), by omega, by simp, by rw [List.length_set]; exact Hyl.out, HY.out.put k _, hd (fun j hj => ?_), HF.out.setCell _ _ (.inl rfl)⟩, by simp [intOf]; omega⟩
   by_cases e : k = j
   ·subst e
    have := Hyl.out
    rw [List.getElem?_set_self (by omega)]
   ·rw [List.getElem?_set_ne e]
    exact HA.out j (by omega)
  ·obtain rfl : m = k := by omega
   have hdk : ¬ ((m : Int) < (m : Int)) := by omega
   have hys : ys = List.replicate m (.int .i64 c) := by
    refine List.ext_getElem? fun j => ?_
    by_cases hj : j < m
    ·rw [HA.out j hj]
     simp [hj]
    ·rw [List.getElem?_eq_none (by omega), List.getElem?_eq_none (by simp; omega)]
   subst hys
   have hgB : g ≠ B := fun e => by
    rw [e] at hbg
    exact absurd (hbg.inj (H.out.blk.fr HF.out (fun e2 => hg (.inl e2.symm)))).2 (by decide)
   have hBm : Blk wr B #[sv, nv, tv, rv] 29 := H.out.blk.fr HF.out (fun e => hgB e.symm)
   have hNm : Row wr nv 22 nums := H.out.keeps.rn.fr HF.out (fun k hk e => hg (.inr (.inr (.inl (by rw [← e]; exact hk)))))
   have HBm := hd hBm
   have HNm := hd hNm
   clear hyl HA hbg hBm hNm
   go_wp2_with fail
   go_loopw [1, 6, 7] (fun l i _ wq => ∃ (k g' cap' : Nat) (nv' : Value) (news : List Value), k ≤ 4 ∧ i = .int .i64 (k : Int) ∧ l = .slice (some ⟨g', 0, none⟩) (m + k) cap' ∧ news.length = k ∧ Hid (Row wq (.slice (some ⟨g', 0, none⟩) (m + k) cap') 3 (List.replicate (m + k) (.int .i64 c))) ∧ Hid (Blk wq B #[sv, nv', tv, rv] 29) ∧ Hid (Row wq nv' 22 (nums ++ news)) ∧ Hid (∀ v ∈ news, KLe wq v c (m + k) g w.heap.size) ∧ Hid (Fr (fun k => k = B ∨ nv.ownBlock = some k ∨ k = g) w wq) ∧ Hid (g' = g ∨ w.heap.size ≤ g') ∧ Hid (∀ k, nv'.ownBlock = some k → nv.ownBlock = some k ∨ w.heap.size ≤ k)) (fun _ i _ _ => 4 - (intOf i).toNat)
   case atStart => exact ⟨0, g, cap, nv, [], by omega, rfl, rfl, rfl, HY, HBm, by rw [List.append_nil]; exact HNm, hd (fun v hv => by cases hv), hd (HF.out.mono (fun i h => .inl (.inr (.inr h)))), hd (.inl rfl), hd (fun k hk => .inl hk)⟩
   case round =>
    rename World => wq
    clear HY HBm HNm
    obtain ⟨k, g', cap', nv', news, hk, rfl, rfl, hnl, HR, HB, HN, HK, HFq, Hg', Hnv⟩ := hrel
    obtain ⟨no', nc', hnf', _⟩ := HN.out.form
    have hnnl : (nums ++ news).length = nums.length + k := by rw [List.length_append, hnl]
    rw [hnnl] at hnf'
    subst hnf'
    have e1 : wq.cell? ⟨B, 1, none⟩ = some (.slice no' (nums.length + k) nc') := HB.out.cell 1
    have hBlq := HB.out.lt
    have Hnl := hd hnl
    have Hnnl := hd hnnl
    clear hnl hnnl
    by_cases hlt : k < 4
    ·have hdk : (k : Int) < 4 := by omega
     have hsl := Hnnl.out
     have HBn : Hid (∀ q cur, Blk wq q cur 3 → ¬ (Value.slice no' (nums.length + k) nc').ownBlock = some q) := fun q cur hb hq => HN.out.ne hb (by decide) hq
     have hnB : ¬ (Value.slice no' (nums.length + k) nc').ownBlock = some B := HN.out.ne HB.out (by decide)
     have hg'B : g' ≠ B := fun e => by
      obtain ⟨cur, hb, _⟩ := HR.out.blk (k := g') rfl
      rw [e] at hb
      exact absurd (hb.inj HB.out).2 (by decide)
     clear hsl
     go_wp2_with (at_builtin; first
      | (refine wpList_append_own_at _ rfl _ _ 26 rfl 0 22 i1 (.slice none 0 0) 1 24 Tryz.underlying26 hi1 hz1a hz1b hz1c rfl (by decide) _ _ _ rfl (HN.out.alloc _) ⟨wq.heap.size, 0, none⟩ 1 1 [.slice (some ⟨g', 0, none⟩) (m + k) cap'] rfl rfl (cell_one_new _ _ _) (by simp [Value.oneCell']) (by have := Hnnl.out; unfold maxLen; omega) (by have := Hnnl.out; omega) (Nat.zero_le _) ?_; intro v' w1 hown' hgrow _ hat; obtain ⟨g1, cap1, rfl, hr1, hf1, ha1, hlt1⟩ := app1 hown' hgrow hat; have hB1 := HB.out.fr hf1 hnB; have hfz1 := hB1.free 1; have hc11 : w1.cell? ⟨B, 1, none⟩ = some (.slice no' (nums.length + k) nc') := hB1.cell 1; have HB1 := hd hB1; have Hr1 := hd hr1; have Hf1 := hd hf1; have Ha1 := hd ha1; have HR2 := hd (fun x => (HR.out.fr hf1 (fun q hq => by obtain ⟨cur, hb, _⟩ := HR.out.blk hq; exact HBn.out q cur hb)).fr ((Fr.refl (fun k => k = B) w1).setCell ⟨B, 1, none⟩ x (.inl rfl)) (fun q hq e => by cases hq; exact hg'B e)); clear hown' hgrow hat hr1 hf1 ha1 hB1 hlt1)
      | (refine wpList_append_keep _ rfl _ _ 22 rfl 0 3 i0 (.int .i64 0) 1 8 Tryz.underlying22 hi0 hz0 hz1 hz2 rfl (by decide) (.slice (some ⟨g', 0, none⟩) (m + k) cap') _ _ rfl ((HR2.out _).alloc _) ⟨w1.heap.size, 0, none⟩ 1 1 [.int .i64 c] rfl rfl (cell_one_set _ _ _ _ _) (by simp [Value.oneCell']) (by simp; unfold maxLen; omega) (by simp; omega) (Nat.zero_le _) ?_; intro v' w3 hown' hold' hgrow hat; obtain ⟨g3, cap3, rfl, hr3, hf3, ha3, hlt3⟩ := app1 hown' hgrow hat))
     obtain ⟨nx, hnx⟩ : ∃ nx, nx = nums.length + news.length + 1 := ⟨_, rfl⟩
     have Hnx := hd hnx
     have hlen : (nums ++ news).length = nums.length + news.length := List.length_append
     obtain ⟨W2, hW2⟩ : ∃ W2, w1.setCell ⟨B, 1, none⟩ (.slice (some ⟨g1, 0, none⟩) (nums.length + news.length + 1) cap1) = W2 := ⟨_, rfl⟩
     have hfs : Fr (fun k => k = B) w1 W2 := by rw [← hW2]; exact (Fr.refl (fun k => k = B) w1).setCell _ _ (.inl rfl)
     have hf3' : Fr (fun q => q = g') W2 w3 := by
      rw [← hW2]
      exact hf3.mono (fun i hi => .inl (by cases hi; rfl))
     have hB2 : Blk W2 B #[sv, .slice (some ⟨g1, 0, none⟩) (nums.length + news.length + 1) cap1, tv, rv] 29 := by
      rw [← hW2]
      have := HB1.out.set 1 (.slice (some ⟨g1, 0, none⟩) (nums.length + news.length + 1) cap1)
      simpa using this
     have hr1' : Row w1 (.slice (some ⟨g1, 0, none⟩) (nums.length + news.length + 1) cap1) 22 (nums ++ (news ++ [.slice (some ⟨g', 0, none⟩) (m + k) cap'])) := by
      have := Hr1.out
      rw [hlen, List.append_assoc] at this
      exact this
     have hg1B : g1 ≠ B := fun e => by
      obtain ⟨cur, hb, _⟩ := hr1'.blk (k := g1) rfl
      rw [e] at hb
      exact absurd (hb.inj HB1.out).2 (by decide)
     have hr2' := hr1'.fr hfs (fun q hq e => by cases hq; exact hg1B e)
     obtain ⟨curG, hbG, _⟩ := (HR2.out (.slice (some ⟨g1, 0, none⟩) (nums.length + news.length + 1) cap1)).blk (k := g') rfl
     rw [hW2] at hbG
     have hg1g' : g1 ≠ g' := fun e => by
      obtain ⟨cur, hb, _⟩ := hr2'.blk (k := g1) rfl
      rw [e] at hb
      exact absurd (hb.inj hbG).2 (by decide)
     have hr3' := hr2'.fr hf3' (fun q hq e => by cases hq; exact hg1g' e)
     have hK2 : ∀ v ∈ news, KLe W2 v c (m + k) g w.heap.size := fun v hv => by
      refine ((HK.out v hv).fr Hf1.out (fun q cur hb hq => HBn.out q cur hb hq)).fr hfs (fun q cur hb e => ?_)
      rw [e] at hb
      exact absurd (hb.inj HB1.out).2 (by decide)
     have hsz := HFq.out.size
     have hold3 : Row w3 (.slice (some ⟨g', 0, none⟩) (m + k) cap') 3 (List.replicate (m + k) (.int .i64 c)) := hold'
     refine ⟨⟨k + 1, g3, cap3, .slice (some ⟨g1, 0, none⟩) (nums.length + news.length + 1) cap1, news ++ [.slice (some ⟨g', 0, none⟩) (m + k) cap'], by omega, by simp, by rw [Nat.add_assoc], by rw [List.length_append, Hnl.out]; rfl, ?_, hd (hB2.fr hf3' (fun e => hg'B e.symm)), hd hr3', hd (fun v hv => ?_), ?_, ?_, ?_⟩, by simp [intOf]; omega⟩
     ·have := hr3
      rw [List.length_replicate] at this
      rw [← Nat.add_assoc, List.replicate_succ']
      exact this
     ·rcases List.mem_append.1 hv with hv | hv
      ·exact (hK2 v hv).app hf3' hold3
      ·rw [List.mem_singleton.1 hv]
       obtain ⟨cur, hb, ht⟩ := hold3.blk (k := g') rfl
       refine ⟨g', m + k, cap', cur, rfl, by omega, hb, Hg'.out, fun i hi => ?_⟩
       rw [List.length_replicate] at ht
       have h5 : (cur.toList.take (m + k))[i]? = (List.replicate (m + k) (Value.int .i64 c))[i]? := by rw [ht]
       rw [List.getElem?_take_of_lt (by omega)] at h5
       rw [← Array.getElem?_toList, h5, List.getElem?_replicate, if_pos (by omega)]
     ·refine ((HFq.out.trans Hf1.out (fun i hi => ?_)).trans hfs (fun i hi => .inl (.inl hi))).trans hf3' (fun i hi => ?_)
      ·rcases Hnv.out i hi with h | h
       ·exact .inl (.inr (.inl h))
       ·exact .inr h
      ·rcases Hg'.out with h | h
       ·exact .inl (.inr (.inr (by rw [hi, h])))
       ·exact .inr (by rw [hi]; exact h)
     ·rcases ha3 with h | h
      ·cases h
       exact Hg'
      ·right
       have h1 := Hf1.out.size
       have h2 := hfs.size
       rw [hW2] at h
       omega
     ·intro q hq
      cases hq
      rcases Ha1.out with h | h
      ·exact Hnv.out _ h
      ·exact .inr (by show w.heap.size ≤ g1; omega)
    ·obtain rfl : k = 4 := by omega
     go_wp2_with fail
     go_end0
     have hlen : (nums ++ news).length = nums.length + 4 := Hnnl.out
     have hsz := HFq.out.size
     have hown : ∀ q, LW.own B ⟨sv, .slice no' (nums.length + 4) nc', tv, rv, ss, nums ++ news, turned, rows⟩ q → LW.own B ⟨sv, nv, tv, rv, ss, nums, turned, rows⟩ q ∨ q = g ∨ w.heap.size ≤ q := fun q hq => by
      rcases hq with rfl | hq | hq | hq | hq | ⟨v, hv, hq⟩ | hq | hq
      ·exact .inl (.inl rfl)
      ·exact .inl (.inr (.inl hq))
      ·rcases Hnv.out q hq with h | h
       ·exact .inl (.inr (.inr (.inl h)))
       ·exact .inr (.inr h)
      ·exact .inl (.inr (.inr (.inr (.inl hq))))
      ·exact .inl (.inr (.inr (.inr (.inr (.inl hq)))))
      ·rcases List.mem_append.1 hv with hv | hv
       ·exact .inl (.inr (.inr (.inr (.inr (.inr (.inl ⟨v, hv, hq⟩))))))
       ·obtain ⟨g5, n5, c5, cur5, rfl, _, _, h5, _⟩ := (HK.out v hv).ex
        cases hq
        exact .inr h5
      ·exact .inl (.inr (.inr (.inr (.inr (.inr (.inr (.inl hq)))))))
      ·exact .inl (.inr (.inr (.inr (.inr (.inr (.inr (.inr hq)))))))
     have hgl : g < wq.heap.size := Nat.lt_of_lt_of_le (Nat.lt_of_lt_of_le (Hl.out.lt (k := g) rfl) (Nat.le_refl _)) hsz
     have hno : ∀ q cur e, LW.own B ⟨sv, nv, tv, rv, ss, nums, turned, rows⟩ q → Blk w q cur e → e ≠ 29 → nv.ownBlock ≠ some q → ¬ (q = B ∨ nv.ownBlock = some q ∨ q = g) := fun q cur e hq hb he h2 h3 => by
      rcases h3 with h3 | h3 | h3
      ·rw [h3] at hb
       exact he (hb.inj H.out.blk).2
      ·exact h2 h3
      ·exact hg (by rw [← h3]; exact hq)
     have hnvT : ∀ q cur e, Blk w q cur e → e ≠ 22 → nv.ownBlock ≠ some q := fun q cur e hb he hq => by
      obtain ⟨cur', hb', _⟩ := H.out.keeps.rn.blk hq
      exact he (hb.inj hb').2
     have k1 : ∀ q, sv.ownBlock = some q → ¬ (q = B ∨ nv.ownBlock = some q ∨ q = g) := fun q hq => by
      obtain ⟨cur, hb, _⟩ := H.out.sides.blk hq
      exact hno q cur _ (.inr (.inl hq)) hb (by decide) (hnvT q cur _ hb (by decide))
     have k2 : ∀ q, tv.ownBlock = some q → ¬ (q = B ∨ nv.ownBlock = some q ∨ q = g) := fun q hq => by
      obtain ⟨cur, hb, _⟩ := H.out.keeps.rt.blk hq
      exact hno q cur _ (.inr (.inr (.inr (.inl hq)))) hb (by decide) (fun h => H.out.nt q h hq)
     have k3 : ∀ q, rv.ownBlock = some q → ¬ (q = B ∨ nv.ownBlock = some q ∨ q = g) := fun q hq => by
      obtain ⟨cur, hb, _⟩ := H.out.keeps.rr.blk hq
      exact hno q cur _ (.inr (.inr (.inr (.inr (.inl hq))))) hb (by decide) (hnvT q cur _ hb (by decide))
     have k4 : ∀ v ∈ nums, ∀ q, v.ownBlock = some q → ¬ (q = B ∨ nv.ownBlock = some q ∨ q = g) := fun v hv q hq => by
      obtain ⟨cur, hb⟩ := H.out.ints v (.inl hv) q hq
      exact hno q cur _ (.inr (.inr (.inr (.inr (.inr (.inl ⟨v, hv, hq⟩)))))) hb (by decide) (hnvT q cur _ hb (by decide))
     have k5 : ∀ v ∈ turned, ∀ q, v.ownBlock = some q → ¬ (q = B ∨ nv.ownBlock = some q ∨ q = g) := fun v hv q hq => by
      obtain ⟨cur, hb⟩ := H.out.ints v (.inr hv) q hq
      exact hno q cur _ (.inr (.inr (.inr (.inr (.inr (.inr (.inl ⟨v, hv, hq⟩))))))) hb (by decide) (hnvT q cur _ hb (by decide))
     have k6 : ∀ v ∈ rows, ∀ q, v.ownBlock = some q → ¬ (q = B ∨ nv.ownBlock = some q ∨ q = g) := fun v hv q hq => by
      obtain ⟨cur, hb⟩ := H.out.nils v hv q hq
      exact hno q cur _ (.inr (.inr (.inr (.inr (.inr (.inr (.inr ⟨v, hv, hq⟩))))))) hb (by decide) (fun h => H.out.nr q h v hv hq)
     have hk := H.out.keeps
     have hnewT : ∀ v ∈ news, ∀ q, v.ownBlock = some q → ∃ cur, Blk wq q cur 3 := fun v hv q hq => by
      obtain ⟨g5, n5, c5, cur5, rfl, _, hb5, _⟩ := (HK.out v hv).ex
      cases hq
      exact ⟨cur5, hb5⟩
     refine ⟨rfl, .slice no' (nums.length + 4) nc', news, Hnl.out, ⟨HB.out, H.out.sides.fr HFq.out k1, ⟨HN.out, hk.rt.fr HFq.out k2, hk.rr.fr HFq.out k3, by rw [hlen]; omega, hk.lt, hk.lr, fun i hi => ?_, fun i hi => (hk.at_ i hi).fr HFq.out (k5 _ (List.getElem_mem hi)), fun i hi => (hk.ar i hi).fr HFq.out (k6 _ (List.getElem_mem hi))⟩, ?_, ?_, ?_, ?_, ?_, ?_, H.out.tr⟩, HFq.out, hown⟩
     ·by_cases hin : i < nums.length
      ·show AllAre wq ((nums ++ news)[i]) _
       rw [List.getElem_append_left hin]
       exact (hk.an i hin).fr HFq.out (k4 _ (List.getElem_mem hin))
      ·show AllAre wq ((nums ++ news)[i]) _
       have hi' : i < nums.length + 4 := by rw [← hlen]; exact hi
       rw [List.getElem_append_right (by omega)]
       have e1 : i / 4 * 4 = nums.length := by omega
       rw [e1, ← Hc.out]
       exact (HK.out _ (List.getElem_mem _)).all (by omega)
     ·intro q hq
      rcases hown q hq with h | h | h
      ·exact H.out.lo q h
      ·omega
      ·omega
     ·intro q hq
      rcases hq with rfl | hq | hq | hq | hq | ⟨v, hv, hq⟩ | hq | hq
      ·exact HB.out.lt
      ·exact Nat.lt_of_lt_of_le (H.out.lt q (.inr (.inl hq))) hsz
      ·exact HN.out.lt hq
      ·exact Nat.lt_of_lt_of_le (H.out.lt q (.inr (.inr (.inr (.inl hq))))) hsz
      ·exact Nat.lt_of_lt_of_le (H.out.lt q (.inr (.inr (.inr (.inr (.inl hq)))))) hsz
      ·rcases List.mem_append.1 hv with hv | hv
       ·exact Nat.lt_of_lt_of_le (H.out.lt q (.inr (.inr (.inr (.inr (.inr (.inl ⟨v, hv, hq⟩))))))) hsz
       ·obtain ⟨cur, hb⟩ := hnewT v hv q hq
        exact hb.lt
      ·exact Nat.lt_of_lt_of_le (H.out.lt q (.inr (.inr (.inr (.inr (.inr (.inr (.inl hq)))))))) hsz
      ·exact Nat.lt_of_lt_of_le (H.out.lt q (.inr (.inr (.inr (.inr (.inr (.inr (.inr hq)))))))) hsz
     ·intro v hv q hq
      rcases hv with hv | hv
      ·rcases List.mem_append.1 hv with hv | hv
       ·obtain ⟨cur, hb⟩ := H.out.ints v (.inl hv) q hq
        exact ⟨cur, hb.fr HFq.out (k4 v hv q hq)⟩
       ·exact hnewT v hv q hq
      ·obtain ⟨cur, hb⟩ := H.out.ints v (.inr hv) q hq
       exact ⟨cur, hb.fr HFq.out (k5 v hv q hq)⟩
     ·intro v hv q hq
      obtain ⟨cur, hb⟩ := H.out.nils v hv q hq
      exact ⟨cur, hb.fr HFq.out (k6 v hv q hq)⟩
     ·intro q hq ht
      rcases Hnv.out q hq with h | h
      ·exact H.out.nt q h ht
      ·have := H.out.lt q (.inr (.inr (.inr (.inl ht))))
       omega
     ·intro q hq v hv ht
      rcases Hnv.out q hq with h | h
      ·exact H.out.nr q h v hv ht
      ·have := H.out.lt q (.inr (.inr (.inr (.inr (.inr (.inr (.inr ⟨v, hv, ht⟩)))))))
       omega
end Go.Proofs.YtkjfpdfkcfgfkaaGreat

namespace Go.Proofs.YtkjfpdfkcfgfkaaGreat
open Go.RowKit

structure Sd where
 D : Nat
 X : Nat
 Y : Nat
 zs : List Int
 s : WS
 R : RS
 bz : Bool
 sq : Value
 lt : Value
def Sd.cells (d : Sd) : Array Value := #[.pointer (some ⟨d.X, 0, none⟩), .pointer (some ⟨d.Y, 0, none⟩), .bool d.bz, d.sq, d.lt]
def Sd.own (d : Sd) (k : Nat) : Prop := k = d.D ∨ d.s.own d.X k ∨ d.R.own d.Y k
structure SideAt (W w : World) (lo : Nat) (d : Sd) : Prop where
 blk : Blk w d.D d.cells 52
 pair : Pair d.bz W w lo d.X d.Y d.zs d.s d.R
 dlo : lo ≤ d.D
structure LS (W w : World) (lo B : Nat) (L : LW) (d : Sd) : Prop where
 env : Env W w lo
 law : LawAt w lo B L
 side : SideAt W w lo d
 apart : ∀ k, L.own B k → ¬ d.own k
theorem SideAt.lt {W w : World} {lo : Nat} {d : Sd} (h : SideAt W w lo d) {k : Nat} (hk : d.own k) : k < w.heap.size := by
 rcases hk with rfl | hk | hk
 ·exact h.blk.lt
 ·exact h.pair.at_.mem.lt hk
 ·exact h.pair.ref.lt hk
theorem SideAt.lo {W w : World} {lo : Nat} {d : Sd} (h : SideAt W w lo d) {k : Nat} (hk : d.own k) : lo ≤ k := by
 rcases hk with rfl | hk | hk
 ·exact h.dlo
 ·exact h.pair.xlo k hk
 ·exact h.pair.ref.lo hk
def lawTys : List TypeId := [29, 49, 22, 26, 3, 52, 84, 83, 4, 41, 147, 66, 73, 131, 125, 1, 137, 35, 60]
theorem lawTys_own : ∀ e ∈ ownTys, e ∈ lawTys := by decide
theorem lawTys_ref : ∀ e ∈ refTys, e ∈ lawTys := by decide
theorem LawAt.ty {w : World} {lo B : Nat} {L : LW} (h : LawAt w lo B L) {k : Nat} (hk : L.own B k) : ∃ cur e, Blk w k cur e ∧ e ∈ lawTys := by
 rcases hk with rfl | hk | hk | hk | hk | ⟨v, hv, hk⟩ | ⟨v, hv, hk⟩ | ⟨v, hv, hk⟩
 ·exact ⟨_, _, h.blk, by decide⟩
 ·obtain ⟨cur, hb, _⟩ := h.sides.blk hk
  exact ⟨_, _, hb, by decide⟩
 ·obtain ⟨cur, hb, _⟩ := h.keeps.rn.blk hk
  exact ⟨_, _, hb, by decide⟩
 ·obtain ⟨cur, hb, _⟩ := h.keeps.rt.blk hk
  exact ⟨_, _, hb, by decide⟩
 ·obtain ⟨cur, hb, _⟩ := h.keeps.rr.blk hk
  exact ⟨_, _, hb, by decide⟩
 ·obtain ⟨cur, hb⟩ := h.ints v (.inl hv) k hk
  exact ⟨_, _, hb, by decide⟩
 ·obtain ⟨cur, hb⟩ := h.ints v (.inr hv) k hk
  exact ⟨_, _, hb, by decide⟩
 ·obtain ⟨cur, hb⟩ := h.nils v hv k hk
  exact ⟨_, _, hb, by decide⟩
theorem SideAt.ty {W w : World} {lo : Nat} {d : Sd} (h : SideAt W w lo d) {k : Nat} (hk : d.own k) : ∃ cur e, Blk w k cur e ∧ e ∈ lawTys := by
 rcases hk with rfl | hk | hk
 ·exact ⟨_, _, h.blk, by decide⟩
 ·obtain ⟨cur, e, hb, he⟩ := h.pair.at_.mem.ty hk
  exact ⟨cur, e, hb, lawTys_own e he⟩
 ·rcases h.pair.ref.ty hk with h1 | ⟨cur, e, hb, he⟩
  ·obtain ⟨cur, hb, _⟩ := h.pair.ref.rin.sz.blk h1
   exact ⟨_, _, hb, by decide⟩
  ·refine ⟨cur, e, hb, ?_⟩
   rcases he with he | he
   ·exact lawTys_ref e he
   ·rw [he]
    decide
theorem SideAt.fr {S : Nat → Prop} {W w w' : World} {lo : Nat} {d : Sd} (h : SideAt W w lo d) (f : Fr S w w') (hn : ∀ k, d.own k → ¬ S k) {es : List TypeId} (o : Only w S es) (he : 151 ∉ es) : SideAt W w' lo d :=
 ⟨h.blk.fr f (hn _ (.inl rfl)), ⟨h.pair.at_.fr f (fun k hk => hn k (.inr (.inl hk))) o he, h.pair.ref.fr f (fun k hk => hn k (.inr (.inr hk))), h.pair.busy, h.pair.now, h.pair.tabs, h.pair.levs, h.pair.szn, h.pair.xlo⟩, h.dlo⟩
theorem SideAt.nw {W w w' : World} {lo : Nat} {d : Sd} (h : SideAt W w lo d) (f : Nw w w') : SideAt W w' lo d := ⟨h.blk.nw f, h.pair.nw f, h.dlo⟩
theorem LS.nw {W w w' : World} {lo B : Nat} {L : LW} {d : Sd} (h : LS W w lo B L d) (f : Nw w w') : LS W w' lo B L d := ⟨h.env.step f, h.law.nw f, h.side.nw f, h.apart⟩
theorem LS.only {W w : World} {lo B : Nat} {L : LW} {d : Sd} (h : LS W w lo B L d) : Only w (fun k => L.own B k ∨ d.own k) lawTys := fun k cur e hk hb => by
 rcases hk with hk | hk
 ·obtain ⟨_, _, hb', he⟩ := h.law.ty hk
  rw [(hb.inj hb').2]
  exact he
 ·obtain ⟨_, _, hb', he⟩ := h.side.ty hk
  rw [(hb.inj hb').2]
  exact he
structure LStep (w w' : World) (B : Nat) (L L' : LW) (d d' : Sd) : Prop where
 fr : Fr (fun k => L.own B k ∨ d.own k) w w'
 growL : ∀ k, L'.own B k → L.own B k ∨ w.heap.size ≤ k
 growD : ∀ k, d'.own k → d.own k ∨ w.heap.size ≤ k
 ss : L'.ss = L.ss
 dd : d'.D = d.D
 zs : d'.zs = d.zs
 bz : d'.bz = d.bz
 sq : d'.sq = d.sq
 four : L'.nums.length % 4 = L.nums.length % 4
theorem LStep.nw {w w' : World} (h : Nw w w') (B : Nat) (L : LW) (d : Sd) : LStep w w' B L L d d := ⟨h.mono (fun _ x => x.elim), fun _ h => .inl h, fun _ h => .inl h, rfl, rfl, rfl, rfl, rfl, rfl⟩
theorem LStep.trans {a b c : World} {B : Nat} {L L' L'' : LW} {d d' d'' : Sd} (h : LStep a b B L L' d d') (k : LStep b c B L' L'' d' d'') : LStep a c B L L'' d d'' :=
 ⟨h.fr.trans k.fr (fun i hi => by
  rcases hi with hi | hi
  ·rcases h.growL i hi with h1 | h1
   ·exact .inl (.inl h1)
   ·exact .inr h1
  ·rcases h.growD i hi with h1 | h1
   ·exact .inl (.inr h1)
   ·exact .inr h1), fun i hi => by
  rcases k.growL i hi with h1 | h1
  ·exact h.growL i h1
  ·exact .inr (Nat.le_trans h.fr.size h1), fun i hi => by
  rcases k.growD i hi with h1 | h1
  ·exact h.growD i h1
  ·exact .inr (Nat.le_trans h.fr.size h1), k.ss.trans h.ss, k.dd.trans h.dd, k.zs.trans h.zs, k.bz.trans h.bz, k.sq.trans h.sq, k.four.trans h.four⟩
theorem LS.pair {W w w' : World} {lo B : Nat} {L : LW} {d : Sd} {s' : WS} {R' : RS} (h : LS W w lo B L d) (hp : Pair d.bz W w' lo d.X d.Y d.zs s' R') (k : PStep w w' d.X d.Y d.s s' d.R R') (hW : Nw W w') : LS W w' lo B L { d with s := s', R := R' } ∧ LStep w w' B L L d { d with s := s', R := R' } := by
 have hwr : ∀ q, (d.s.own d.X q ∨ d.R.wr d.Y q) → d.own q := fun q hq => by
  rcases hq with hq | hq
  ·exact .inr (.inl hq)
  ·exact .inr (.inr (.inl hq))
 have hown : ∀ q, Sd.own { d with s := s', R := R' } q → d.own q ∨ w.heap.size ≤ q := fun q hq => by
  rcases hq with hq | hq
  ·exact .inl (.inl hq)
  ·rcases k.grow q hq with h1 | h1 | h1
   ·exact .inl (.inr (.inl h1))
   ·exact .inl (.inr (.inr h1))
   ·exact .inr h1
 have hDn : ¬ (d.s.own d.X d.D ∨ d.R.wr d.Y d.D) := fun hq => by
  rcases hq with hq | hq
  ·obtain ⟨cur, e, hb, he⟩ := h.side.pair.at_.mem.ty hq
   rw [(hb.inj h.side.blk).2] at he
   exact absurd he (by decide)
  ·obtain ⟨cur, e, hb, he⟩ := h.side.pair.ref.wrTy hq
   rw [(hb.inj h.side.blk).2] at he
   exact absurd he (by decide)
 have hle := k.fr.size
 refine ⟨⟨⟨h.env.base, hW, Nat.le_trans h.env.le hle⟩, h.law.fr k.fr (fun q hq hs => h.apart q hq (hwr q hs)), ⟨h.side.blk.fr k.fr hDn, hp, h.side.dlo⟩, fun q hq ho => ?_⟩, ⟨k.fr.mono (fun q hq => .inl (.inr (hwr q hq))), fun q hq => .inl hq, hown, rfl, rfl, rfl, rfl, rfl, rfl⟩⟩
 rcases hown q ho with h1 | h1
 ·exact h.apart q hq h1
 ·have := h.law.lt q hq
  omega

set_option maxHeartbeats 800000 in
set_option maxRecDepth 1000000 in
theorem num_any (e : Int) (w : World) : Calls Tryz.prog 80 #[.int .i64 e] w fun x w' => x = .returned (.int .i64 e) ∧ w' = w := by
 go_enter Tryz.func80, Tryz.ntmps80
 go_wp2_with fail
 go_ret
 exact ⟨rfl, rfl⟩

set_option maxHeartbeats 800000 in
set_option maxRecDepth 1000000 in
theorem answer_any (v : Value) (e : Int) (w : World) : Calls Tryz.prog 57 #[v, .int .i64 e, .int .i64 e] w fun x w' => x = .returned (.bool true) ∧ w' = w := by
 have hee : (e == e) = true := by simp
 go_enter Tryz.func57, Tryz.ntmps57
 go_wp2_with (go_at_call 80; refine (num_any e _).mono ?_; rintro x w' ⟨rfl, rfl⟩)
 go_ret
 exact ⟨rfl, rfl⟩
structure OpV where
 kind : Int
 a : Int
 b : Int
 vo : Option Addr
 vcap : Nat
 ro : Option Addr
 rcap : Nat
 vars : List Int
 rows : List (List Int)
 nt : Bool
 way : Int
 which : Bool
 fv : Value
 mv : Value
def OpV.cells (o : OpV) : Array Value := #[.int .i64 o.kind, .int .i64 o.a, .int .i64 o.b, .slice o.vo o.vars.length o.vcap, .slice o.ro o.rows.length o.rcap, .bool o.nt, .int .i64 o.way, .bool o.which, o.fv, o.mv]

structure Chg (w : World) (b0 : Nat) (d : Sd) (o : OpV) : Prop where
 k1 : Blk w d.D d.cells 52
 k2 : Blk w b0 o.cells 54
theorem Chg.fr {S : Nat → Prop} {w w' : World} {b0 : Nat} {d : Sd} {o : OpV} (h : Chg w b0 d o) (f : Fr S w w') {es : List TypeId} (ho : Only w S es) (h1 : 52 ∉ es) (h2 : 54 ∉ es) : Chg w' b0 d o :=
 ⟨h.k1.fr f (fun hs => h1 (ho _ _ _ hs h.k1)), h.k2.fr f (fun hs => h2 (ho _ _ _ hs h.k2))⟩
theorem Chg.nw {w w' : World} {b0 : Nat} {d : Sd} {o : OpV} (h : Chg w b0 d o) (f : Nw w w') : Chg w' b0 d o := ⟨h.k1.nw f, h.k2.nw f⟩
theorem Pair.onlyP {bz : Bool} {W w : World} {lo X Y : Nat} {zs : List Int} {s : WS} {R : RS} (h : Pair bz W w lo X Y zs s R) : Only w (fun k => s.own X k ∨ R.wr Y k) (ownTys ++ refTys) := fun k cur e hk hb => by
 rcases hk with hk | hk
 ·exact List.mem_append_left _ (h.at_.mem.only k cur e hk hb)
 ·exact List.mem_append_right _ (h.ref.only k cur e hk hb)
noncomputable def chg6 : Array Oper := regOps Tryz.f38 6
noncomputable def chg7 : Array Oper := regOps Tryz.f38 7
noncomputable def chg10 : Array Oper := regOps Tryz.f38 10

set_option maxHeartbeats 1600000 in
set_option maxRecDepth 1000000 in
theorem changes_fix (W : World) (lo B : Nat) (L : LW) (d : Sd) (o : OpV) (w : World) (h : LS W w lo B L d) (hbz : d.bz = false) (hk : o.kind = 2) :
  Calls Tryz.prog 38 #[.pointer (some ⟨d.D, 0, none⟩), .agg o.cells] w fun e w' => e = .returned (.bool true) ∧ ∃ d', LS W w' lo B L d' ∧ LStep w w' B L L d d' := by
 obtain ⟨b0, hb0⟩ : ∃ b0, b0 = w.heap.size := ⟨_, rfl⟩
 obtain ⟨V, hV⟩ : ∃ V, V = w.alloc (.cells o.cells 54) := ⟨_, rfl⟩
 have hfV : Nw w V := by rw [hV]; exact (Fr.refl _ w).alloc _
 have hC : Chg V b0 d o := ⟨h.side.blk.nw hfV, by rw [hV, hb0]; exact Blk.new _ _ _⟩
 have hLV := h.nw hfV
 have HC := hd hC
 have HV := hd hLV
 have HfV := hd hfV
 obtain ⟨a, ha⟩ : ∃ a, o.a = a := ⟨_, rfl⟩
 obtain ⟨b, hb⟩ : ∃ b, o.b = b := ⟨_, rfl⟩
 have hcell : ∀ w', Chg w' b0 d o → w'.cell? ⟨b0, 0, none⟩ = some (.int .i64 2) ∧ w'.cell? ⟨b0, 1, none⟩ = some (.int .i64 a) ∧ w'.cell? ⟨b0, 2, none⟩ = some (.int .i64 b) ∧ w'.cell? ⟨d.D, 0, none⟩ = some (.pointer (some ⟨d.X, 0, none⟩)) ∧ w'.cell? ⟨d.D, 1, none⟩ = some (.pointer (some ⟨d.Y, 0, none⟩)) ∧ w'.cell? ⟨d.D, 2, none⟩ = some (.bool false) := fun w' hc => by
  refine ⟨(hc.k2.cell 0).trans ?_, (hc.k2.cell 1).trans ?_, (hc.k2.cell 2).trans ?_, hc.k1.cell 0, hc.k1.cell 1, (hc.k1.cell 2).trans ?_⟩
  ·rw [← hk]; rfl
  ·rw [← ha]; rfl
  ·rw [← hb]; rfl
  ·rw [← hbz]; rfl
 have Hcell := hd hcell
 obtain ⟨c0, c1, c2, _, _, _⟩ := hcell V hC
 have hbl := hC.k2.lt
 have hp0 := hLV.side.pair
 rw [hbz] at hp0
 have Hp0 := hd hp0
 have Hbz := hd hbz
 clear h hLV hC hcell hbz hk ha hb hfV hp0
 go_enter Tryz.func38, Tryz.ntmps38
 go_upto_region 1 with fail
 rw [← hV, ← hb0]
 clear hV hb0
 go_wp2_with fail
 have hK0 : Chg V.drew b0 d o := HC.out.nw ((Fr.refl _ V).drew)
 refine region_H chg6 10 (fun w'' => Chg w'' b0 d o) (by kernel_rfl) (by kernel_rfl) (by kernel_rfl) ?_
 refine take_at (i := 0) (d := some 16) (v := .pointer (some ⟨d.D, 0, none⟩)) (by kernel_rfl) (by kernel_rfl) (fun _ _ _ h => h) (fun w'' hS => by kernel_rfl) hK0 ?_
 refine take_at (i := 1) (d := some 17) (v := .pointer (some ⟨d.D, 0, none⟩)) (by kernel_rfl) (by kernel_rfl) (fun _ _ _ h => h) (fun w'' hS => by kernel_rfl) hK0 ?_
 refine take_at (i := 2) (d := some 18) (v := .pointer (some ⟨d.D, 0, none⟩)) (by kernel_rfl) (by kernel_rfl) (fun _ _ _ h => h) (fun w'' hS => by kernel_rfl) hK0 ?_
 refine take_at (i := 3) (d := some 19) (v := .pointer (some ⟨d.X, 0, none⟩)) (by kernel_rfl) (by kernel_rfl) (fun _ _ _ h => h) (fun w'' hS => exec_load 35 (.tmp 18) (by kernel_rfl) (by kernel_rfl) (by kernel_rfl) (Hcell.out w'' hS).2.2.2.1) hK0 ?_
 refine take_at (i := 4) (d := some 20) (v := .pointer (some ⟨b0, 1, none⟩)) (by kernel_rfl) (by kernel_rfl) (fun _ _ _ h => h) (fun w'' hS => by kernel_rfl) hK0 ?_
 refine take_at (i := 5) (d := some 21) (v := .int .i64 a) (by kernel_rfl) (by kernel_rfl) (fun _ _ _ h => h) (fun w'' hS => exec_load 3 (.tmp 20) (by kernel_rfl) (by kernel_rfl) (by kernel_rfl) (Hcell.out w'' hS).2.1) hK0 ?_
 refine take_at (i := 6) (d := some 22) (v := .pointer (some ⟨b0, 2, none⟩)) (by kernel_rfl) (by kernel_rfl) (fun _ _ _ h => h) (fun w'' hS => by kernel_rfl) hK0 ?_
 refine take_at (i := 7) (d := some 23) (v := .int .i64 b) (by kernel_rfl) (by kernel_rfl) (fun _ _ _ h => h) (fun w'' hS => exec_load 3 (.tmp 22) (by kernel_rfl) (by kernel_rfl) (by kernel_rfl) (Hcell.out w'' hS).2.2.1) hK0 ?_
 refine enter_at (i := 8) (d := some 24) (w' := V.drew) (f := 56) (args := #[.pointer (some ⟨d.X, 0, none⟩), .int .i64 a, .int .i64 b]) (by kernel_rfl) (by kernel_rfl) (by kernel_rfl) ?_
 have hdr : Nw V V.drew := (Fr.refl _ V).drew
 refine (fix_two a b (HV.out.env.step hdr) (Hp0.out.nw hdr)).mono ?_
 rintro e w1 ⟨r, rfl, hf1, hnext⟩
 have hK1 : Chg w1 b0 d o := hK0.fr hf1 (Hp0.out.nw hdr).at_.mem.only (by decide) (by decide)
 refine ⟨_, rfl, hK1, ?_⟩
 refine value_at (i := 9) (d := some 5) (v := .int .i64 r) (w' := w1) (by kernel_rfl) (by kernel_rfl) (by kernel_rfl) hK1 ?_
 refine wpAnyH_done (by kernel_rfl) ?_ _
 simp only [Act.put, List.setIfInBounds_toArray, List.set_cons_zero, List.set_cons_succ]
 have HK1 := hd hK1
 have Hnext := hd hnext
 obtain ⟨_, _, _, _, _, e2⟩ := Hcell.out w1 hK1
 have hDl := hK1.k1.lt
 clear hK1 hnext hf1 hK0 c0 c1 c2 hdr hbl
 go_wp2_with fail
 have hK2 : Chg w1.drew b0 d o := HK1.out.nw ((Fr.refl _ w1).drew)
 refine region_H chg10 16 (fun w'' => Chg w'' b0 d o) (by kernel_rfl) (by kernel_rfl) (by kernel_rfl) ?_
 refine take_at (i := 0) (d := some 40) (v := .pointer (some ⟨d.D, 0, none⟩)) (by kernel_rfl) (by kernel_rfl) (fun _ _ _ h => h) (fun w'' hS => by kernel_rfl) hK2 ?_
 refine take_at (i := 1) (d := some 41) (v := .int .i64 r) (by kernel_rfl) (by kernel_rfl) (fun _ _ _ h => h) (fun w'' hS => by kernel_rfl) hK2 ?_
 refine take_at (i := 2) (d := some 42) (v := .pointer (some ⟨d.D, 0, none⟩)) (by kernel_rfl) (by kernel_rfl) (fun _ _ _ h => h) (fun w'' hS => by kernel_rfl) hK2 ?_
 refine take_at (i := 3) (d := some 43) (v := .pointer (some ⟨d.D, 0, none⟩)) (by kernel_rfl) (by kernel_rfl) (fun _ _ _ h => h) (fun w'' hS => by kernel_rfl) hK2 ?_
 refine take_at (i := 4) (d := some 44) (v := .pointer (some ⟨d.D, 1, none⟩)) (by kernel_rfl) (by kernel_rfl) (fun _ _ _ h => h) (fun w'' hS => by kernel_rfl) hK2 ?_
 refine take_at (i := 5) (d := some 45) (v := .pointer (some ⟨d.Y, 0, none⟩)) (by kernel_rfl) (by kernel_rfl) (fun _ _ _ h => h) (fun w'' hS => exec_load 46 (.tmp 44) (by kernel_rfl) (by kernel_rfl) (by kernel_rfl) (Hcell.out w'' hS).2.2.2.2.1) hK2 ?_
 refine take_at (i := 6) (d := some 46) (v := .pointer (some ⟨b0, 1, none⟩)) (by kernel_rfl) (by kernel_rfl) (fun _ _ _ h => h) (fun w'' hS => by kernel_rfl) hK2 ?_
 refine take_at (i := 7) (d := some 47) (v := .int .i64 a) (by kernel_rfl) (by kernel_rfl) (fun _ _ _ h => h) (fun w'' hS => exec_load 3 (.tmp 46) (by kernel_rfl) (by kernel_rfl) (by kernel_rfl) (Hcell.out w'' hS).2.1) hK2 ?_
 refine take_at (i := 8) (d := some 48) (v := .pointer (some ⟨b0, 2, none⟩)) (by kernel_rfl) (by kernel_rfl) (fun _ _ _ h => h) (fun w'' hS => by kernel_rfl) hK2 ?_
 refine take_at (i := 9) (d := some 49) (v := .int .i64 b) (by kernel_rfl) (by kernel_rfl) (fun _ _ _ h => h) (fun w'' hS => exec_load 3 (.tmp 48) (by kernel_rfl) (by kernel_rfl) (by kernel_rfl) (Hcell.out w'' hS).2.2.1) hK2 ?_
 refine take_at (i := 10) (d := some 50) (v := .pointer (some ⟨b0, 0, none⟩)) (by kernel_rfl) (by kernel_rfl) (fun _ _ _ h => h) (fun w'' hS => by kernel_rfl) hK2 ?_
 refine take_at (i := 11) (d := some 51) (v := .int .i64 2) (by kernel_rfl) (by kernel_rfl) (fun _ _ _ h => h) (fun w'' hS => exec_load 3 (.tmp 50) (by kernel_rfl) (by kernel_rfl) (by kernel_rfl) (Hcell.out w'' hS).1) hK2 ?_
 refine take_at (i := 12) (d := some 52) (v := .bool true) (by kernel_rfl) (by kernel_rfl) (fun _ _ _ h => h) (fun w'' hS => by kernel_rfl) hK2 ?_
 refine enter_at (i := 13) (d := some 53) (w' := w1.drew) (f := 58) (args := #[.pointer (some ⟨d.Y, 0, none⟩), .int .i64 a, .int .i64 b, .bool true]) (by kernel_rfl) (by kernel_rfl) (by kernel_rfl) ?_
 refine (Hnext.out w1.drew ((Fr.refl _ w1).drew)).mono ?_
 rintro e w3 ⟨rfl, s', R', hp3, hs3, hW3⟩
 have hdr : Nw V V.drew := (Fr.refl _ V).drew
 have hK3 : Chg w3 b0 d o := (HC.out.nw hdr).fr hs3.fr (Hp0.out.nw hdr).onlyP (by decide) (by decide)
 refine ⟨_, rfl, hK3, ?_⟩
 refine enter_at (i := 14) (d := some 54) (w' := w3) (f := 57) (args := #[.pointer (some ⟨d.D, 0, none⟩), .int .i64 r, .int .i64 r]) (by kernel_rfl) (by kernel_rfl) (by kernel_rfl) ?_
 refine (answer_any _ r w3).mono ?_
 rintro e w4 ⟨rfl, rfl⟩
 refine ⟨_, rfl, hK3, ?_⟩
 refine value_at (i := 15) (d := some 4) (v := .bool true) (w' := w4) (by kernel_rfl) (by kernel_rfl) (by kernel_rfl) hK3 ?_
 refine wpAnyH_done (by kernel_rfl) ?_ _
 simp only [Act.put, List.setIfInBounds_toArray, List.set_cons_zero, List.set_cons_succ]
 rw [← Hbz.out] at hp3
 have Hfin := hd ((HV.out.nw hdr).pair hp3 hs3 hW3)
 have HfV2 := hd (HfV.out.trans hdr (fun _ x => x.elim))
 clear hK3 hK2 hp3 hs3 hW3 hdr Hnext HK1 e2 hDl
 go_wp2_with fail
 go_ret
 exact ⟨rfl, _, Hfin.out.1, (LStep.nw HfV2.out B L d).trans Hfin.out.2⟩

set_option maxHeartbeats 1600000 in
set_option maxRecDepth 1000000 in
theorem changes_remove (W : World) (lo B : Nat) (L : LW) (d : Sd) (o : OpV) (w : World) (h : LS W w lo B L d) (hbz : d.bz = false) (hk : o.kind = 3) :
  Calls Tryz.prog 38 #[.pointer (some ⟨d.D, 0, none⟩), .agg o.cells] w fun e w' => e = .returned (.bool true) ∧ ∃ d', LS W w' lo B L d' ∧ LStep w w' B L L d d' := by
 obtain ⟨b0, hb0⟩ : ∃ b0, b0 = w.heap.size := ⟨_, rfl⟩
 obtain ⟨V, hV⟩ : ∃ V, V = w.alloc (.cells o.cells 54) := ⟨_, rfl⟩
 have hfV : Nw w V := by rw [hV]; exact (Fr.refl _ w).alloc _
 have hC : Chg V b0 d o := ⟨h.side.blk.nw hfV, by rw [hV, hb0]; exact Blk.new _ _ _⟩
 have hLV := h.nw hfV
 have HC := hd hC
 have HV := hd hLV
 have HfV := hd hfV
 obtain ⟨a, ha⟩ : ∃ a, o.a = a := ⟨_, rfl⟩
 obtain ⟨b, hb⟩ : ∃ b, o.b = b := ⟨_, rfl⟩
 have hcell : ∀ w', Chg w' b0 d o → w'.cell? ⟨b0, 0, none⟩ = some (.int .i64 3) ∧ w'.cell? ⟨b0, 1, none⟩ = some (.int .i64 a) ∧ w'.cell? ⟨b0, 2, none⟩ = some (.int .i64 b) ∧ w'.cell? ⟨d.D, 0, none⟩ = some (.pointer (some ⟨d.X, 0, none⟩)) ∧ w'.cell? ⟨d.D, 1, none⟩ = some (.pointer (some ⟨d.Y, 0, none⟩)) ∧ w'.cell? ⟨d.D, 2, none⟩ = some (.bool false) := fun w' hc => by
  refine ⟨(hc.k2.cell 0).trans ?_, (hc.k2.cell 1).trans ?_, (hc.k2.cell 2).trans ?_, hc.k1.cell 0, hc.k1.cell 1, (hc.k1.cell 2).trans ?_⟩
  ·rw [← hk]; rfl
  ·rw [← ha]; rfl
  ·rw [← hb]; rfl
  ·rw [← hbz]; rfl
 have Hcell := hd hcell
 obtain ⟨c0, c1, c2, _, _, _⟩ := hcell V hC
 have hbl := hC.k2.lt
 have hp0 := hLV.side.pair
 rw [hbz] at hp0
 have Hp0 := hd hp0
 have Hbz := hd hbz
 clear h hLV hC hcell hbz hk ha hb hfV hp0
 go_enter Tryz.func38, Tryz.ntmps38
 go_upto_region 1 with fail
 rw [← hV, ← hb0]
 clear hV hb0
 go_wp2_with fail
 have hK0 : Chg V.drew b0 d o := HC.out.nw ((Fr.refl _ V).drew)
 refine region_H chg7 10 (fun w'' => Chg w'' b0 d o) (by kernel_rfl) (by kernel_rfl) (by kernel_rfl) ?_
 refine take_at (i := 0) (d := some 25) (v := .pointer (some ⟨d.D, 0, none⟩)) (by kernel_rfl) (by kernel_rfl) (fun _ _ _ h => h) (fun w'' hS => by kernel_rfl) hK0 ?_
 refine take_at (i := 1) (d := some 26) (v := .pointer (some ⟨d.D, 0, none⟩)) (by kernel_rfl) (by kernel_rfl) (fun _ _ _ h => h) (fun w'' hS => by kernel_rfl) hK0 ?_
 refine take_at (i := 2) (d := some 27) (v := .pointer (some ⟨d.D, 0, none⟩)) (by kernel_rfl) (by kernel_rfl) (fun _ _ _ h => h) (fun w'' hS => by kernel_rfl) hK0 ?_
 refine take_at (i := 3) (d := some 28) (v := .pointer (some ⟨d.X, 0, none⟩)) (by kernel_rfl) (by kernel_rfl) (fun _ _ _ h => h) (fun w'' hS => exec_load 35 (.tmp 27) (by kernel_rfl) (by kernel_rfl) (by kernel_rfl) (Hcell.out w'' hS).2.2.2.1) hK0 ?_
 refine take_at (i := 4) (d := some 29) (v := .pointer (some ⟨b0, 1, none⟩)) (by kernel_rfl) (by kernel_rfl) (fun _ _ _ h => h) (fun w'' hS => by kernel_rfl) hK0 ?_
 refine take_at (i := 5) (d := some 30) (v := .int .i64 a) (by kernel_rfl) (by kernel_rfl) (fun _ _ _ h => h) (fun w'' hS => exec_load 3 (.tmp 29) (by kernel_rfl) (by kernel_rfl) (by kernel_rfl) (Hcell.out w'' hS).2.1) hK0 ?_
 refine take_at (i := 6) (d := some 31) (v := .pointer (some ⟨b0, 2, none⟩)) (by kernel_rfl) (by kernel_rfl) (fun _ _ _ h => h) (fun w'' hS => by kernel_rfl) hK0 ?_
 refine take_at (i := 7) (d := some 32) (v := .int .i64 b) (by kernel_rfl) (by kernel_rfl) (fun _ _ _ h => h) (fun w'' hS => exec_load 3 (.tmp 31) (by kernel_rfl) (by kernel_rfl) (by kernel_rfl) (Hcell.out w'' hS).2.2.1) hK0 ?_
 refine enter_at (i := 8) (d := some 33) (w' := V.drew) (f := 13) (args := #[.pointer (some ⟨d.X, 0, none⟩), .int .i64 a, .int .i64 b]) (by kernel_rfl) (by kernel_rfl) (by kernel_rfl) ?_
 have hdr : Nw V V.drew := (Fr.refl _ V).drew
 refine (remove_two a b (HV.out.env.step hdr) (Hp0.out.nw hdr)).mono ?_
 rintro e w1 ⟨r, rfl, hf1, hnext⟩
 have hK1 : Chg w1 b0 d o := hK0.fr hf1 (Hp0.out.nw hdr).at_.mem.only (by decide) (by decide)
 refine ⟨_, rfl, hK1, ?_⟩
 refine value_at (i := 9) (d := some 5) (v := .int .i64 r) (w' := w1) (by kernel_rfl) (by kernel_rfl) (by kernel_rfl) hK1 ?_
 refine wpAnyH_done (by kernel_rfl) ?_ _
 simp only [Act.put, List.setIfInBounds_toArray, List.set_cons_zero, List.set_cons_succ]
 have HK1 := hd hK1
 have Hnext := hd hnext
 obtain ⟨_, _, _, _, _, e2⟩ := Hcell.out w1 hK1
 have hDl := hK1.k1.lt
 clear hK1 hnext hf1 hK0 c0 c1 c2 hdr hbl
 go_wp2_with fail
 have hK2 : Chg w1.drew b0 d o := HK1.out.nw ((Fr.refl _ w1).drew)
 refine region_H chg10 16 (fun w'' => Chg w'' b0 d o) (by kernel_rfl) (by kernel_rfl) (by kernel_rfl) ?_
 refine take_at (i := 0) (d := some 40) (v := .pointer (some ⟨d.D, 0, none⟩)) (by kernel_rfl) (by kernel_rfl) (fun _ _ _ h => h) (fun w'' hS => by kernel_rfl) hK2 ?_
 refine take_at (i := 1) (d := some 41) (v := .int .i64 r) (by kernel_rfl) (by kernel_rfl) (fun _ _ _ h => h) (fun w'' hS => by kernel_rfl) hK2 ?_
 refine take_at (i := 2) (d := some 42) (v := .pointer (some ⟨d.D, 0, none⟩)) (by kernel_rfl) (by kernel_rfl) (fun _ _ _ h => h) (fun w'' hS => by kernel_rfl) hK2 ?_
 refine take_at (i := 3) (d := some 43) (v := .pointer (some ⟨d.D, 0, none⟩)) (by kernel_rfl) (by kernel_rfl) (fun _ _ _ h => h) (fun w'' hS => by kernel_rfl) hK2 ?_
 refine take_at (i := 4) (d := some 44) (v := .pointer (some ⟨d.D, 1, none⟩)) (by kernel_rfl) (by kernel_rfl) (fun _ _ _ h => h) (fun w'' hS => by kernel_rfl) hK2 ?_
 refine take_at (i := 5) (d := some 45) (v := .pointer (some ⟨d.Y, 0, none⟩)) (by kernel_rfl) (by kernel_rfl) (fun _ _ _ h => h) (fun w'' hS => exec_load 46 (.tmp 44) (by kernel_rfl) (by kernel_rfl) (by kernel_rfl) (Hcell.out w'' hS).2.2.2.2.1) hK2 ?_
 refine take_at (i := 6) (d := some 46) (v := .pointer (some ⟨b0, 1, none⟩)) (by kernel_rfl) (by kernel_rfl) (fun _ _ _ h => h) (fun w'' hS => by kernel_rfl) hK2 ?_
 refine take_at (i := 7) (d := some 47) (v := .int .i64 a) (by kernel_rfl) (by kernel_rfl) (fun _ _ _ h => h) (fun w'' hS => exec_load 3 (.tmp 46) (by kernel_rfl) (by kernel_rfl) (by kernel_rfl) (Hcell.out w'' hS).2.1) hK2 ?_
 refine take_at (i := 8) (d := some 48) (v := .pointer (some ⟨b0, 2, none⟩)) (by kernel_rfl) (by kernel_rfl) (fun _ _ _ h => h) (fun w'' hS => by kernel_rfl) hK2 ?_
 refine take_at (i := 9) (d := some 49) (v := .int .i64 b) (by kernel_rfl) (by kernel_rfl) (fun _ _ _ h => h) (fun w'' hS => exec_load 3 (.tmp 48) (by kernel_rfl) (by kernel_rfl) (by kernel_rfl) (Hcell.out w'' hS).2.2.1) hK2 ?_
 refine take_at (i := 10) (d := some 50) (v := .pointer (some ⟨b0, 0, none⟩)) (by kernel_rfl) (by kernel_rfl) (fun _ _ _ h => h) (fun w'' hS => by kernel_rfl) hK2 ?_
 refine take_at (i := 11) (d := some 51) (v := .int .i64 3) (by kernel_rfl) (by kernel_rfl) (fun _ _ _ h => h) (fun w'' hS => exec_load 3 (.tmp 50) (by kernel_rfl) (by kernel_rfl) (by kernel_rfl) (Hcell.out w'' hS).1) hK2 ?_
 refine take_at (i := 12) (d := some 52) (v := .bool false) (by kernel_rfl) (by kernel_rfl) (fun _ _ _ h => h) (fun w'' hS => by kernel_rfl) hK2 ?_
 refine enter_at (i := 13) (d := some 53) (w' := w1.drew) (f := 58) (args := #[.pointer (some ⟨d.Y, 0, none⟩), .int .i64 a, .int .i64 b, .bool false]) (by kernel_rfl) (by kernel_rfl) (by kernel_rfl) ?_
 refine (Hnext.out w1.drew ((Fr.refl _ w1).drew)).mono ?_
 rintro e w3 ⟨rfl, s', R', hp3, hs3, hW3⟩
 have hdr : Nw V V.drew := (Fr.refl _ V).drew
 have hK3 : Chg w3 b0 d o := (HC.out.nw hdr).fr hs3.fr (Hp0.out.nw hdr).onlyP (by decide) (by decide)
 refine ⟨_, rfl, hK3, ?_⟩
 refine enter_at (i := 14) (d := some 54) (w' := w3) (f := 57) (args := #[.pointer (some ⟨d.D, 0, none⟩), .int .i64 r, .int .i64 r]) (by kernel_rfl) (by kernel_rfl) (by kernel_rfl) ?_
 refine (answer_any _ r w3).mono ?_
 rintro e w4 ⟨rfl, rfl⟩
 refine ⟨_, rfl, hK3, ?_⟩
 refine value_at (i := 15) (d := some 4) (v := .bool true) (w' := w4) (by kernel_rfl) (by kernel_rfl) (by kernel_rfl) hK3 ?_
 refine wpAnyH_done (by kernel_rfl) ?_ _
 simp only [Act.put, List.setIfInBounds_toArray, List.set_cons_zero, List.set_cons_succ]
 rw [← Hbz.out] at hp3
 have Hfin := hd ((HV.out.nw hdr).pair hp3 hs3 hW3)
 have HfV2 := hd (HfV.out.trans hdr (fun _ x => x.elim))
 clear hK3 hK2 hp3 hs3 hW3 hdr Hnext HK1 e2 hDl
 go_wp2_with fail
 go_ret
 exact ⟨rfl, _, Hfin.out.1, (LStep.nw HfV2.out B L d).trans Hfin.out.2⟩

end Go.Proofs.YtkjfpdfkcfgfkaaGreat

namespace Go.Proofs.YtkjfpdfkcfgfkaaGreat
open Go.RowKit

theorem eqFields_same {P : Program} (d : Nat) (xs : Array Value) (w : World) : ∀ (fs : List Field), (∀ f ∈ fs, ∃ v, (part f.type xs f.offset).run P w = .ok v w ∧ (Op.equalIn d f.type v v).run P w = .ok true w) → (Op.eqFields d xs xs fs).run P w = .ok true w
 | [], _ => by simp [Op.eqFields]
 | f :: fs, h => by
  have ih := eqFields_same d xs w fs (fun f hf => h f (List.mem_cons_of_mem _ hf))
  obtain ⟨v, h1, h2⟩ := h f (List.mem_cons_self ..)
  by_cases hn : f.name ≠ "_"
  ·simp [Op.eqFields, hn, h1, h2, ih, Result.andThen]
  ·simp only [Op.eqFields, if_neg hn]
   exact ih
def lookC (a b c : Int) (dd : Bool) (l f : Int) : Array Value := #[.int .i64 a, .int .i64 b, .int .i64 c, .bool dd, .int .i64 l, .int .i64 f]
theorem eql_look (a b c : Int) (dd : Bool) (l f : Int) (w : World) : (binOp .eql 110 (.agg (lookC a b c dd l f)) (.agg (lookC a b c dd l f))).run Tryz.prog w = .ok (.bool true) w := by
 have u1 : Tryz.prog.underlying 110 = some (.struct (Tryz.prog.fieldsOf 110)) := by kernel_rfl
 have hf : (Tryz.prog.fieldsOf 110).toList.map (fun f => (f.type, f.offset)) = [(3, 0), (3, 1), (3, 2), (4, 3), (3, 4), (3, 5)] := by kernel_rfl
 rw [run_eql_struct, run_equalIn_struct w 9999 _ _ _ u1 (by kernel_rfl), eqFields_same 9999 (lookC a b c dd l f) w _ (fun x hx => ?_), Result.andThen_ok]
 have hm : (x.type, x.offset) ∈ [((3 : TypeId), 0), (3, 1), (3, 2), (4, 3), (3, 4), (3, 5)] := by
  rw [← hf]
  exact List.mem_map_of_mem hx
 simp only [List.mem_cons, Prod.mk.injEq, List.not_mem_nil, or_false] at hm
 rcases hm with ⟨e1, e2⟩ | ⟨e1, e2⟩ | ⟨e1, e2⟩ | ⟨e1, e2⟩ | ⟨e1, e2⟩ | ⟨e1, e2⟩ <;> rw [e1, e2]
 ·exact ⟨.int .i64 a, by kernel_rfl, by rw [run_equalIn_int w 9998 _ _ .i64 a a Tryz.underlying3]; simp⟩
 ·exact ⟨.int .i64 b, by kernel_rfl, by rw [run_equalIn_int w 9998 _ _ .i64 b b Tryz.underlying3]; simp⟩
 ·exact ⟨.int .i64 c, by kernel_rfl, by rw [run_equalIn_int w 9998 _ _ .i64 c c Tryz.underlying3]; simp⟩
 ·exact ⟨.bool dd, by kernel_rfl, by rw [run_equalIn_bool' w 9998 _ dd dd Tryz.underlying4]; simp⟩
 ·exact ⟨.int .i64 l, by kernel_rfl, by rw [run_equalIn_int w 9998 _ _ .i64 l l Tryz.underlying3]; simp⟩
 ·exact ⟨.int .i64 f, by kernel_rfl, by rw [run_equalIn_int w 9998 _ _ .i64 f f Tryz.underlying3]; simp⟩
theorem exec_load6 {ev : Operand → Value} {o : Oper} {w : World} {b : Nat} {v0 v1 v2 v3 v4 v5 : Value} {e : TypeId} (t : TypeId) (x : Operand) (ho : o.op = .load t x) (hx : ev x = .pointer (some ⟨b, 0, none⟩)) (hag : (isAgg t).run Tryz.prog w = .ok true w) (hsz : (sizeOf t).run Tryz.prog w = .ok 6 w)
  (hb : Blk w b #[v0, v1, v2, v3, v4, v5] e) : (execOp ev o).run Tryz.prog w = .ok (.value (.agg #[v0, v1, v2, v3, v4, v5])) w := by
 have hl : ∀ (a : Addr) (v : Value), w.cell? a = some v → (Sem.load Mode.plain a Sem.pure).run Tryz.prog w = .ok v w := fun a v hc => by
  unfold Sem.run
  rw [hc]
  rfl
 have c0 : w.cell? ⟨b, 0, none⟩ = some v0 := hb.cell 0
 have c1 : w.cell? ⟨b, 1, none⟩ = some v1 := hb.cell 1
 have c2 : w.cell? ⟨b, 2, none⟩ = some v2 := hb.cell 2
 have c3 : w.cell? ⟨b, 3, none⟩ = some v3 := hb.cell 3
 have c4 : w.cell? ⟨b, 4, none⟩ = some v4 := hb.cell 4
 have c5 : w.cell? ⟨b, 5, none⟩ = some v5 := hb.cell 5
 unfold execOp
 simp [ho, hx, Instr.loadAt, Instr.sureAddr, loadVar, hag, hsz, Result.andThen, load, loadCells, loadCellsFrom, Addr.add, hl _ _ c0, hl _ _ c1, hl _ _ c2, hl _ _ c3, hl _ _ c4, hl _ _ c5]
theorem exec_eqlV {P : Program} {ev : Operand → Value} {o : Oper} {w : World} {r v u : Value} (x y : Operand) (t tb : TypeId) (ho : o.op = .binOp .eql t x y tb) (hx : ev x = v) (hy : ev y = u) (hg : (eqGuard .eql t x y v u).run P w = .ok () w) (h : (binOp .eql t v u).run P w = .ok r w) : (execOp ev o).run P w = .ok (.value r) w := by
 subst hx
 subst hy
 exact exec_eql x y t tb ho hg h
theorem guard_look (a b c : Int) (dd : Bool) (l f : Int) (x y : Operand) (w : World) : (eqGuard .eql 110 x y (.agg (lookC a b c dd l f)) (.agg (lookC a b c dd l f))).run Tryz.prog w = .ok () w := run_eqGuard_agg w _ _ _ _ _ _ (by kernel_rfl)
noncomputable def chg15 : Array Oper := regOps Tryz.f38 15

set_option maxHeartbeats 1600000 in
set_option maxRecDepth 1000000 in
theorem changes_look (W : World) (lo B : Nat) (L : LW) (d : Sd) (oc : Array Value) (w : World) (h : LS W w lo B L d) (hbz : d.bz = false) (hoc : oc[0]? = some (.int .i64 5)) :
  Calls Tryz.prog 38 #[.pointer (some ⟨d.D, 0, none⟩), .agg oc] w fun e w' => e = .returned (.bool true) ∧ Nw w w' := by
 obtain ⟨b0, hb0⟩ : ∃ b0, b0 = w.heap.size := ⟨_, rfl⟩
 obtain ⟨V, hV⟩ : ∃ V, V = w.alloc (.cells oc 54) := ⟨_, rfl⟩
 have hfV : Nw w V := by rw [hV]; exact (Fr.refl _ w).alloc _
 have hC : Blk V b0 oc 54 := by rw [hV, hb0]; exact Blk.new _ _ _
 have hLV := h.nw hfV
 have HV := hd hLV
 have HfV := hd hfV
 have c0 : V.cell? ⟨b0, 0, none⟩ = some (.int .i64 5) := (hC.cell 0).trans hoc
 have hbl := hC.lt
 have hp0 := hLV.side.pair
 rw [hbz] at hp0
 have Hp0 := hd hp0
 have Hcell := hd (show ∀ w', Blk w' d.D d.cells 52 → w'.cell? ⟨d.D, 0, none⟩ = some (.pointer (some ⟨d.X, 0, none⟩)) ∧ w'.cell? ⟨d.D, 1, none⟩ = some (.pointer (some ⟨d.Y, 0, none⟩)) ∧ w'.cell? ⟨d.D, 2, none⟩ = some (.bool false) from fun w' hc => ⟨hc.cell 0, hc.cell 1, (hc.cell 2).trans (by rw [← hbz]; rfl)⟩)
 obtain ⟨d0, _, _⟩ := Hcell.out V hLV.side.blk
 have hDl := hLV.side.blk.lt
 have Hcall := hd (look_two hp0)
 clear h hLV hC hbz hoc hfV hp0
 go_enter Tryz.func38, Tryz.ntmps38
 go_upto_region 1 with fail
 rw [← hV, ← hb0]
 clear hV hb0
 go_wp2_with (go_at_call 59; refine Hcall.out.mono ?_; rintro e w1 ⟨a, b, c, l, f, dd, rfl, hf1, hnext⟩; have Hf1 := hd hf1; have Hnext := hd hnext; obtain ⟨_, _, d2⟩ := Hcell.out w1 (HV.out.side.blk.nw hf1); have hDl1 := (HV.out.side.blk.nw hf1).lt; clear hf1 hnext)
 obtain ⟨wa, hwa⟩ : ∃ wa, w1.alloc (.cells #[.int .i64 (a : Int), .int .i64 (b : Int), .int .i64 (c : Int), .bool dd, .int .i64 (l : Int), .int .i64 (f : Int)] 110) = wa := ⟨_, rfl⟩
 have hfa : Nw w1 wa := by rw [← hwa]; exact (Fr.refl _ w1).alloc _
 have hba : Blk wa w1.heap.size #[.int .i64 (a : Int), .int .i64 (b : Int), .int .i64 (c : Int), .bool dd, .int .i64 (l : Int), .int .i64 (f : Int)] 110 := by rw [← hwa]; exact Blk.new _ _ _
 rw [hwa]
 have hVa : Nw V wa := Hf1.out.trans hfa (fun _ x => x.elim)
 have hbD := HV.out.side.blk.nw hVa
 have hK0 : Nw wa wa.drew := (Fr.refl _ wa).drew
 refine region_H chg15 8 (fun w'' => Nw wa w'') (by kernel_rfl) (by kernel_rfl) (by kernel_rfl) ?_
 refine take_at (i := 0) (d := some 69) (v := .agg (lookC a b c dd l f)) (by kernel_rfl) (by kernel_rfl) (fun _ _ _ h => h) (fun w'' hS => exec_load6 110 (.tmp 6) (by kernel_rfl) (by kernel_rfl) (by kernel_rfl) (by kernel_rfl) (hba.nw hS)) hK0 ?_
 refine take_at (i := 1) (d := some 70) (v := .pointer (some ⟨d.D, 0, none⟩)) (by kernel_rfl) (by kernel_rfl) (fun _ _ _ h => h) (fun w'' hS => by kernel_rfl) hK0 ?_
 refine take_at (i := 2) (d := some 71) (v := .pointer (some ⟨d.D, 0, none⟩)) (by kernel_rfl) (by kernel_rfl) (fun _ _ _ h => h) (fun w'' hS => by kernel_rfl) hK0 ?_
 refine take_at (i := 3) (d := some 72) (v := .pointer (some ⟨d.D, 1, none⟩)) (by kernel_rfl) (by kernel_rfl) (fun _ _ _ h => h) (fun w'' hS => by kernel_rfl) hK0 ?_
 refine take_at (i := 4) (d := some 73) (v := .pointer (some ⟨d.Y, 0, none⟩)) (by kernel_rfl) (by kernel_rfl) (fun _ _ _ h => h) (fun w'' hS => exec_load 46 (.tmp 72) (by kernel_rfl) (by kernel_rfl) (by kernel_rfl) (Hcell.out w'' (hbD.nw hS)).2.1) hK0 ?_
 refine enter_at (i := 5) (d := some 74) (w' := wa.drew) (f := 60) (args := #[.pointer (some ⟨d.Y, 0, none⟩)]) (by kernel_rfl) (by kernel_rfl) (by kernel_rfl) ?_
 refine (Hnext.out wa.drew (hVa.trans hK0 (fun _ x => x.elim))).mono ?_
 rintro e w3 ⟨rfl, hf3⟩
 have hK3 : Nw wa w3 := hK0.trans hf3 (fun _ x => x.elim)
 refine ⟨_, rfl, hK3, ?_⟩
 refine value_at (i := 6) (d := some 75) (v := .bool true) (w' := w3) (by kernel_rfl) (by kernel_rfl) (exec_eqlV (v := .agg (lookC a b c dd l f)) (u := .agg (lookC a b c dd l f)) (.tmp 69) (.tmp 74) 110 110 (by kernel_rfl) (by kernel_rfl) (by kernel_rfl) (guard_look a b c dd l f _ _ w3) (eql_look a b c dd l f w3)) hK3 ?_
 refine value_at (i := 7) (d := some 4) (v := .bool true) (w' := w3) (by kernel_rfl) (by kernel_rfl) (by kernel_rfl) hK3 ?_
 refine wpAnyH_done (by kernel_rfl) ?_ _
 simp only [Act.put, List.setIfInBounds_toArray, List.set_cons_zero, List.set_cons_succ]
 have Hfin := hd ((HfV.out.trans hVa (fun _ x => x.elim)).trans hK3 (fun _ x => x.elim))
 clear hK3 hK0 hf3 hVa hfa hba hwa hbD d2 hDl1 Hnext Hf1
 go_wp2_with fail
 go_ret
 exact ⟨rfl, Hfin.out⟩

set_option maxHeartbeats 1600000 in
set_option maxRecDepth 1000000 in
theorem changes_push (W : World) (lo B : Nat) (L : LW) (d : Sd) (o : OpV) (w : World) (h : LS W w lo B L d) (hbz : d.bz = false) (hk : o.kind = 6) :
  Calls Tryz.prog 38 #[.pointer (some ⟨d.D, 0, none⟩), .agg o.cells] w fun e w' => e = .returned (.bool true) ∧ ∃ d', LS W w' lo B L d' ∧ LStep w w' B L L d d' := by
 obtain ⟨b0, hb0⟩ : ∃ b0, b0 = w.heap.size := ⟨_, rfl⟩
 obtain ⟨V, hV⟩ : ∃ V, V = w.alloc (.cells o.cells 54) := ⟨_, rfl⟩
 have hfV : Nw w V := by rw [hV]; exact (Fr.refl _ w).alloc _
 have hC : Chg V b0 d o := ⟨h.side.blk.nw hfV, by rw [hV, hb0]; exact Blk.new _ _ _⟩
 have hLV := h.nw hfV
 have HC := hd hC
 have HV := hd hLV
 have HfV := hd hfV
 have hcell : ∀ w', Chg w' b0 d o → w'.cell? ⟨b0, 0, none⟩ = some (.int .i64 6) ∧ w'.cell? ⟨d.D, 0, none⟩ = some (.pointer (some ⟨d.X, 0, none⟩)) ∧ w'.cell? ⟨d.D, 1, none⟩ = some (.pointer (some ⟨d.Y, 0, none⟩)) ∧ w'.cell? ⟨d.D, 2, none⟩ = some (.bool false) := fun w' hc => by
  refine ⟨(hc.k2.cell 0).trans ?_, hc.k1.cell 0, hc.k1.cell 1, (hc.k1.cell 2).trans ?_⟩
  ·rw [← hk]; rfl
  ·rw [← hbz]; rfl
 have Hcell := hd hcell
 obtain ⟨c0, d0, d1, d2⟩ := hcell V hC
 have hbl := hC.k2.lt
 have hDl := hC.k1.lt
 have hp0 := hLV.side.pair
 rw [hbz] at hp0
 have Hp0 := hd hp0
 have Hbz := hd hbz
 clear h hLV hC hcell hbz hk hfV hp0
 go_enter Tryz.func38, Tryz.ntmps38
 go_upto_region 1 with fail
 rw [← hV, ← hb0]
 clear hV hb0
 go_wp2_with (first
  | (go_at_call 61; refine (push_two HV.out.env Hp0.out).mono ?_; rintro e w1 ⟨r, rfl, hf1, hnext⟩; have hK1 : Chg w1 b0 d o := HC.out.fr hf1 Hp0.out.at_.mem.only (by decide) (by decide); have Hnext := hd hnext; obtain ⟨x0, x1, x2, x3⟩ := Hcell.out w1 hK1; have xl := hK1.k1.lt; have xb := hK1.k2.lt; clear hf1 hnext hK1)
  | (go_at_call 63; refine (Hnext.out _ (Fr.refl _ _)).mono ?_; rintro e w3 ⟨rfl, s', R', hp3, hs3, hW3⟩; have hp3' : Pair d.bz W w3 lo d.X d.Y d.zs s' R' := (by rw [Hbz.out]; exact hp3); have Hfin := hd (HV.out.pair hp3' hs3 hW3); clear hp3 hs3 hW3 hp3')
  | (go_at_call 57; refine (answer_any _ r _).mono ?_; rintro e w4 ⟨rfl, rfl⟩))
 go_ret
 exact ⟨rfl, _, Hfin.out.1, (LStep.nw HfV.out B L d).trans Hfin.out.2⟩

set_option maxHeartbeats 1600000 in
set_option maxRecDepth 1000000 in
theorem changes_pop (W : World) (lo B : Nat) (L : LW) (d : Sd) (o : OpV) (w : World) (h : LS W w lo B L d) (hbz : d.bz = false) (hk : o.kind = 7) :
  Calls Tryz.prog 38 #[.pointer (some ⟨d.D, 0, none⟩), .agg o.cells] w fun e w' => e = .returned (.bool true) ∧ ∃ d', LS W w' lo B L d' ∧ LStep w w' B L L d d' := by
 obtain ⟨b0, hb0⟩ : ∃ b0, b0 = w.heap.size := ⟨_, rfl⟩
 obtain ⟨V, hV⟩ : ∃ V, V = w.alloc (.cells o.cells 54) := ⟨_, rfl⟩
 have hfV : Nw w V := by rw [hV]; exact (Fr.refl _ w).alloc _
 have hC : Chg V b0 d o := ⟨h.side.blk.nw hfV, by rw [hV, hb0]; exact Blk.new _ _ _⟩
 have hLV := h.nw hfV
 have HC := hd hC
 have HV := hd hLV
 have HfV := hd hfV
 have hcell : ∀ w', Chg w' b0 d o → w'.cell? ⟨b0, 0, none⟩ = some (.int .i64 7) ∧ w'.cell? ⟨d.D, 0, none⟩ = some (.pointer (some ⟨d.X, 0, none⟩)) ∧ w'.cell? ⟨d.D, 1, none⟩ = some (.pointer (some ⟨d.Y, 0, none⟩)) ∧ w'.cell? ⟨d.D, 2, none⟩ = some (.bool false) := fun w' hc => by
  refine ⟨(hc.k2.cell 0).trans ?_, hc.k1.cell 0, hc.k1.cell 1, (hc.k1.cell 2).trans ?_⟩
  ·rw [← hk]; rfl
  ·rw [← hbz]; rfl
 have Hcell := hd hcell
 obtain ⟨c0, d0, d1, d2⟩ := hcell V hC
 have hbl := hC.k2.lt
 have hDl := hC.k1.lt
 have hp0 := hLV.side.pair
 rw [hbz] at hp0
 have Hp0 := hd hp0
 have Hbz := hd hbz
 clear h hLV hC hcell hbz hk hfV hp0
 go_enter Tryz.func38, Tryz.ntmps38
 go_upto_region 1 with fail
 rw [← hV, ← hb0]
 clear hV hb0
 go_wp2_with (first
  | (go_at_call 62; refine (pop_two HV.out.env Hp0.out).mono ?_; rintro e w1 ⟨r, rfl, hf1, hnext⟩; have hK1 : Chg w1 b0 d o := HC.out.fr hf1 Hp0.out.at_.mem.only (by decide) (by decide); have Hnext := hd hnext; obtain ⟨x0, x1, x2, x3⟩ := Hcell.out w1 hK1; have xl := hK1.k1.lt; have xb := hK1.k2.lt; clear hf1 hnext hK1)
  | (go_at_call 64; refine (Hnext.out _ (Fr.refl _ _)).mono ?_; rintro e w3 ⟨rfl, s', R', hp3, hs3, hW3⟩; have hp3' : Pair d.bz W w3 lo d.X d.Y d.zs s' R' := (by rw [Hbz.out]; exact hp3); have Hfin := hd (HV.out.pair hp3' hs3 hW3); clear hp3 hs3 hW3 hp3')
  | (go_at_call 57; refine (answer_any _ r _).mono ?_; rintro e w4 ⟨rfl, rfl⟩))
 go_ret
 exact ⟨rfl, _, Hfin.out.1, (LStep.nw HfV.out B L d).trans Hfin.out.2⟩

end Go.Proofs.YtkjfpdfkcfgfkaaGreat

namespace Go.Proofs.YtkjfpdfkcfgfkaaGreat
open Go.RowKit

theorem row_blk {w : World} {g : Nat} {xs : List Value} {e : TypeId} (h : Blk w g xs.toArray e) (hm : xs.length ≤ maxLen) : Row w (.slice (some ⟨g, 0, none⟩) xs.length xs.length) e xs := ⟨by simp, .inr ⟨g, xs.length, xs.toArray, rfl, Nat.zero_le _, h, Nat.le_refl _, hm, by simp, by simp⟩⟩
theorem dom_two {W w : World} {lo X Y : Nat} {zs : List Int} {s : WS} {R : RS} (v : Nat) (h : Pair false W w lo X Y zs s R) (hv : v < zs.length) :
  Calls Tryz.prog 12 #[.pointer (some ⟨X, 0, none⟩), .int .i64 (v : Int)] w fun e w1 => ∃ xs : List Int, e = .returned (.tuple #[.slice (some ⟨w.heap.size, 0, none⟩) xs.length xs.length, .int .i64 0]) ∧ Nw w w1 ∧ Blk w1 w.heap.size (xs.map (Value.int .i64)).toArray 3 ∧ xs.length ≤ 8 ∧
   ∀ w2, Nw w1 w2 → Calls Tryz.prog 54 #[.pointer (some ⟨Y, 0, none⟩), .int .i64 (v : Int)] w2 fun e w3 => ∃ bo bc, e = .returned (.slice bo xs.length bc) ∧ IntsAt w3 bo xs ∧ Nw w2 w3 := by
 have hz := okSizes_len h.at_.mem.zok
 have h64 := h.at_.good.dm.lt v
 refine (domain_ok X s.szv s.d _ s.l zs v w h.at_.mem.blk h.at_.mem.sz hz.2 hv h.at_.good.dm.len (by omega) h.busy).mono ?_
 rintro e w1 ⟨rfl, hf, hb⟩
 have hvals := LinkD.vals h.now h.ref.rin.in8 h.ref.rin.b6 h.ref.rin.len v
 rw [if_pos hv] at hvals
 have hil : ∀ l : List Nat, ints l = (l.map (fun n : Nat => (n : Int))).map (Value.int .i64) := fun l => by simp [ints]
 have h8 : (vals (s.d.getD v 0)).length ≤ 8 := Nat.le_trans (List.length_filter_le _ _) (by simp)
 obtain ⟨xs, hxs⟩ : ∃ xs : List Int, (vals (s.d.getD v 0)).map (fun n : Nat => (n : Int)) = xs := ⟨_, rfl⟩
 have hxl : (vals (s.d.getD v 0)).length = xs.length := by rw [← hxs, List.length_map]
 rw [hil, hxs] at hb
 rw [hxl] at h8 ⊢
 refine ⟨xs, rfl, hf, hb, h8, fun w2 f2 => ?_⟩
 refine (refDomain_any lo Y zs R.szv R.now.inv R.now.vs R.now.bss R.now.dead R.tv R.lv v w2 (h.ref.nw (hf.trans f2 (fun _ x => x.elim))).rin (by rw [h.ref.rin.len]; exact hv)).mono ?_
 rintro e w3 ⟨v3, rfl, hM⟩
 have e1 : ints (if R.now.dead then [] else trueTo (R.now.bss.getD v []) (R.now.bss.getD v []).length) = xs.map (Value.int .i64) := by
  rw [← hxs, hvals, hil]
  rfl
 rw [e1] at hM
 obtain ⟨bo, bc, hf3, _⟩ := hM.row.form
 rw [List.length_map] at hf3
 refine ⟨bo, bc, by rw [hf3], ?_, hM.nw⟩
 have hr := hM.row
 rw [hf3] at hr
 exact hr.ints'

set_option maxHeartbeats 1600000 in
set_option maxRecDepth 1000000 in
theorem domains_arg (W : World) (lo B : Nat) (L : LW) (d : Sd) (v : Int) (w : World) (h : LS W w lo B L d) (hbz : d.bz = false) (hv : ¬ (0 ≤ v ∧ v < d.zs.length)) :
  Calls Tryz.prog 36 #[.pointer (some ⟨B, 0, none⟩), .pointer (some ⟨d.D, 0, none⟩), .int .i64 v] w fun e w' => e = .returned (.bool true) ∧ w' = w := by
 have hp := h.side.pair
 have hz := okSizes_len hp.at_.mem.zok
 have Hcall := hd (domain_no d.X d.s.szv d.s.d _ d.s.l d.zs v w hp.at_.mem.blk hp.at_.mem.sz hz.2 hv hp.at_.good.dm.len (by rw [hp.busy]; exact hbz))
 have c0 : w.cell? ⟨d.D, 0, none⟩ = some (.pointer (some ⟨d.X, 0, none⟩)) := h.side.blk.cell 0
 have c1 : w.cell? ⟨d.D, 1, none⟩ = some (.pointer (some ⟨d.Y, 0, none⟩)) := h.side.blk.cell 1
 have c2 : w.cell? ⟨d.D, 2, none⟩ = some (.bool false) := (h.side.blk.cell 2).trans (by rw [← hbz]; rfl)
 obtain ⟨szo, szc, hszf, _⟩ := hp.ref.rin.sz.form
 rw [List.length_map] at hszf
 have c3 : w.cell? ⟨d.Y, 0, none⟩ = some (.slice szo d.zs.length szc) := by
  have := hp.ref.rin.blk.cell 0
  rw [hszf] at this
  exact this
 have hDl := h.side.blk.lt
 have hYl := hp.ref.rin.blk.lt
 have hz8 := hz.2
 clear h hp hz hszf
 by_cases hv0 : v < 0
 ·go_enter Tryz.func36, Tryz.ntmps36
  go_wp2_with (go_at_call 12; refine Hcall.out.mono ?_; rintro e w1 ⟨rfl, rfl⟩)
  go_ret
  exact ⟨rfl, rfl⟩
 ·have hge : (d.zs.length : Int) ≤ v := by omega
  go_enter Tryz.func36, Tryz.ntmps36
  go_wp2_with (go_at_call 12; refine Hcall.out.mono ?_; rintro e w1 ⟨rfl, rfl⟩)
  go_ret
  exact ⟨rfl, rfl⟩

theorem LS.kept {W w w' : World} {lo B : Nat} {L : LW} {d : Sd} {g : Nat} {nv : Value} {news : List Value} {cur : Array Value} (h : LS W w lo B L d) (hg : Blk w g cur 3) (hgn : ¬ d.own g) (hW : W.heap.size ≤ g) (hL : LawAt w' lo B { L with nv := nv, nums := L.nums ++ news }) (hf : Fr (fun k => k = B ∨ L.nv.ownBlock = some k ∨ k = g) w w') (ho : ∀ k, LW.own B { L with nv := nv, nums := L.nums ++ news } k → L.own B k ∨ k = g ∨ w.heap.size ≤ k) :
  LS W w' lo B { L with nv := nv, nums := L.nums ++ news } d := by
 have hon : Only w (fun k => k = B ∨ L.nv.ownBlock = some k ∨ k = g) [29, 22, 3] := fun k cur' e hk hb => by
  rcases hk with rfl | hk | rfl
  ·rw [(hb.inj h.law.blk).2]
   decide
  ·obtain ⟨c2, hb2, _⟩ := h.law.keeps.rn.blk hk
   rw [(hb.inj hb2).2]
   decide
  ·rw [(hb.inj hg).2]
   decide
 have hBo : lo ≤ B := h.law.lo B (.inl rfl)
 refine ⟨⟨h.env.base, h.env.nw.trans hf (fun i hi => .inr ?_), Nat.le_trans h.env.le hf.size⟩, hL, h.side.fr hf (fun k hk hs => ?_) hon (by decide), fun k hk hd => ?_⟩
 ·have hb := h.env.base
  rcases hi with hi | hi | hi
  ·omega
  ·have := h.law.lo i (.inr (.inr (.inl hi)))
   omega
  ·omega
 ·rcases hs with hs | hs | hs
  ·exact h.apart k (.inl hs) hk
  ·exact h.apart k (.inr (.inr (.inl hs))) hk
  ·rw [hs] at hk
   exact hgn hk
 ·rcases ho k hk with h1 | h1 | h1
  ·exact h.apart k h1 hd
  ·rw [h1] at hd
   exact hgn hd
  ·have := h.side.lt hd
   omega

set_option maxHeartbeats 1600000 in
set_option maxRecDepth 1000000 in
theorem domains_ok (W : World) (lo B : Nat) (L : LW) (d : Sd) (v : Nat) (w : World) (h : LS W w lo B L d) (hbz : d.bz = false) (hv : v < d.zs.length) (hn : L.nums.length ≤ 8388608) (h4 : L.nums.length % 4 = 0) :
  Calls Tryz.prog 36 #[.pointer (some ⟨B, 0, none⟩), .pointer (some ⟨d.D, 0, none⟩), .int .i64 (v : Int)] w fun e w' => e = .returned (.bool true) ∧ ∃ L', LS W w' lo B L' d ∧ LStep w w' B L L' d d ∧ L'.nums.length = L.nums.length + 4 ∧ L'.turned = L.turned ∧ L'.rows = L.rows := by
 have hp := h.side.pair
 rw [hbz] at hp
 have hz := okSizes_len hp.at_.mem.zok
 have Hcall := hd (dom_two v hp hv)
 have hcell : ∀ w', Nw w w' → w'.cell? ⟨d.D, 0, none⟩ = some (.pointer (some ⟨d.X, 0, none⟩)) ∧ w'.cell? ⟨d.D, 1, none⟩ = some (.pointer (some ⟨d.Y, 0, none⟩)) ∧ w'.cell? ⟨d.D, 2, none⟩ = some (.bool false) := fun w' f => ⟨(h.side.blk.nw f).cell 0, (h.side.blk.nw f).cell 1, ((h.side.blk.nw f).cell 2).trans (by rw [← hbz]; rfl)⟩
 have Hcell := hd hcell
 obtain ⟨c0, c1, c2⟩ := hcell w (Fr.refl _ _)
 obtain ⟨szo, szc, hszf, _⟩ := hp.ref.rin.sz.form
 rw [List.length_map] at hszf
 have Hsz := hd (show ∀ w', Nw w w' → w'.cell? ⟨d.Y, 0, none⟩ = some (.slice szo d.zs.length szc) from fun w' f => by
  have := (hp.ref.nw f).rin.blk.cell 0
  rw [hszf] at this
  exact this)
 have hDl := h.side.blk.lt
 have HY := hd hp.ref.rin.blk
 have hv0 : ¬ ((v : Int) < 0) := by omega
 have hvn : ¬ ((d.zs.length : Int) ≤ (v : Int)) := by omega
 have hz8 := hz.2
 have H := hd h
 clear h hp hz hszf hbz hcell
 go_enter Tryz.func36, Tryz.ntmps36
 go_wp2_with (first
  | (go_at_call 12; refine Hcall.out.mono ?_; rintro e w1 ⟨xs, rfl, hf1, hb1, hx8, hnext⟩; obtain ⟨x0, x1, x2⟩ := Hcell.out w1 hf1; have x3 := Hsz.out w1 hf1; have hDl1 := Nat.lt_of_lt_of_le hDl hf1.size; have hYl1 := (HY.out.nw hf1).lt; have Hnext := hd hnext; have Hf1 := hd hf1; have Hb1 := hd hb1; clear hf1 hb1 hnext)
  | (go_at_call 54; refine (Hnext.out _ (Fr.refl _ _)).mono ?_; rintro e w2 ⟨bo, bc, rfl, hI2, hf2⟩; have HI2 := hd hI2; have Hf2 := hd (Hf1.out.trans hf2 (fun _ x => x.elim)); have Hb2 := hd (Hb1.out.nw hf2); clear hI2 hf2)
  | (go_at_call 33; refine (sameInts_eq _ _ _ _ xs _ (by omega) (IntsAt.of_blk Hb2.out 0 xs (fun i hi => by simp [hi])) HI2.out).mono ?_; rintro e w3 ⟨rfl, n3, rfl⟩; have Hf3 := hd (Hf2.out.drewN n3); have Hb3 := hd (Hb2.out.drewN n3))
  | (go_at_call 19; refine (kept_any B _ _ _ _ _ _ _ _ (H.out.law.nw Hf3.out).blk (H.out.law.nw Hf3.out).keeps).mono ?_; rintro e w4 ⟨rfl, rfl⟩)
  | (go_at_call 52; refine (keep_any lo B L w.heap.size xs.length xs.length (xs.map (Value.int .i64)) _ (H.out.law.nw Hf3.out) (by simp) (by have := row_blk Hb3.out (by rw [List.length_map]; unfold maxLen; omega); rw [List.length_map] at this; exact this) (by omega) hn h4 (fun ho => by have := H.out.law.lt _ ho; omega) H.out.env.le (Nat.le_trans H.out.env.le Hf3.out.size)).mono ?_; rintro e w5 ⟨rfl, nv, news, k1, k2, k3, k4⟩; have Hfin := hd ((H.out.nw Hf3.out).kept Hb3.out (fun ho => by have := H.out.side.lt ho; omega) (Nat.le_trans H.out.env.base H.out.env.le) k2 k3 k4); have K1 := hd k1; have K3 := hd k3; have K4 := hd k4; clear k1 k2 k3 k4))
 go_ret
 have hs3 := Hf3.out.size
 refine ⟨rfl, _, Hfin.out, ⟨(Hf3.out.mono (fun _ x => x.elim)).trans K3.out (fun i hi => ?_), fun k hk => ?_, fun k hk => .inl hk, rfl, rfl, rfl, rfl, rfl, ?_⟩, ?_, rfl, rfl⟩
 ·rcases hi with hi | hi | hi
  ·exact .inl (.inl (.inl hi))
  ·exact .inl (.inl (.inr (.inr (.inl hi))))
  ·exact .inr (by omega)
 ·rcases K4.out k hk with h1 | h1 | h1
  ·exact .inl h1
  ·exact .inr (by omega)
  ·exact .inr (by omega)
 ·show (L.nums ++ news).length % 4 = _
  rw [List.length_append, K1.out]
  omega
 ·show (L.nums ++ news).length = _
  rw [List.length_append, K1.out]
end Go.Proofs.YtkjfpdfkcfgfkaaGreat

namespace Go.Proofs.YtkjfpdfkcfgfkaaGreat
open Go.RowKit

def lentV (g : Nat) (l : List Int) : Value := .slice (some ⟨g, 0, none⟩) (l.length + 1) (l.length + 1)
def cutV (g : Nat) (l : List Int) : Value := .slice (some ⟨g, 0, none⟩) l.length (l.length + 1)
def lentL (rows : List (List Int)) (gs : List Nat) : List Value := (List.range gs.length).map (fun j => lentV (gs.getD j 0) (rows.getD j []))
def cutL (rows : List (List Int)) (gs : List Nat) : List Value := (List.range gs.length).map (fun j => cutV (gs.getD j 0) (rows.getD j []))
theorem lentL_len (rows : List (List Int)) (gs : List Nat) : (lentL rows gs).length = gs.length := by simp [lentL]
theorem cutL_len (rows : List (List Int)) (gs : List Nat) : (cutL rows gs).length = gs.length := by simp [cutL]
theorem getD_snoc_lt {α : Type} (l : List α) (x d : α) (j : Nat) (h : j < l.length) : (l ++ [x]).getD j d = l.getD j d := by simp only [List.getD]; rw [List.getElem?_append_left h]
theorem getD_snoc_eq {α : Type} (l : List α) (x d : α) : (l ++ [x]).getD l.length d = x := by simp [List.getD]
theorem lentL_snoc (rows : List (List Int)) (gs : List Nat) (g : Nat) : lentL rows (gs ++ [g]) = lentL rows gs ++ [lentV g (rows.getD gs.length [])] := by
 unfold lentL
 rw [List.length_append, List.length_singleton, List.range_succ, List.map_append]
 congr 1
 ·refine List.map_congr_left fun j hj => ?_
  rw [getD_snoc_lt _ _ _ _ (List.mem_range.1 hj)]
 ·rw [List.map_singleton, getD_snoc_eq]
theorem cutL_snoc (rows : List (List Int)) (gs : List Nat) (g : Nat) : cutL rows (gs ++ [g]) = cutL rows gs ++ [cutV g (rows.getD gs.length [])] := by
 unfold cutL
 rw [List.length_append, List.length_singleton, List.range_succ, List.map_append]
 congr 1
 ·refine List.map_congr_left fun j hj => ?_
  rw [getD_snoc_lt _ _ _ _ (List.mem_range.1 hj)]
 ·rw [List.map_singleton, getD_snoc_eq]
theorem lentL_get (rows : List (List Int)) (gs : List Nat) (j : Nat) (h : j < gs.length) : (lentL rows gs)[j]? = some (lentV (gs.getD j 0) (rows.getD j [])) := by simp [lentL, h]
theorem cutL_get (rows : List (List Int)) (gs : List Nat) (j : Nat) (h : j < gs.length) : (cutL rows gs)[j]? = some (cutV (gs.getD j 0) (rows.getD j [])) := by simp [cutL, h]
def rowsC (rows : List (List Int)) (gs : List Nat) : List Value := cutL rows gs ++ List.replicate (rows.length + 1 - gs.length) nilS
theorem rowsC_len (rows : List (List Int)) (gs : List Nat) (h : gs.length ≤ rows.length) : (rowsC rows gs).length = rows.length + 1 := by
 unfold rowsC
 rw [List.length_append, cutL_len, List.length_replicate]
 omega
theorem rowsC_set (rows : List (List Int)) (gs : List Nat) (g : Nat) (h : gs.length < rows.length) : (rowsC rows gs).set gs.length (cutV g (rows.getD gs.length [])) = rowsC rows (gs ++ [g]) := by
 unfold rowsC
 rw [cutL_snoc, List.length_append, List.length_singleton, List.set_append, if_neg (by rw [cutL_len]; omega), cutL_len, Nat.sub_self, List.append_assoc]
 congr 1
 rw [show rows.length + 1 - gs.length = (rows.length + 1 - (gs.length + 1)) + 1 by omega, List.replicate_succ]
 rfl
theorem rowsC_get (rows : List (List Int)) (gs : List Nat) (j : Nat) (h : j < gs.length) : (rowsC rows gs)[j]? = some (cutV (gs.getD j 0) (rows.getD j [])) := by
 unfold rowsC
 rw [List.getElem?_append_left (by rw [cutL_len]; exact h), cutL_get _ _ _ h]
theorem rowsC_end (rows : List (List Int)) (gs : List Nat) (h : gs.length = rows.length) : (rowsC rows gs)[rows.length]? = some nilS := by
 unfold rowsC
 rw [List.getElem?_append_right (by rw [cutL_len]; omega), cutL_len, h, Nat.sub_self, Nat.add_sub_cancel_left]
 rfl
def lentC (l : List Int) : Array Value := ((l ++ [78]).map (Value.int .i64)).toArray
structure Copies (w : World) (lo1 RB : Nat) (rows : List (List Int)) (gs : List Nat) : Prop where
 rb : Blk w RB (rowsC rows gs).toArray 22
 each : ∀ j, j < gs.length → Blk w (gs.getD j 0) (lentC (rows.getD j [])) 3
 lo : ∀ g ∈ gs, lo1 ≤ g
 ne : gs.Pairwise (· ≠ ·)
 len : gs.length ≤ rows.length
theorem Copies.fr {S : Nat → Prop} {w w' : World} {lo1 RB : Nat} {rows : List (List Int)} {gs : List Nat} (h : Copies w lo1 RB rows gs) (f : Fr S w w') (h1 : ¬ S RB) (h2 : ∀ g ∈ gs, ¬ S g) : Copies w' lo1 RB rows gs :=
 ⟨h.rb.fr f h1, fun j hj => (h.each j hj).fr f (h2 _ (by rw [getD_of_lt _ _ _ hj]; exact List.getElem_mem hj)), h.lo, h.ne, h.len⟩
theorem Copies.nw {w w' : World} {lo1 RB : Nat} {rows : List (List Int)} {gs : List Nat} (h : Copies w lo1 RB rows gs) (f : Nw w w') : Copies w' lo1 RB rows gs := h.fr f (fun x => x) (fun _ _ x => x)
theorem Copies.rowsAt {w : World} {lo1 RB : Nat} {rows : List (List Int)} {gs : List Nat} (h : Copies w lo1 RB rows gs) (hl : gs.length = rows.length) : RowsAt w (some ⟨RB, 0, none⟩) rows := fun i hi => by
 have h1 := h.each i (by omega)
 have h2 := rowsC_get rows gs i (by omega)
 refine ⟨RB, 0, some ⟨gs.getD i 0, 0, none⟩, (rows.getD i []).length + 1, rfl, h.rb.lt, ?_, ?_⟩
 ·rw [Nat.zero_add, h.rb.cell]
  rw [List.getElem?_toArray]
  exact h2
 ·obtain ⟨r, hr⟩ : ∃ r, rows.getD i [] = r := ⟨_, rfl⟩
  rw [hr] at h1 ⊢
  exact IntsAt.of_blk h1 0 _ (fun j hj => by simp [lentC, List.getElem?_append_left, hj])
theorem exec_eqK {ev : Operand → Value} {o : Oper} {w : World} (a b : Int) (r : Bool) (x y : Operand) (ho : o.op = .binOp .eql 3 x y 3) (hx : ev x = .int .i64 a) (hy : ev y = .int .i64 b) (hr : (a == b) = r) : (execOp ev o).run Tryz.prog w = .ok (.value (.bool r)) w := by
 refine exec_eql x y 3 3 ho ?_ ?_
 ·rw [hx, hy]; kernel_rfl
 ·rw [hx, hy, ← hr]; kernel_rfl
theorem Tryz.infoRowsL : (Tryz.prog.info? 26).map (fun i => (i.zero, i.size, i.bytes)) = some (some (.slice none 0 0), 1, 24) := by kernel_rfl
theorem slice_highR (ao : Option Addr) (m cap n : Nat) (hn : n ≤ cap) (W : World) : (Instr.sliceAt 26 (.slice ao m cap) none (some (.int .i64 (n : Int))) none).run Tryz.prog W = .ok (sliced ao 0 n cap 1) W := by
 have hu : Tryz.prog.underlying 26 = some (.slice (Tryz.prog.elem 26)) := by kernel_rfl
 have he : Tryz.prog.elem 26 = 22 := by kernel_rfl
 have hz : (sizeOf 22).run Tryz.prog W = .ok 1 W := by kernel_rfl
 rw [run_sliceAt_slice _ _ _ _ _ _ hu]
 rw [run_slice_h _ _ _ _ _ hu _ _ (by omega) (by omega), he, hz]
 simp [Result.andThen]
theorem sliced_g (g n cap : Nat) : sliced (some ⟨g, 0, none⟩) 0 n cap 1 = .slice (some ⟨g, 0, none⟩) n cap := by
 unfold sliced
 simp [Addr.add]
theorem exec_cutI {ev : Operand → Value} {o : Oper} {w : World} {g m cap n : Nat} (x y : Operand) (ho : o.op = .slice 22 x none (some y) none) (hx : ev x = .slice (some ⟨g, 0, none⟩) m cap) (hy : ev y = .int .i64 (n : Int)) (hn : n ≤ cap) : (execOp ev o).run Tryz.prog w = .ok (.value (.slice (some ⟨g, 0, none⟩) n cap)) w := by
 have h1 := (slice_highI (some ⟨g, 0, none⟩) m cap n hn w).trans (by rw [sliced_g])
 unfold execOp
 simp [ho, hx, hy, h1, Result.andThen]
theorem exec_cutR {ev : Operand → Value} {o : Oper} {w : World} {g m cap n : Nat} (x y : Operand) (ho : o.op = .slice 26 x none (some y) none) (hx : ev x = .slice (some ⟨g, 0, none⟩) m cap) (hy : ev y = .int .i64 (n : Int)) (hn : n ≤ cap) : (execOp ev o).run Tryz.prog w = .ok (.value (.slice (some ⟨g, 0, none⟩) n cap)) w := by
 have h1 := (slice_highR (some ⟨g, 0, none⟩) m cap n hn w).trans (by rw [sliced_g])
 unfold execOp
 simp [ho, hx, hy, h1, Result.andThen]
noncomputable def pstR10 : Array Oper := regOps Tryz.f53 10
noncomputable def pstR15 : Array Oper := regOps Tryz.f53 15
noncomputable def pstR16 : Array Oper := regOps Tryz.f53 16
noncomputable def pstR25 : Array Oper := regOps Tryz.f53 25
structure PBlk (w : World) (B0 : Nat) (d : Sd) (tc : Array Value) : Prop where
 k1 : Blk w d.D d.cells 52
 k2 : Blk w B0 tc 41
theorem rowsC_at (rows : List (List Int)) (gs : List Nat) (h : gs.length ≤ rows.length) : (rowsC rows gs)[gs.length]? = some nilS := by
 unfold rowsC
 rw [List.getElem?_append_right (by rw [cutL_len]; omega), cutL_len, Nat.sub_self, List.getElem?_replicate, if_pos (by omega)]
theorem Copies.int {w : World} {lo1 RB : Nat} {rows : List (List Int)} {gs : List Nat} (h : Copies w lo1 RB rows gs) {g : Nat} (hg : g ∈ gs) : ∃ cur, Blk w g cur 3 := by
 obtain ⟨j, hj, e⟩ := List.getElem_of_mem hg
 have := h.each j hj
 rw [getD_of_lt _ _ _ hj, e] at this
 exact ⟨_, this⟩
theorem app1n {w w1 : World} {e : TypeId} {v v' x : Value} {xs : List Value} {n : Nat} (hn : xs.length = n) (h1 : w1.ownsRow 0 e 1 v' (n + 1) (xs ++ [x])) (hg : (w.alloc (.cells #[x] e)).grownBy w1 v.ownBlock) (hat : v'.ownBlock = v.ownBlock ∨ v'.ownBlock = some (w.alloc (.cells #[x] e)).heap.size) :
  ∃ g cap, v' = .slice (some ⟨g, 0, none⟩) (n + 1) cap ∧ Row w1 v' e (xs ++ [x]) ∧ Fr (fun k => v.ownBlock = some k) w w1 ∧ (v.ownBlock = some g ∨ g = w.heap.size + 1) ∧ g < w1.heap.size := by
 subst hn
 exact app1 h1 hg hat
theorem rowN {w : World} {v : Value} {e : TypeId} {xs : List Value} {n : Nat} (h : Row w v e xs) (hn : xs.length = n) : w.ownsRow 0 e 1 v n xs := by
 subst hn
 exact h
theorem made_nil (n : Nat) : madeCells (Value.slice none 0 0).cells (n * 1) = (List.replicate n nilS).toArray := by
 rw [Nat.mul_one]
 unfold madeCells
 apply Array.ext
 ·simp
 ·intro i h1 h2
  simp only [Array.getElem_map, Array.getElem_range, Value.cells, List.getElem_toArray, List.getElem_replicate]
  show #[Value.slice none 0 0][i % 1]! = _
  rw [Nat.mod_one]
  rfl
theorem rowsC_nil (rows : List (List Int)) : rowsC rows [] = List.replicate (rows.length + 1) nilS := by simp [rowsC, cutL]

structure Ret (wp wq : World) (B RB VB : Nat) (L : LW) (ow : Value) (rows : List (List Int)) (gs : List Nat) (vars : List Int) (k : Nat) (tv : Value) : Prop where
 blk : Blk wq B #[L.sv, L.nv, tv, L.rv] 29
 row : Row wq tv 22 (L.turned ++ [lentV VB vars] ++ (lentL rows gs).take k)
 rb : Blk wq RB (rowsC rows gs).toArray 22
 todo : ∀ j, k ≤ j → j < gs.length → Blk wq (gs.getD j 0) (lentC (rows.getD j [])) 3
 done : ∀ j, j < k → Blk wq (gs.getD j 0) (turnedTo (rows.getD j []) ((rows.getD j []).length + 1)) 3
 vb : Blk wq VB (turnedTo vars (vars.length + 1)) 3
 own : Row wq ow 22 (lentL rows gs)
 fr : Fr (fun q => q = B ∨ L.tv.ownBlock = some q ∨ q = VB ∨ q ∈ gs) wp wq
 grow : ∀ q, tv.ownBlock = some q → L.tv.ownBlock = some q ∨ wp.heap.size ≤ q
theorem Ret.first {wp w5 : World} {lo lo1 B RB VB : Nat} {L : LW} {ow : Value} {rows : List (List Int)} {gs : List Nat} {vars : List Int} {tv : Value} (hL : LawAt wp lo B L) (hC : Copies wp lo1 RB rows gs) (hO : Row wp ow 22 (lentL rows gs)) (hV : Blk wp VB (lentC vars) 3) (hVB : VB ∉ gs) (hRt : ∀ q, L.tv.ownBlock = some q → q ≠ RB ∧ ow.ownBlock ≠ some q)
  (hf : Fr (fun q => q = B ∨ q = VB ∨ L.tv.ownBlock = some q) wp w5) (hb : Blk w5 B #[L.sv, L.nv, tv, L.rv] 29) (hr : Row w5 tv 22 (L.turned ++ [lentV VB vars])) (hg : Blk w5 VB (turnedTo vars (vars.length + 1)) 3) (hgr : ∀ q, tv.ownBlock = some q → L.tv.ownBlock = some q ∨ wp.heap.size ≤ q) :
  Ret wp w5 B RB VB L ow rows gs vars 0 tv := by
 have hI : ∀ {q : Nat} {cur : Array Value}, Blk wp q cur 22 → L.tv.ownBlock ≠ some q → ¬ (q = B ∨ q = VB ∨ L.tv.ownBlock = some q) := fun hq hn hs => by
  rcases hs with hs | hs | hs
  ·rw [hs] at hq
   exact absurd (hq.inj hL.blk).2 (by decide)
  ·rw [hs] at hq
   exact absurd (hq.inj hV).2 (by decide)
  ·exact hn hs
 refine ⟨hb, by rw [List.take_zero, List.append_nil]; exact hr, hC.rb.fr hf (hI hC.rb (fun e => (hRt RB e).1 rfl)), fun j _ hj => (hC.each j hj).fr hf (fun hs => ?_), fun j hj => absurd hj (Nat.not_lt_zero _), hg, hO.fr hf (fun q hq => ?_), hf.mono (fun q hq => .inl ?_), hgr⟩
 ·have hq := hC.each j hj
  rcases hs with hs | hs | hs
  ·rw [hs] at hq
   exact absurd (hq.inj hL.blk).2 (by decide)
  ·refine hVB ?_
   rw [← hs, getD_of_lt _ _ _ hj]
   exact List.getElem_mem hj
  ·obtain ⟨cur', hb', _⟩ := hL.keeps.rt.blk hs
   exact absurd (hq.inj hb').2 (by decide)
 ·obtain ⟨cur, hb', _⟩ := hO.blk hq
  exact hI hb' (fun e => (hRt q e).2 hq)
 ·rcases hq with hq | hq | hq
  ·exact .inl hq
  ·exact .inr (.inr (.inl hq))
  ·exact .inr (.inl hq)
theorem Ret.next {wp wq w' : World} {B RB VB : Nat} {L : LW} {ow : Value} {rows : List (List Int)} {gs : List Nat} {vars : List Int} {k : Nat} {tv tv' : Value} (h : Ret wp wq B RB VB L ow rows gs vars k tv) (hk : k < gs.length) (hne : gs.Pairwise (· ≠ ·)) (hVB : VB ∉ gs) (hRt : ∀ q, L.tv.ownBlock = some q → q ≠ RB ∧ ow.ownBlock ≠ some q) (hRl : RB < wp.heap.size) (hol : ∀ q, ow.ownBlock = some q → q < wp.heap.size)
  (hf : Fr (fun q => q = B ∨ q = gs.getD k 0 ∨ tv.ownBlock = some q) wq w') (hb : Blk w' B #[L.sv, L.nv, tv', L.rv] 29) (hr : Row w' tv' 22 ((L.turned ++ [lentV VB vars] ++ (lentL rows gs).take k) ++ [lentV (gs.getD k 0) (rows.getD k [])])) (hg : Blk w' (gs.getD k 0) (turnedTo (rows.getD k []) ((rows.getD k []).length + 1)) 3) (hgr : ∀ q, tv'.ownBlock = some q → tv.ownBlock = some q ∨ wq.heap.size ≤ q) :
  Ret wp w' B RB VB L ow rows gs vars (k + 1) tv' := by
 have hint : ∀ {q : Nat} {cur : Array Value}, Blk wq q cur 3 → q ≠ gs.getD k 0 → ¬ (q = B ∨ q = gs.getD k 0 ∨ tv.ownBlock = some q) := fun hq hn hs => by
  rcases hs with hs | hs | hs
  ·rw [hs] at hq
   exact absurd (hq.inj h.blk).2 (by decide)
  ·exact hn hs
  ·obtain ⟨cur', hb', _⟩ := h.row.blk hs
   exact absurd (hq.inj hb').2 (by decide)
 have hgk := h.todo k (Nat.le_refl _) hk
 have hI : ∀ {q : Nat} {cur : Array Value}, Blk wq q cur 22 → tv.ownBlock ≠ some q → ¬ (q = B ∨ q = gs.getD k 0 ∨ tv.ownBlock = some q) := fun hq hn hs => by
  rcases hs with hs | hs | hs
  ·rw [hs] at hq
   exact absurd (hq.inj h.blk).2 (by decide)
  ·rw [hs] at hq
   exact absurd (hq.inj hgk).2 (by decide)
  ·exact hn hs
 have hidx : ∀ j, j < gs.length → j ≠ k → gs.getD j 0 ≠ gs.getD k 0 := fun j hj hjk e => by
  rw [getD_of_lt _ _ _ hj, getD_of_lt _ _ _ hk] at e
  have hp := List.pairwise_iff_getElem.1 hne
  rcases Nat.lt_or_gt_of_ne hjk with h1 | h1
  ·exact hp j k hj hk h1 e
  ·exact hp k j hk hj h1 e.symm
 refine ⟨hb, ?_, h.rb.fr hf (hI h.rb (fun e => ?_)), fun j h1 h2 => (h.todo j (by omega) h2).fr hf (hint (h.todo j (by omega) h2) (hidx j h2 (by omega))), fun j hj => ?_, h.vb.fr hf (hint h.vb (fun e => hVB ?_)), h.own.fr hf (fun q hq => ?_), h.fr.trans hf (fun q hq => ?_), fun q hq => ?_⟩
 ·rw [List.take_add_one, lentL_get _ _ _ hk, ← List.append_assoc]
  exact hr
 ·rcases h.grow RB e with h1 | h1
  ·exact (hRt RB h1).1 rfl
  ·omega
 ·by_cases e : j = k
  ·rw [e]
   exact hg
  ·have := h.done j (by omega)
   exact this.fr hf (hint this (hidx j (by omega) e))
 ·rw [e, getD_of_lt _ _ _ hk]
  exact List.getElem_mem hk
 ·obtain ⟨cur, hb', _⟩ := h.own.blk hq
  refine hI hb' (fun e => ?_)
  rcases h.grow q e with h1 | h1
  ·exact (hRt q h1).2 hq
  ·have := hol q hq
   omega
 ·rcases hq with hq | hq | hq
  ·exact .inl (.inl hq)
  ·exact .inl (.inr (.inr (.inr (by rw [hq, getD_of_lt _ _ _ hk]; exact List.getElem_mem hk))))
  ·rcases h.grow q hq with h1 | h1
   ·exact .inl (.inr (.inl h1))
   ·exact .inr h1
 ·rcases hgr q hq with h1 | h1
  ·exact h.grow q h1
  ·exact .inr (Nat.le_trans h.fr.size h1)

structure PEnd (w wp w7 : World) (B RB VB hi : Nat) (L : LW) (rows : List (List Int)) (gs : List Nat) (vars : List Int) (tv rv : Value) (cs : List Value) : Prop where
 fr : Fr (fun q => q = B ∨ L.tv.ownBlock = some q ∨ L.rv.ownBlock = some q ∨ q = VB ∨ q ∈ gs ∨ q = RB) wp w7
 blk : Blk w7 B #[L.sv, L.nv, tv, rv] 29
 rt : Row w7 tv 22 (L.turned ++ [lentV VB vars] ++ lentL rows gs)
 rr : Row w7 rv 26 (L.rows ++ [.slice (some ⟨RB, 0, none⟩) (rows.length + 1) (rows.length + 1)])
 rb : Blk w7 RB cs.toArray 22
 cl : cs.length = rows.length + 1
 cn : ∀ j, j < rows.length + 1 → cs[j]? = some (.slice none 0 0)
 vb : Blk w7 VB (turnedTo vars (vars.length + 1)) 3
 gb : ∀ j, j < gs.length → Blk w7 (gs.getD j 0) (turnedTo (rows.getD j []) ((rows.getD j []).length + 1)) 3
 gt : ∀ q, tv.ownBlock = some q → L.tv.ownBlock = some q ∨ wp.heap.size ≤ q
 gr : ∀ q, rv.ownBlock = some q → L.rv.ownBlock = some q ∨ wp.heap.size ≤ q
 n1 : w.heap.size ≤ VB ∧ VB < hi
 n2 : w.heap.size ≤ RB ∧ RB < hi
 n3 : ∀ g ∈ gs, w.heap.size ≤ g ∧ g < hi
 n4 : w.heap.size ≤ wp.heap.size ∧ hi ≤ wp.heap.size
 on : Only wp (fun q => q = B ∨ L.tv.ownBlock = some q ∨ L.rv.ownBlock = some q ∨ q = VB ∨ q ∈ gs ∨ q = RB) [29, 22, 3, 26]
def LW.post (L : LW) (tv rv : Value) (news : List Value) (r : Value) : LW := { L with tv := tv, rv := rv, turned := L.turned ++ news, rows := L.rows ++ [r] }
theorem PEnd.own {w wp w7 : World} {B RB VB hi : Nat} {L : LW} {rows : List (List Int)} {gs : List Nat} {vars : List Int} {tv rv : Value} {cs : List Value} (h : PEnd w wp w7 B RB VB hi L rows gs vars tv rv cs) (q : Nat) (hq : (L.post tv rv ([lentV VB vars] ++ lentL rows gs) (.slice (some ⟨RB, 0, none⟩) (rows.length + 1) (rows.length + 1))).own B q) :
  L.own B q ∨ (w.heap.size ≤ q ∧ q < hi) ∨ wp.heap.size ≤ q := by
 rcases hq with hq | hq | hq | hq | hq | hq | ⟨v, hv, hq⟩ | ⟨v, hv, hq⟩
 ·exact .inl (.inl hq)
 ·exact .inl (.inr (.inl hq))
 ·exact .inl (.inr (.inr (.inl hq)))
 ·rcases h.gt q hq with h1 | h1
  ·exact .inl (.inr (.inr (.inr (.inl h1))))
  ·exact .inr (.inr h1)
 ·rcases h.gr q hq with h1 | h1
  ·exact .inl (.inr (.inr (.inr (.inr (.inl h1)))))
  ·exact .inr (.inr h1)
 ·exact .inl (.inr (.inr (.inr (.inr (.inr (.inl hq))))))
 ·rcases List.mem_append.1 hv with hv | hv
  ·exact .inl (.inr (.inr (.inr (.inr (.inr (.inr (.inl ⟨v, hv, hq⟩)))))))
  ·rcases List.mem_append.1 hv with hv | hv
   ·rw [List.mem_singleton.1 hv] at hq
    cases hq
    exact .inr (.inl h.n1)
   ·obtain ⟨j, hj, rfl⟩ := List.mem_map.1 hv
    cases hq
    have hjl := List.mem_range.1 hj
    rw [getD_of_lt _ _ _ hjl]
    exact .inr (.inl (h.n3 _ (List.getElem_mem hjl)))
 ·rcases List.mem_append.1 hv with hv | hv
  ·exact .inl (.inr (.inr (.inr (.inr (.inr (.inr (.inr ⟨v, hv, hq⟩)))))))
  ·rw [List.mem_singleton.1 hv] at hq
   cases hq
   exact .inr (.inl h.n2)
theorem PEnd.law {w wp w7 : World} {lo B RB VB hi : Nat} {L : LW} {rows : List (List Int)} {gs : List Nat} {vars : List Int} {tv rv : Value} {cs : List Value} (h : PEnd w wp w7 B RB VB hi L rows gs vars tv rv cs) (hL : LawAt w lo B L) (hp : LawAt wp lo B L) (hlw : lo ≤ w.heap.size) (hgl : gs.length = rows.length) (hvl : vars.length ≤ 1048576) (hrl : rows.length ≤ 1048576) (hrr : ∀ r ∈ rows, r.length ≤ 1048576) (htl : L.turned.length ≤ 8388608) (hrw : L.rows.length ≤ 8388608) :
  LawAt w7 lo B (L.post tv rv ([lentV VB vars] ++ lentL rows gs) (.slice (some ⟨RB, 0, none⟩) (rows.length + 1) (rows.length + 1))) := by
 have hn4 := h.n4
 have hn2 := h.n2
 have hn1 := h.n1
 have hs7 := h.fr.size
 have hno : ∀ q cur e, L.own B q → Blk wp q cur e → e ≠ 29 → L.tv.ownBlock ≠ some q → L.rv.ownBlock ≠ some q → ¬ (q = B ∨ L.tv.ownBlock = some q ∨ L.rv.ownBlock = some q ∨ q = VB ∨ q ∈ gs ∨ q = RB) := fun q cur e hq hb he h2 h3 h4 => by
  have hlt := hL.lt q hq
  rcases h4 with h4 | h4 | h4 | h4 | h4 | h4
  ·rw [h4] at hb
   exact he (hb.inj hp.blk).2
  ·exact h2 h4
  ·exact h3 h4
  ·omega
  ·have := h.n3 q h4
   omega
  ·omega
 have ht : ∀ q cur e, Blk wp q cur e → e ≠ 22 → L.tv.ownBlock ≠ some q := fun q cur e hb he hq => by
  obtain ⟨c2, hb2, _⟩ := hp.keeps.rt.blk hq
  exact he (hb.inj hb2).2
 have hr : ∀ q cur e, Blk wp q cur e → e ≠ 26 → L.rv.ownBlock ≠ some q := fun q cur e hb he hq => by
  obtain ⟨c2, hb2, _⟩ := hp.keeps.rr.blk hq
  exact he (hb.inj hb2).2
 have k1 := fun q hq => (by
  obtain ⟨cur, hb, _⟩ := hp.sides.blk (k := q) hq
  exact hno q cur _ (.inr (.inl hq)) hb (by decide) (ht q cur _ hb (by decide)) (hr q cur _ hb (by decide)) : ¬ _)
 have k2 := fun q hq => (by
  obtain ⟨cur, hb, _⟩ := hp.keeps.rn.blk (k := q) hq
  exact hno q cur _ (.inr (.inr (.inl hq))) hb (by decide) (hL.nt q hq) (hr q cur _ hb (by decide)) : ¬ _)
 have k4 : ∀ v, v ∈ L.nums ∨ v ∈ L.turned → ∀ q, v.ownBlock = some q → ¬ (q = B ∨ L.tv.ownBlock = some q ∨ L.rv.ownBlock = some q ∨ q = VB ∨ q ∈ gs ∨ q = RB) := fun v hv q hq => by
  obtain ⟨cur, hb⟩ := hp.ints v hv q hq
  exact hno q cur _ (hv.elim (fun hv => .inr (.inr (.inr (.inr (.inr (.inl ⟨v, hv, hq⟩)))))) (fun hv => .inr (.inr (.inr (.inr (.inr (.inr (.inl ⟨v, hv, hq⟩)))))))) hb (by decide) (ht q cur _ hb (by decide)) (hr q cur _ hb (by decide))
 have k6 : ∀ v, v ∈ L.rows → ∀ q, v.ownBlock = some q → ¬ (q = B ∨ L.tv.ownBlock = some q ∨ L.rv.ownBlock = some q ∨ q = VB ∨ q ∈ gs ∨ q = RB) := fun v hv q hq => by
  obtain ⟨cur, hb⟩ := hp.nils v hv q hq
  exact hno q cur _ (.inr (.inr (.inr (.inr (.inr (.inr (.inr ⟨v, hv, hq⟩))))))) hb (by decide) (fun e => hL.tr q e v hv hq) (hr q cur _ hb (by decide))
 have hlen : (L.turned ++ ([lentV VB vars] ++ lentL rows gs)).length = L.turned.length + 1 + rows.length := by
  rw [List.length_append, List.length_append, lentL_len, List.length_singleton, hgl]
  omega
 have hnewI : ∀ v ∈ [lentV VB vars] ++ lentL rows gs, AllAre w7 v (-7) ∧ ∀ q, v.ownBlock = some q → ∃ cur, Blk w7 q cur 3 := fun v hv => by
  rcases List.mem_append.1 hv with hv | hv
  ·rw [List.mem_singleton.1 hv]
   refine ⟨turned_all h.vb (by omega), fun q hq => ?_⟩
   cases hq
   exact ⟨_, h.vb⟩
  ·obtain ⟨j, hj, rfl⟩ := List.mem_map.1 hv
   have hjl := List.mem_range.1 hj
   have hjr : j < rows.length := by omega
   have hrl := hrr (rows.getD j []) (by rw [getD_of_lt _ _ _ hjr]; exact List.getElem_mem hjr)
   refine ⟨turned_all (h.gb j hjl) (by omega), fun q hq => ?_⟩
   cases hq
   exact ⟨_, h.gb j hjl⟩
 have hrb : AllNil w7 (.slice (some ⟨RB, 0, none⟩) (rows.length + 1) (rows.length + 1)) := ⟨_, _, _, rfl, by omega, fun i hi => ⟨RB, 0, rfl, h.rb.lt, by rw [Nat.zero_add, h.rb.cell, List.getElem?_toArray]; exact h.cn i hi⟩⟩
 have hk := hp.keeps
 have hallI : ∀ v ∈ L.turned ++ ([lentV VB vars] ++ lentL rows gs), AllAre w7 v (-7) := fun v hv => by
  rcases List.mem_append.1 hv with hv | hv
  ·obtain ⟨i, hi, rfl⟩ := List.getElem_of_mem hv
   exact (hk.at_ i hi).fr h.fr (k4 _ (.inr hv))
  ·exact (hnewI v hv).1
 have hallR : ∀ v ∈ L.rows ++ [Value.slice (some ⟨RB, 0, none⟩) (rows.length + 1) (rows.length + 1)], AllNil w7 v := fun v hv => by
  rcases List.mem_append.1 hv with hv | hv
  ·obtain ⟨i, hi, rfl⟩ := List.getElem_of_mem hv
   exact (hk.ar i hi).fr h.fr (k6 _ hv)
  ·rw [List.mem_singleton.1 hv]
   exact hrb
 refine ⟨h.blk, hp.sides.fr h.fr k1, ⟨hk.rn.fr h.fr k2, ?_, h.rr, hk.ln, ?_, ?_, fun i hi => (hk.an i hi).fr h.fr (k4 _ (.inl (List.getElem_mem hi))), fun i hi => ?_, fun i hi => ?_⟩, fun q hq => ?_, fun q hq => ?_, fun v hv q hq => ?_, fun v hv q hq => ?_, fun q hq => ?_, fun q hq v hv => ?_, fun q hq v hv => ?_⟩
 ·show Row w7 tv 22 (L.turned ++ ([lentV VB vars] ++ lentL rows gs))
  rw [← List.append_assoc]
  exact h.rt
 ·show (L.turned ++ ([lentV VB vars] ++ lentL rows gs)).length * 24 ≤ _
  omega
 ·show (L.rows ++ [_]).length * 24 ≤ _
  have : (L.rows ++ [Value.slice (some ⟨RB, 0, none⟩) (rows.length + 1) (rows.length + 1)]).length = L.rows.length + 1 := by rw [List.length_append]; rfl
  omega
 ·refine hallI _ (List.getElem_mem hi)
 ·refine hallR _ (List.getElem_mem hi)
 ·rcases h.own q hq with h1 | h1 | h1
  ·exact hL.lo q h1
  ·omega
  ·omega
 ·rcases hq with hq | hq | hq | hq | hq | ⟨v, hv, hq⟩ | ⟨v, hv, hq⟩ | ⟨v, hv, hq⟩
  ·have := hp.lt q (.inl hq)
   omega
  ·have := hp.lt q (.inr (.inl hq))
   omega
  ·have := hp.lt q (.inr (.inr (.inl hq)))
   omega
  ·exact h.rt.lt hq
  ·exact h.rr.lt hq
  ·have := hp.lt q (.inr (.inr (.inr (.inr (.inr (.inl ⟨v, hv, hq⟩))))))
   omega
  ·rcases List.mem_append.1 hv with hv | hv
   ·have := hp.lt q (.inr (.inr (.inr (.inr (.inr (.inr (.inl ⟨v, hv, hq⟩)))))))
    omega
   ·obtain ⟨cur, hb⟩ := (hnewI v hv).2 q hq
    exact hb.lt
  ·rcases List.mem_append.1 hv with hv | hv
   ·have := hp.lt q (.inr (.inr (.inr (.inr (.inr (.inr (.inr ⟨v, hv, hq⟩)))))))
    omega
   ·rw [List.mem_singleton.1 hv] at hq
    cases hq
    exact h.rb.lt
 ·rcases hv with hv | hv
  ·obtain ⟨cur, hb⟩ := hp.ints v (.inl hv) q hq
   exact ⟨cur, hb.fr h.fr (k4 v (.inl hv) q hq)⟩
  ·rcases List.mem_append.1 hv with hv | hv
   ·obtain ⟨cur, hb⟩ := hp.ints v (.inr hv) q hq
    exact ⟨cur, hb.fr h.fr (k4 v (.inr hv) q hq)⟩
   ·exact (hnewI v hv).2 q hq
 ·rcases List.mem_append.1 hv with hv | hv
  ·obtain ⟨cur, hb⟩ := hp.nils v hv q hq
   exact ⟨cur, hb.fr h.fr (k6 v hv q hq)⟩
  ·rw [List.mem_singleton.1 hv] at hq
   cases hq
   exact ⟨_, h.rb⟩
 ·intro ht'
  rcases h.gt q ht' with h1 | h1
  ·exact hL.nt q hq h1
  ·have := hL.lt q (.inr (.inr (.inl hq)))
   omega
 ·intro ht'
  rcases List.mem_append.1 hv with hv | hv
  ·exact hL.nr q hq v hv ht'
  ·rw [List.mem_singleton.1 hv] at ht'
   cases ht'
   have := hL.lt RB (.inr (.inr (.inl hq)))
   omega
 ·intro ht'
  rcases h.gt q hq with h1 | h1
  ·rcases List.mem_append.1 hv with hv | hv
   ·exact hL.tr q h1 v hv ht'
   ·rw [List.mem_singleton.1 hv] at ht'
    cases ht'
    have := hL.lt RB (.inr (.inr (.inr (.inl h1))))
    omega
  ·rcases List.mem_append.1 hv with hv | hv
   ·have := hL.lt q (.inr (.inr (.inr (.inr (.inr (.inr (.inr ⟨v, hv, ht'⟩)))))))
    omega
   ·rw [List.mem_singleton.1 hv] at ht'
    cases ht'
    have h2 : wp.heap.size ≤ RB := h1
    omega
theorem PEnd.ref {W w wp w7 : World} {lo B RB VB hi : Nat} {L : LW} {d : Sd} {rows : List (List Int)} {gs : List Nat} {vars : List Int} {tv rv : Value} {cs : List Value} (h : PEnd w wp w7 B RB VB hi L rows gs vars tv rv cs) (H : LS W w lo B L d) (hR : RAt W wp lo d.Y d.zs d.R) (hWp : Nw W wp) : RAt W w7 lo d.Y d.zs d.R ∧ Nw W w7 := by
 have hn1 := h.n1
 have hn2 := h.n2
 have hlw := H.env.le
 have hlb := H.env.base
 refine ⟨hR.fr h.fr (fun q hq hT => ?_), hWp.trans h.fr (fun q hq => .inr ?_)⟩
 ·have hd : d.own q := .inr (.inr hq)
  have := H.side.lt hd
  rcases hT with hT | hT | hT | hT | hT | hT
  ·exact H.apart q (.inl hT) hd
  ·exact H.apart q (.inr (.inr (.inr (.inl hT)))) hd
  ·exact H.apart q (.inr (.inr (.inr (.inr (.inl hT))))) hd
  ·omega
  ·have := h.n3 q hT
   omega
  ·omega
 ·rcases hq with hT | hT | hT | hT | hT | hT
  ·have := H.law.lo q (.inl hT)
   omega
  ·have := H.law.lo q (.inr (.inr (.inr (.inl hT))))
   omega
  ·have := H.law.lo q (.inr (.inr (.inr (.inr (.inl hT)))))
   omega
  ·omega
  ·have := h.n3 q hT
   omega
  ·omega
theorem PEnd.fin {W w wd wp w7 w8 w3 : World} {lo B RB VB hi : Nat} {L : LW} {d : Sd} {s' : WS} {R' : RS} {rows : List (List Int)} {gs : List Nat} {vars : List Int} {tv rv : Value} {cs : List Value} (h : PEnd w wp w7 B RB VB hi L rows gs vars tv rv cs) (H : LS W w lo B L d) (hwd : w.heap.size ≤ wd.heap.size) (hhi : hi ≤ wd.heap.size) (hL7 : LawAt w7 lo B (L.post tv rv ([lentV VB vars] ++ lentL rows gs) (.slice (some ⟨RB, 0, none⟩) (rows.length + 1) (rows.length + 1))))
  (hwwp : Fr (fun q => d.s.own d.X q) w wp) (hA : WAt wp d.X d.zs s') (hS : WStep wd wp d.X d.s s') (hR : RAt W wp lo d.Y d.zs d.R) (hD : Blk wp d.D d.cells 52) (h78 : Nw w7 w8) (hR3 : RAt W w3 lo d.Y d.zs R') (hf3 : Fr (d.R.wr d.Y) w8 w3) (hg3 : ∀ k, R'.own d.Y k → d.R.own d.Y k ∨ w8.heap.size ≤ k) (hz3 : R'.szv = d.R.szv) (hn3 : LinkD d.zs.length R'.now s'.d) (ht3 : s'.bs = R'.ts.map TbW.tb) (hl3 : LinkL d.zs.length R'.ls s'.sk) (hb3 : s'.l.busy = d.bz) :
  LS W w3 lo B (L.post tv rv ([lentV VB vars] ++ lentL rows gs) (.slice (some ⟨RB, 0, none⟩) (rows.length + 1) (rows.length + 1))) { d with s := s', R := R' } ∧ LStep w w3 B L (L.post tv rv ([lentV VB vars] ++ lentL rows gs) (.slice (some ⟨RB, 0, none⟩) (rows.length + 1) (rows.length + 1))) d { d with s := s', R := R' } := by
 have hn4 := h.n4
 have hn1 := h.n1
 have hn2 := h.n2
 have hs7 := h.fr.size
 have hs8 := h78.size
 have hs3 := hf3.size
 have hsp := hS.fr.size
 have hlw := H.env.le
 have hlb := H.env.base
 have hdlt : ∀ q, d.own q → q < w.heap.size := fun q hq => H.side.lt hq
 have hTn : ∀ q, (q = B ∨ L.tv.ownBlock = some q ∨ L.rv.ownBlock = some q ∨ q = VB ∨ q ∈ gs ∨ q = RB) → L.own B q ∨ (w.heap.size ≤ q ∧ q < hi) := fun q hq => by
  rcases hq with hq | hq | hq | hq | hq | hq
  ·exact .inl (.inl hq)
  ·exact .inl (.inr (.inr (.inr (.inl hq))))
  ·exact .inl (.inr (.inr (.inr (.inr (.inl hq)))))
  ·exact .inr (by rw [hq]; exact hn1)
  ·exact .inr (h.n3 q hq)
  ·exact .inr (by rw [hq]; exact hn2)
 have hTd : ∀ q, (q = B ∨ L.tv.ownBlock = some q ∨ L.rv.ownBlock = some q ∨ q = VB ∨ q ∈ gs ∨ q = RB) → ¬ d.own q := fun q hq hd => by
  have := hdlt q hd
  rcases hTn q hq with h1 | h1
  ·exact H.apart q h1 hd
  ·omega
 have hTs : ∀ q, s'.own d.X q → ¬ (q = B ∨ L.tv.ownBlock = some q ∨ L.rv.ownBlock = some q ∨ q = VB ∨ q ∈ gs ∨ q = RB) := fun q hq hT => by
  rcases hS.grow q hq with h1 | h1
  ·exact hTd q hT (.inr (.inl h1))
  ·rcases hTn q hT with h2 | h2
   ·have := H.law.lt q h2
    omega
   ·omega
 have hA8 := (hA.fr h.fr hTs h.on (by decide)).nw h78
 have hR8 := (hR.fr h.fr (fun q hq hT => hTd q hT (.inr (.inr hq)))).nw h78
 have htot : Fr (fun k => L.own B k ∨ d.own k) w w3 := (((hwwp.mono (fun q hq => .inl (.inr (.inr (.inl hq))))).trans h.fr (fun q hq => by
  rcases hTn q hq with h1 | h1
  ·exact .inl (.inl h1)
  ·exact .inr h1.1)).trans h78 (fun _ x => x.elim)).trans hf3 (fun q hq => .inl (.inr (.inr (.inr (.inl hq)))))
 have hgD : ∀ q, Sd.own { d with s := s', R := R' } q → d.own q ∨ (wd.heap.size ≤ q ∧ q < wp.heap.size) ∨ w8.heap.size ≤ q := fun q hq => by
  rcases hq with hq | hq | hq
  ·exact .inl (.inl hq)
  ·rcases hS.grow q hq with h1 | h1
   ·exact .inl (.inr (.inl h1))
   ·exact .inr (.inl ⟨h1, hA.mem.lt hq⟩)
  ·rcases hg3 q hq with h1 | h1
   ·exact .inl (.inr (.inr h1))
   ·exact .inr (.inr h1)
 have hL8 := hL7.nw h78
 have hL3 := hL8.fr hf3 (fun q hq hw => by
  have hd : d.own q := .inr (.inr (.inl hw))
  have := hdlt q hd
  rcases h.own q hq with h1 | h1 | h1
  ·exact H.apart q h1 hd
  ·omega
  ·omega)
 refine ⟨⟨⟨hlb, H.env.nw.trans htot (fun q hq => .inr ?_), by omega⟩, hL3, ⟨?_, ?_, H.side.dlo⟩, fun q hq hd => ?_⟩, ⟨htot, fun q hq => ?_, fun q hq => ?_, rfl, rfl, rfl, rfl, rfl, rfl⟩⟩
 ·rcases hq with hq | hq
  ·have := H.law.lo q hq
   omega
  ·have := H.side.lo hq
   omega
 ·refine ((hD.fr h.fr (fun hT => hTd d.D hT (.inl rfl))).nw h78).fr hf3 (fun hw => ?_)
  obtain ⟨cur, e, hb, he⟩ := hR8.wrTy hw
  rw [(hb.inj ((hD.fr h.fr (fun hT => hTd d.D hT (.inl rfl))).nw h78)).2] at he
  exact absurd he (by decide)
 ·refine Pair.fin hA8 hR8 (fun q hq ho => ?_) (fun q hq => ?_) hR3 hf3 hz3 hb3 hn3 ht3 hl3
  ·rcases hS.grow q ho with h1 | h1
   ·exact H.side.pair.szn q hq h1
   ·have := hdlt q (.inr (.inr (.inr (.inl hq))))
    omega
  ·rcases hS.grow q hq with h1 | h1
   ·exact H.side.pair.xlo q h1
   ·omega
 ·have h0 := hL8.lt q hq
  rcases h.own q hq with h1 | h1 | h1
  ·have h4 := H.law.lt q h1
   rcases hgD q hd with h2 | h2 | h2
   ·exact H.apart q h1 h2
   ·omega
   ·omega
  ·rcases hgD q hd with h2 | h2 | h2
   ·have := hdlt q h2
    omega
   ·omega
   ·omega
  ·rcases hgD q hd with h2 | h2 | h2
   ·have := hdlt q h2
    omega
   ·omega
   ·omega
 ·rcases h.own q hq with h1 | h1 | h1
  ·exact .inl h1
  ·exact .inr h1.1
  ·exact .inr (by omega)
 ·rcases hgD q hq with h1 | h1 | h1
  ·exact .inl h1
  ·exact .inr (by omega)
  ·exact .inr (by omega)
end Go.Proofs.YtkjfpdfkcfgfkaaGreat
