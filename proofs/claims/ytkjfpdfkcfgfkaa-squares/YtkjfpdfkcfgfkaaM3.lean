/- Parts of the proof, number 3: contracts of the functions that the statement calls. -/
import Derived.Test.YtkjfpdfkcfgfkaaM2
import Derived.Sort.CutIn
import Derived.Deep.MidRow
import Derived.Test.YtkjfpdfkcfgfkaaM1

/- Contract of cutter.cut, the middle. -/
namespace Go.Proofs.Ytkjfpdfkcfgfkaa
open Go.RowKit Go.Maps Go.Shelf
attribute [local go_sem] Oper.semAt_some

theorem flat_cell : ∀ (os : List (List Nat)), (∀ n ∈ os, NodeOk n) → ∀ old v, old < os.length → v < 6 → (os.flatMap nodeC)[old * 6 + v]? = some (.int .i64 (nodeAt os old v : Nat))
  | [], _, old, v, h, _ => by simp at h
  | n :: os, hok, 0, v, _, hv => by
    have h6 := (hok n (by simp)).1
    rw [List.flatMap_cons, List.getElem?_append_left (by simp [nodeC, h6]; omega)]
    simp [nodeC, nodeAt, h6, hv]
  | n :: os, hok, old + 1, v, h, hv => by
    have h6 := (hok n (by simp)).1
    rw [List.flatMap_cons, List.getElem?_append_right (by simp [nodeC, h6]; omega)]
    have ih := flat_cell os (fun x hx => hok x (List.mem_cons_of_mem _ hx)) old v (by simpa using h) hv
    rw [show (old + 1) * 6 + v - (nodeC n).length = old * 6 + v by simp [nodeC, h6]; omega, ih]
    simp [nodeAt]
theorem DAt.node {w : World} {G g cap : Nat} {onv : Value} {vars : List Int} {os : List (List Nat)} {root : Nat} (h : DAt w G g cap onv vars os root) :
    ∃ og ocap, onv = .slice (some ⟨og, 0, none⟩) os.length ocap ∧ og < w.heap.size ∧ ∀ old v, old < os.length → v < 6 → w.cell? ⟨og, old * 6 + v, none⟩ = some (.int .i64 (nodeAt os old v : Nat)) := by
  rcases h.row.2 with ⟨_, h0⟩ | ⟨og, ocap, cur, rfl, _, hg, hn, _, hsz, ht⟩
  · have := h.two; omega
  · refine ⟨og, ocap, rfl, lt_of_block hg, fun old v ho hv => ?_⟩
    have h1 := Blk.cell (show Blk w og cur 154 from hg) (old * 6 + v)
    rw [h1]
    have h2 := flat_cell os h.ok old v ho hv
    rw [← ht, List.getElem?_take_of_lt (by omega)] at h2
    simpa using h2
theorem DAt.fr {S : Nat → Prop} {w w' : World} {G g cap : Nat} {onv : Value} {vars : List Int} {os : List (List Nat)} {root : Nat} (h : DAt w G g cap onv vars os root) (f : Fr S w w') (hn : ∀ k, (k = G ∨ k = g ∨ onv.ownBlock = some k) → ¬ S k) : DAt w' G g cap onv vars os root :=
  ⟨h.blk.fr f (hn _ (.inl rfl)), h.rv.fr f (fun k hk => hn k (.inr (.inl (by cases hk; rfl)))), ownsRow.fr h.row f (fun k hk => hn k (.inr (.inr hk))), h.ok, h.two⟩
theorem DAt.nw {w w' : World} {G g cap : Nat} {onv : Value} {vars : List Int} {os : List (List Nat)} {root : Nat} (h : DAt w G g cap onv vars os root) (f : Nw w w') : DAt w' G g cap onv vars os root := h.fr f (fun _ _ x => x)
theorem DAt.lt {w : World} {G g cap : Nat} {onv : Value} {vars : List Int} {os : List (List Nat)} {root : Nat} (h : DAt w G g cap onv vars os root) {k : Nat} (hk : k = G ∨ k = g ∨ onv.ownBlock = some k) : k < w.heap.size := by
  rcases hk with rfl | rfl | hk
  · exact h.blk.lt
  · exact h.rv.lt rfl
  · exact (World.ownsRow.lt h.row k hk).2

/-- What cut does at entry i, m entries ahead of the end. -/
def CutOk (C b M Mv G g cap : Nat) (onv : Value) (vars : List Int) (os : List (List Nat)) (root : Nat) (dn : List Nat) (m i : Nat) : Prop := ∀ (old : Nat) (s : CS) (nv : Value) (B : Nat) (w : World),
  2 ≤ B → B + cnt m ≤ 100000 → CSok s B → levOk os m old → CutAt w C b M Mv G nv dn s → DAt w G g cap onv vars os root → (∀ k, (k = G ∨ k = g ∨ onv.ownBlock = some k) → ¬ FC C b M Mv nv k) →
  Calls Try.prog 110 #[.pointer (some ⟨C, 0, none⟩), .int .i64 old, .int .i64 i] w fun e w' => e = .returned (.int .i64 ((cutTo os vars dn m i old s).2 : Nat)) ∧
    ∃ nv', CutAt w' C b M Mv G nv' dn (cutTo os vars dn m i old s).1 ∧ Fr (FC C b M Mv nv) w w' ∧ (∀ k, nv'.ownBlock = some k → nv.ownBlock = some k ∨ w.heap.size ≤ k)

/-- What holds between two values of an entry. -/
structure CutI (w wr : World) (C b M Mv G : Nat) (nv : Value) (dn : List Nat) (old i Nn V q : Nat) (st : CS × List Nat) : Prop where
  fr : Fr (FC C b M Mv nv) w wr
  bx : CBox wr w.heap.size C old i
  bN : Blk wr Nn (nodeC st.2).toArray 154
  bV : Blk wr V #[.int .i64 (q : Int)] 3
  cut : ∃ nvk, CutAt wr C b M Mv G nvk dn st.1 ∧ (∀ k, nvk.ownBlock = some k → nv.ownBlock = some k ∨ w.heap.size ≤ k) ∧ nvk.ownBlock ≠ some Nn
theorem CutI.bk {w wr wx : World} {C b M Mv G lo : Nat} {nv : Value} {dn : List Nat} {old i Nn V q : Nat} {st : CS × List Nat} (h : CutI w wr C b M Mv G nv dn old i Nn V q st) (hb : Bk lo wr wx) (hl : w.heap.size ≤ lo) (h1 : M < lo) (h2 : Mv < lo) : CutI w wx C b M Mv G nv dn old i Nn V q st := by
  obtain ⟨nvk, h3, h4, h5⟩ := h.cut
  exact ⟨h.fr.bk hb hl, h.bx.bk hb, h.bN.bk hb, h.bV.bk hb, ⟨nvk, h3.bk hb h1 h2, h4, h5⟩⟩
theorem CutI.drew {w wr : World} {C b M Mv G : Nat} {nv : Value} {dn : List Nat} {old i Nn V q : Nat} {st : CS × List Nat} (h : CutI w wr C b M Mv G nv dn old i Nn V q st) : CutI w wr.drew C b M Mv G nv dn old i Nn V q st := by
  obtain ⟨nvk, h3, h4, h5⟩ := h.cut
  exact ⟨h.fr.drew, ⟨h.bx.b0, h.bx.b1, h.bx.b2⟩, h.bN, h.bV, ⟨nvk, h3.drew, h4, h5⟩⟩

set_option maxHeartbeats 6400000 in
set_option maxRecDepth 1000000 in
theorem cut_go (C b M Mv G g cap : Nat) (onv : Value) (vars : List Int) (os : List (List Nat)) (root : Nat) (dn : List Nat) (m i : Nat) (h8 : dn.length = 8) (h4 : vars.length ≤ 4) (hv : ∀ i, i < vars.length → 0 ≤ vars.getD i 0 ∧ vars.getD i 0 < 8)
    (hd64 : ∀ q, dn.getD q 0 < 64) (hol : os.length ≤ 100000) (hi : i < vars.length) (ih : CutOk C b M Mv G g cap onv vars os root dn m (i + 1)) (old : Nat) (s : CS) (nv : Value) (B : Nat) (w : World)
    (hB2 : 2 ≤ B) (hcnt : B + cnt (m + 1) ≤ 100000) (hs : CSok s B) (ho2 : ¬ old < 2) (hmv : s.mv old = none) (hlev : old < os.length ∧ ∀ v, v < 6 → levOk os m (nodeAt os old v)) (hC : CutAt w C b M Mv G nv dn s) (hD : DAt w G g cap onv vars os root) (hdis : ∀ k, (k = G ∨ k = g ∨ onv.ownBlock = some k) → ¬ FC C b M Mv nv k) :
    Calls Try.prog 110 #[.pointer (some ⟨C, 0, none⟩), .int .i64 old, .int .i64 i] w fun e w' => e = .returned (.int .i64 ((cutTo os vars dn (m + 1) i old s).2 : Nat)) ∧
      ∃ nv', CutAt w' C b M Mv G nv' dn (cutTo os vars dn (m + 1) i old s).1 ∧ Fr (FC C b M Mv nv) w w' ∧ (∀ k, nv'.ownBlock = some k → nv.ownBlock = some k ∨ w.heap.size ≤ k) := by
  have hmf : ∀ (fn : Fn) (first cap : Array Value) (w : World), (Instr.makeFunc fn first cap).run Try.prog w = .ok (.func fn first cap) w := fun _ _ _ _ => rfl
  have hlt : ¬ (old : Int) < 2 := by omega
  have ho32 : old < 4294967296 := by omega
  obtain ⟨hv0, hv8⟩ := hv i hi
  obtain ⟨q, hq⟩ : ∃ q : Nat, vars.getD i 0 = (q : Int) := ⟨(vars.getD i 0).toNat, by omega⟩
  rw [hq] at hv0 hv8
  have hq8 : q < 8 := by omega
  obtain ⟨og, ocap, hon, hogl, hoc⟩ := hD.node
  subst hon
  obtain ⟨sx, hsxe⟩ : ∃ sx, dn.getD q 0 = sx := ⟨_, rfl⟩
  have hsx := hd64 q
  rw [hsxe] at hsx
  obtain ⟨fin, hfin⟩ : ∃ fin, (vals sx).foldl (cutStep (cutTo os vars dn m (i + 1)) os old q) (s, zero6) = fin := ⟨_, rfl⟩
  have hct : cutTo os vars dn (m + 1) i old s = fin.1.put fin.2 old := by
    rw [cutTo, if_neg ho2, hmv, hq, Int.toNat_natCast, hsxe, hfin]
  rw [hct]
  have hvI : w.cell? ⟨g, i, none⟩ = some (.int .i64 (q : Int)) := by
    have h1 := (hD.rv.at_ i (by simpa using hi)).1
    simp only [List.getElem_map] at h1
    rw [h1, ← hq]
    simp [hi]
  have hiV : (i : Int) < (vars.length : Int) := by omega
  obtain ⟨W, hW⟩ : ∃ W, W = boxedC w C old i := ⟨_, rfl⟩
  have hfW : Nw w W := by rw [hW]; exact boxedC_nw ..
  have hbx : CBox W w.heap.size C old i := by rw [hW]; exact boxedC_box ..
  have hsW : W.heap.size = w.heap.size + 3 := by rw [hW]; simp [boxedC]
  have hCW := hC.nw hfW
  obtain ⟨f, hm, hf⟩ := hCW.mov
  have hl := NumMap.look_ok (w := W.drew) (t := 178) hm intKeyed Try.underlying178 (int_key old ho32)
  rw [hf old ho32, hmv] at hl
  have a0 : W.cell? ⟨w.heap.size, 0, none⟩ = some (.pointer (some ⟨C, 0, none⟩)) := hbx.b0.cell 0
  have a1 : W.cell? ⟨w.heap.size + 1, 0, none⟩ = some (.int .i64 (old : Int)) := hbx.b1.cell 0
  have a2 : W.cell? ⟨C, 18, none⟩ = some (.map (some Mv)) := (hCW.blk.cell 18).trans (cutCells_mv _ _ _ _ _ h8 hs.sp)
  have HW := hd hW
  have Hbx := hd hbx
  have HsW := hd hsW
  have HC := hd hC
  have HD := hd hD
  have Hdis := hd hdis
  have Hfin := hd hfin
  have Hsxe := hd hsxe
  have Hq := hd hq
  have Hih := hd ih
  have Hs := hd hs
  have Hlev := hd hlev
  have Hoc := hd hoc
  have Hmv := hd hmv
  clear hW hbx hsW hC hD hdis hfin hsxe hq ih hs hlev hoc hmv hCW hm hf hct
  refine (callsIn_wide (n := 9)).1 ?_
  refine callsIn_of_wp_marks Try.func110 rfl trivial ?_ rfl
  simp only [Try.ntmps110, List.size_toArray, List.length_cons, List.length_nil, Nat.reduceAdd, Nat.reduceSub, Array.replicate_succ, Array.replicate_zero, List.push_toArray, List.append_toArray, List.nil_append, List.cons_append]
  gi_upto_region 1 with fail
  rw [show ((w.alloc (.cells #[.pointer (some ⟨C, 0, none⟩)] 182)).alloc (.cells #[.int .i64 (old : Int)] 3)).alloc (.cells #[.int .i64 (i : Int)] 3) = W from HW.out.symm]
  clear HW
  gi_upto_region 3 with fail
  refine wpIn_wide.2 ?_
  go_still (by kernel_rfl)
  go_wp2
  gi_upto_region 7 with fail
  obtain ⟨U, hU⟩ : ∃ U, U = (W.alloc (.cells (nodeC zero6).toArray 154)).drew := ⟨_, rfl⟩
  have hfU : Nw W U := by rw [hU]; exact ((Fr.refl _ W).alloc _).drew
  have hbF : Blk U W.heap.size (nodeC zero6).toArray 154 := by rw [hU]; exact (Blk.new _ _ _).drew
  have hsU : U.heap.size = W.heap.size + 1 := by rw [hU]; exact alsz _ _
  rw [show (W.alloc (Obj.cells #[Value.int .i64 0, .int .i64 0, .int .i64 0, .int .i64 0, .int .i64 0, .int .i64 0] 154)).drew = U from hU.symm]
  have HsU := hd hsU
  clear hsU hU
  have hwU : Nw w U := hfW.trans hfU (fun i h => h.elim)
  have hCU := HC.out.nw hwU
  have hDU := HD.out.nw hwU
  have hvU : U.cell? ⟨g, i, none⟩ = some (.int .i64 (q : Int)) := (hwU.cell (HD.out.lt (.inr (.inl rfl))) (fun x => x)).trans hvI
  have hK0 : CBox U.drew w.heap.size C old i ∧ U.drew.cell? ⟨C, 1, none⟩ = some (.pointer (some ⟨G, 0, none⟩)) ∧ U.drew.cell? ⟨G, 0, none⟩ = some (.slice (some ⟨g, 0, none⟩) vars.length cap) ∧ U.drew.cell? ⟨g, i, none⟩ = some (.int .i64 (q : Int)) :=
    ⟨⟨(Hbx.out.b0.nw hfU).drew, (Hbx.out.b1.nw hfU).drew, (Hbx.out.b2.nw hfU).drew⟩, hCU.blk.cell 1, hDU.blk.cell 0, hvU⟩
  have HCU := hd hCU
  have HDU := hd hDU
  clear hCU hDU
  refine wpIn_wide.2 ?_
  refine wp_region_noPanic ?_
  refine wp_region_held (S := fun w'' => CBox w'' w.heap.size C old i ∧ w''.cell? ⟨C, 1, none⟩ = some (.pointer (some ⟨G, 0, none⟩)) ∧ w''.cell? ⟨G, 0, none⟩ = some (.slice (some ⟨g, 0, none⟩) vars.length cap) ∧ w''.cell? ⟨g, i, none⟩ = some (.int .i64 (q : Int))) (by kernel_rfl) ?_
  refine wpAnyH_take (i := 0) (v := .pointer (some ⟨C, 0, none⟩)) rfl (by kernel_rfl) (by kernel_rfl) (by kernel_rfl) (fun _ _ _ h => h) (.inl ⟨by kernel_rfl, fun w'' hS => ?_⟩) hK0 ?_
  · have q0 : w''.cell? ⟨w.heap.size, 0, none⟩ = some (.pointer (some ⟨C, 0, none⟩)) := hS.1.b0.cell 0
    clear hK0 hS hv hd64 hcnt hmf a0 a1 a2 hl hlt hv0 hv8 hvI hvU hfU hbF
    simp only [List.getElem_toArray, List.getElem_cons_zero]
    go_simp
  refine wpAnyH_take (i := 1) (v := .pointer (some ⟨C, 0, none⟩)) rfl (by kernel_rfl) (by kernel_rfl) (by kernel_rfl) (fun _ _ _ h => h) (.inl ⟨by kernel_rfl, fun w'' hS => by kernel_rfl⟩) hK0 ?_
  refine wpAnyH_take (i := 2) (v := .pointer (some ⟨C, 1, none⟩)) rfl (by kernel_rfl) (by kernel_rfl) (by kernel_rfl) (fun _ _ _ h => h) (.inl ⟨by kernel_rfl, fun w'' hS => by kernel_rfl⟩) hK0 ?_
  refine wpAnyH_take (i := 3) (v := .pointer (some ⟨G, 0, none⟩)) rfl (by kernel_rfl) (by kernel_rfl) (by kernel_rfl) (fun _ _ _ h => h) (.inl ⟨by kernel_rfl, fun w'' hS => ?_⟩) hK0 ?_
  · have q0 := hS.2.1
    clear hK0 hS hv hd64 hcnt hmf a0 a1 a2 hl hlt hv0 hv8 hvI hvU hfU hbF
    simp only [Act.put, List.setIfInBounds_toArray, List.set_cons_zero, List.set_cons_succ, List.getElem_toArray, List.getElem_cons_zero, List.getElem_cons_succ]
    go_simp
  refine wpAnyH_take (i := 4) (v := .pointer (some ⟨G, 0, none⟩)) rfl (by kernel_rfl) (by kernel_rfl) (by kernel_rfl) (fun _ _ _ h => h) (.inl ⟨by kernel_rfl, fun w'' hS => by kernel_rfl⟩) hK0 ?_
  refine wpAnyH_take (i := 5) (v := .pointer (some ⟨G, 0, none⟩)) rfl (by kernel_rfl) (by kernel_rfl) (by kernel_rfl) (fun _ _ _ h => h) (.inl ⟨by kernel_rfl, fun w'' hS => by kernel_rfl⟩) hK0 ?_
  refine wpAnyH_take (i := 6) (v := .pointer (some ⟨G, 0, none⟩)) rfl (by kernel_rfl) (by kernel_rfl) (by kernel_rfl) (fun _ _ _ h => h) (.inl ⟨by kernel_rfl, fun w'' hS => by kernel_rfl⟩) hK0 ?_
  refine wpAnyH_take (i := 7) (v := .slice (some ⟨g, 0, none⟩) vars.length cap) rfl (by kernel_rfl) (by kernel_rfl) (by kernel_rfl) (fun _ _ _ h => h) (.inl ⟨by kernel_rfl, fun w'' hS => ?_⟩) hK0 ?_
  · have q0 := hS.2.2.1
    clear hK0 hS hv hd64 hcnt hmf a0 a1 a2 hl hlt hv0 hv8 hvI hvU hfU hbF
    simp only [Act.put, List.setIfInBounds_toArray, List.set_cons_zero, List.set_cons_succ, List.getElem_toArray, List.getElem_cons_zero, List.getElem_cons_succ]
    go_simp
  refine wpAnyH_take (i := 8) (v := .int .i64 (i : Int)) rfl (by kernel_rfl) (by kernel_rfl) (by kernel_rfl) (fun _ _ _ h => h) (.inl ⟨by kernel_rfl, fun w'' hS => ?_⟩) hK0 ?_
  · have q0 : w''.cell? ⟨w.heap.size + 1 + 1, 0, none⟩ = some (.int .i64 (i : Int)) := hS.1.b2.cell 0
    clear hK0 hS hv hd64 hcnt hmf a0 a1 a2 hl hlt hv0 hv8 hvI hvU hfU hbF
    simp only [Act.put, List.setIfInBounds_toArray, List.set_cons_zero, List.set_cons_succ, List.getElem_toArray, List.getElem_cons_zero, List.getElem_cons_succ]
    go_simp
  refine wpAnyH_take (i := 9) (v := .pointer (some ⟨g, i, none⟩)) rfl (by kernel_rfl) (by kernel_rfl) (by kernel_rfl) (fun _ _ _ h => h) (.inl ⟨by kernel_rfl, fun w'' hS => ?_⟩) hK0 ?_
  · clear hK0 hS hv hd64 hcnt hmf a0 a1 a2 hl hlt hv0 hv8 hvI hvU hfU hbF
    simp only [Act.put, List.setIfInBounds_toArray, List.set_cons_zero, List.set_cons_succ, List.getElem_toArray, List.getElem_cons_zero, List.getElem_cons_succ]
    go_simp
  refine wpAnyH_take (i := 10) (v := .int .i64 (q : Int)) rfl (by kernel_rfl) (by kernel_rfl) (by kernel_rfl) (fun _ _ _ h => h) (.inl ⟨by kernel_rfl, fun w'' hS => ?_⟩) hK0 ?_
  · have q0 := hS.2.2.2
    clear hK0 hS hv hd64 hcnt hmf a0 a1 a2 hl hlt hv0 hv8 hvI hvU hfU hbF
    simp only [Act.put, List.setIfInBounds_toArray, List.set_cons_zero, List.set_cons_succ, List.getElem_toArray, List.getElem_cons_zero, List.getElem_cons_succ]
    go_simp
  obtain ⟨Y, hY⟩ : ∃ Y, Y = U.drew.alloc (.cells #[.int .i64 0] 3) := ⟨_, rfl⟩
  have hfY : Nw U Y := by rw [hY]; exact ((Fr.refl _ U).drew).alloc _
  have hbY : Blk Y U.heap.size #[.int .i64 0] 3 := by rw [hY]; exact Blk.new _ _ _
  have hSnw : ∀ X, Nw U X → CBox X w.heap.size C old i ∧ X.cell? ⟨C, 1, none⟩ = some (.pointer (some ⟨G, 0, none⟩)) ∧ X.cell? ⟨G, 0, none⟩ = some (.slice (some ⟨g, 0, none⟩) vars.length cap) ∧ X.cell? ⟨g, i, none⟩ = some (.int .i64 (q : Int)) := fun X hX =>
    ⟨⟨(Hbx.out.b0.nw hfU).nw hX, (Hbx.out.b1.nw hfU).nw hX, (Hbx.out.b2.nw hfU).nw hX⟩, (HCU.out.nw hX).blk.cell 1, (HDU.out.nw hX).blk.cell 0, (hX.cell (HDU.out.lt (.inr (.inl rfl))) (fun x => x)).trans hvU⟩
  refine wpAnyH_all (rs := [11]) (by kernel_rfl) (by simp) (fun j hj => ?_)
  obtain rfl : j = 11 := by simpa using hj
  refine op_value (v := .pointer (some ⟨U.heap.size, 0, none⟩)) (w' := Y) rfl (by kernel_rfl) ?_ ⟨hSnw Y hfY, ?_⟩
  · rw [hY]
    kernel_rfl
  clear hY
  have cY : Y.cell? ⟨U.heap.size, 0, none⟩ = some (.int .i64 0) := hbY.cell 0
  have fY := hbY.free 0
  obtain ⟨Z, hZ⟩ : ∃ Z, Z = Y.setCell ⟨U.heap.size, 0, none⟩ (.int .i64 (q : Int)) := ⟨_, rfl⟩
  have hfZ : Nw U Z := by rw [hZ]; exact hfY.setCell _ _ (.inr (Nat.le_refl _))
  have hbZ : Blk Z U.heap.size #[.int .i64 (q : Int)] 3 := by rw [hZ]; exact hbY.set 0 _
  refine wpAnyH_all (rs := [12]) (by kernel_rfl) (by simp) (fun j hj => ?_)
  obtain rfl : j = 12 := by simpa using hj
  refine op_skip (w' := Z) rfl (by kernel_rfl) ?_ ⟨hSnw Z hfZ, wpAnyH_done (by kernel_rfl) (NoPanic.normal ?_) _⟩
  · rw [hZ]
    clear hK0 hv hd64 hcnt hmf a0 a1 a2 hl hlt hv0 hv8 hvI hvU hfU hbF hZ hfZ hbZ hSnw hfY hbY
    simp only [Act.put, List.setIfInBounds_toArray, List.set_cons_zero, List.set_cons_succ, List.getElem_toArray, List.getElem_cons_zero, List.getElem_cons_succ]
    go_simp
  simp only [Act.put, List.setIfInBounds_toArray, List.set_cons_zero, List.set_cons_succ, List.getElem_toArray, List.getElem_cons_zero, List.getElem_cons_succ]
  have hwZ : Nw w Z := hwU.trans hfZ (fun i h => h.elim)
  have hMl : M < w.heap.size := HC.out.lt (.inr (.inr (.inr (.inl rfl))))
  have hMvl : Mv < w.heap.size := HC.out.lt (.inr (.inl rfl))
  have hsZ := hbZ.lt
  have hWs := HsW.out
  have hUs := HsU.out
  have hI0 : CutI w Z C b M Mv G nv dn old i W.heap.size U.heap.size q (s, zero6) :=
    ⟨hwZ.mono (fun i h => h.elim), (hSnw Z hfZ).1, hbF.nw hfZ, hbZ, ⟨nv, HC.out.nw hwZ, fun k hk => .inl hk, fun e => by have := HC.out.lt (.inr (.inr (.inr (.inr e)))); omega⟩⟩
  have aC : Z.cell? ⟨w.heap.size, 0, none⟩ = some (.pointer (some ⟨C, 0, none⟩)) := hI0.bx.b0.cell 0
  have aV : Z.cell? ⟨U.heap.size, 0, none⟩ = some (.int .i64 (q : Int)) := hI0.bV.cell 0
  have aD : Z.cell? ⟨C, 2 + q, none⟩ = some (.int .u8 (sx : Int)) := by rw [← Hsxe.out]; exact ((HC.out.nw hwZ).blk.cell _).trans (cutCells_dn _ _ _ _ _ _ h8 hq8)
  have HI0 := hd hI0
  clear hZ hfZ hbZ cY fY hbY hfY hSnw hK0 hvU a0 a1 a2 hl hI0 hWs hUs
  simp only [Exit.then]
  gi_upto_region 8 with fail
  refine wpIn_wide.2 ?_
  go_still (by kernel_rfl)
  go_wp2
  gi_wp2_with fail
  show Code.wpIn _ _ _ _ _ _ Z.drew
  have hszZd : Z.drew.heap.size = Z.heap.size := rfl
  have hszZ : w.heap.size + 5 ≤ Z.heap.size := by have := HsW.out; have := HsU.out; omega
  refine wp_each (show sx < 256 by omega) rfl (by simp) (fun pre A => CutI w A C b M Mv G nv dn old i W.heap.size U.heap.size q (pre.foldl (cutStep (cutTo os vars dn m (i + 1)) os old q) (s, zero6)))
    (fun pre A B h hb => h.bk hb (by rw [hszZd]; omega) (by rw [hszZd]; omega) (by rw [hszZd]; omega)) HI0.out.drew ?body ?done
  case body =>
    rintro l pre v A hpre hI
    have hmem : v ∈ vals sx := hpre.subset (List.mem_append_right pre (List.mem_singleton.2 rfl))
    have hv6 : v < 6 := vals_lt6 hsx hmem
    have hpm : ∀ x ∈ pre, x < 6 := fun x hx => vals_lt6 hsx (hpre.subset (List.mem_append_left _ hx))
    have hplen : pre.length + 1 ≤ 6 := by
      have h1 := hpre.length_le
      have h2 := vals_len hsx
      simp at h1
      omega
    obtain ⟨st, hst⟩ : ∃ st, pre.foldl (cutStep (cutTo os vars dn m (i + 1)) os old q) (s, zero6) = st := ⟨_, rfl⟩
    rw [hst] at hI
    have hstep : (pre ++ [v]).foldl (cutStep (cutTo os vars dn m (i + 1)) os old q) (s, zero6) = cutStep (cutTo os vars dn m (i + 1)) os old q st v := by rw [List.foldl_append, hst]; rfl
    rw [hstep]
    obtain ⟨hcs, hs6, hsx6⟩ := cutFold os q (cutTo os vars dn m (i + 1)) old (cnt m) B s Hs.out (fun v s' B' hv hB' hs' => cutTo_ok os vars dn hd64 m (i + 1) (nodeAt os old v) s' B' (by omega) (Hlev.out.2 v hv) hs') pre hpm st hst
    have hpc : B + pre.length * cnt m + cnt m ≤ 100000 := by
      have h1 : pre.length * cnt m ≤ 5 * cnt m := Nat.mul_le_mul_right _ (by omega)
      have e : cnt (m + 1) = 6 * cnt m + 1 := rfl
      omega
    obtain ⟨nvk, hCk, hnk, hnN⟩ := hI.cut
    obtain ⟨x, hx⟩ : ∃ x, nodeAt os old v = x := ⟨_, rfl⟩
    obtain ⟨r, hre⟩ : ∃ r, cutTo os vars dn m (i + 1) x st.1 = r := ⟨_, rfl⟩
    have hlx : levOk os m x := by rw [← hx]; exact Hlev.out.2 v hv6
    have hrok := cutTo_ok os vars dn hd64 m (i + 1) x st.1 (B + pre.length * cnt m) (by omega) hlx hcs
    rw [hre] at hrok
    obtain ⟨st', hst'⟩ : ∃ st', cutStep (cutTo os vars dn m (i + 1)) os old q st v = st' := ⟨_, rfl⟩
    have hst2 : st' = (r.1.mark q v r.2, st.2.set v r.2) := by rw [← hst']; unfold cutStep; rw [hx, hre]
    rw [hst']
    have Hst2 := hd hst2
    clear hst hstep hst' hst2 hpre hmem aC aV aD HI0 hpm
    have hdisk : ∀ k, (k = G ∨ k = g ∨ (Value.slice (some ⟨og, 0, none⟩) os.length ocap).ownBlock = some k) → ¬ FC C b M Mv nvk k := fun k hk hF => by
      have hkl := HD.out.lt hk
      rcases hF with h | h | h | h | h
      · exact Hdis.out k hk (.inl h)
      · exact Hdis.out k hk (.inr (.inl h))
      · exact Hdis.out k hk (.inr (.inr (.inl h)))
      · exact Hdis.out k hk (.inr (.inr (.inr (.inl h))))
      · rcases hnk k h with h1 | h1
        · exact Hdis.out k hk (.inr (.inr (.inr (.inr h1))))
        · omega
    have hDA : DAt A G g cap (.slice (some ⟨og, 0, none⟩) os.length ocap) vars os root := HD.out.fr hI.fr Hdis.out
    have hxA : A.cell? ⟨og, old * 6 + v, none⟩ = some (.int .i64 (x : Int)) := by
      rw [← hx]
      exact (hI.fr.cell hogl (Hdis.out og (.inr (.inr rfl)))).trans (Hoc.out old v Hlev.out.1 hv6)
    have hK0 : CBox A.drew w.heap.size C old i ∧ A.drew.cell? ⟨C, 1, none⟩ = some (.pointer (some ⟨G, 0, none⟩)) ∧ A.drew.cell? ⟨G, 1, none⟩ = some (.slice (some ⟨og, 0, none⟩) os.length ocap) ∧ A.drew.cell? ⟨og, old * 6 + v, none⟩ = some (.int .i64 (x : Int)) := ⟨⟨hI.bx.b0, hI.bx.b1, hI.bx.b2⟩, hCk.blk.cell 1, hDA.blk.cell 1, hxA⟩
    have HI := hd hI
    have HCk := hd hCk
    have Hre := hd hre
    have Hx := hd hx
    have HDA := hd hDA
    have HxA := hd hxA
    have hol' : (old : Int) < (os.length : Int) := by have := Hlev.out.1; omega
    have ho0' : (0 : Int) ≤ (old : Int) := by omega
    have hv0' : (0 : Int) ≤ (v : Int) := by omega
    have hv6' : (v : Int) < 6 := by omega
    clear hI hCk hre hx hDA hxA
    gi_wp2_with fail
    refine wpIn_H (S := fun w'' => CBox w'' w.heap.size C old i ∧ w''.cell? ⟨C, 1, none⟩ = some (.pointer (some ⟨G, 0, none⟩)) ∧ w''.cell? ⟨G, 1, none⟩ = some (.slice (some ⟨og, 0, none⟩) os.length ocap) ∧ w''.cell? ⟨og, old * 6 + v, none⟩ = some (.int .i64 (x : Int))) (by kernel_rfl) (fun a w h => h) ?_
    refine wpAnyH_take (i := 0) (v := .int .i64 (v : Int)) rfl (by kernel_rfl) (by kernel_rfl) (by kernel_rfl) (fun _ _ _ h => h) (.inl ⟨by kernel_rfl, fun w'' hS => by kernel_rfl⟩) hK0 ?_
    refine wpAnyH_take (i := 1) (v := .pointer (some ⟨C, 0, none⟩)) rfl (by kernel_rfl) (by kernel_rfl) (by kernel_rfl) (fun _ _ _ h => h) (.inl ⟨by kernel_rfl, fun w'' hS => ?_⟩) hK0 ?_
    · have q0 : w''.cell? ⟨w.heap.size, 0, none⟩ = some (.pointer (some ⟨C, 0, none⟩)) := hS.1.b0.cell 0
      clear hK0 hS hv hd64 hcnt hmf hlt hv0 hv8 hvI hfU hbF hnk hnN hplen hcs hs6 hsx6 hrok hdisk
      simp only [Act.put, List.setIfInBounds_toArray, List.set_cons_zero, List.set_cons_succ, List.getElem_toArray, List.getElem_cons_zero, List.getElem_cons_succ]
      go_simp
    refine wpAnyH_take (i := 2) (v := .pointer (some ⟨C, 0, none⟩)) rfl (by kernel_rfl) (by kernel_rfl) (by kernel_rfl) (fun _ _ _ h => h) (.inl ⟨by kernel_rfl, fun w'' hS => ?_⟩) hK0 ?_
    · have q0 : w''.cell? ⟨w.heap.size, 0, none⟩ = some (.pointer (some ⟨C, 0, none⟩)) := hS.1.b0.cell 0
      clear hK0 hS hv hd64 hcnt hmf hlt hv0 hv8 hvI hfU hbF hnk hnN hplen hcs hs6 hsx6 hrok hdisk
      simp only [Act.put, List.setIfInBounds_toArray, List.set_cons_zero, List.set_cons_succ, List.getElem_toArray, List.getElem_cons_zero, List.getElem_cons_succ]
      go_simp
    refine wpAnyH_take (i := 3) (v := .pointer (some ⟨C, 0, none⟩)) rfl (by kernel_rfl) (by kernel_rfl) (by kernel_rfl) (fun _ _ _ h => h) (.inl ⟨by kernel_rfl, fun w'' hS => by kernel_rfl⟩) hK0 ?_
    refine wpAnyH_take (i := 4) (v := .pointer (some ⟨C, 1, none⟩)) rfl (by kernel_rfl) (by kernel_rfl) (by kernel_rfl) (fun _ _ _ h => h) (.inl ⟨by kernel_rfl, fun w'' hS => by kernel_rfl⟩) hK0 ?_
    refine wpAnyH_take (i := 5) (v := .pointer (some ⟨G, 0, none⟩)) rfl (by kernel_rfl) (by kernel_rfl) (by kernel_rfl) (fun _ _ _ h => h) (.inl ⟨by kernel_rfl, fun w'' hS => ?_⟩) hK0 ?_
    · have q0 := hS.2.1
      clear hK0 hS hv hd64 hcnt hmf hlt hv0 hv8 hvI hfU hbF hnk hnN hplen hcs hs6 hsx6 hrok hdisk
      simp only [Act.put, List.setIfInBounds_toArray, List.set_cons_zero, List.set_cons_succ, List.getElem_toArray, List.getElem_cons_zero, List.getElem_cons_succ]
      go_simp
    refine wpAnyH_take (i := 6) (v := .pointer (some ⟨G, 0, none⟩)) rfl (by kernel_rfl) (by kernel_rfl) (by kernel_rfl) (fun _ _ _ h => h) (.inl ⟨by kernel_rfl, fun w'' hS => by kernel_rfl⟩) hK0 ?_
    refine wpAnyH_take (i := 7) (v := .pointer (some ⟨G, 1, none⟩)) rfl (by kernel_rfl) (by kernel_rfl) (by kernel_rfl) (fun _ _ _ h => h) (.inl ⟨by kernel_rfl, fun w'' hS => by kernel_rfl⟩) hK0 ?_
    refine wpAnyH_take (i := 8) (v := .slice (some ⟨og, 0, none⟩) os.length ocap) rfl (by kernel_rfl) (by kernel_rfl) (by kernel_rfl) (fun _ _ _ h => h) (.inl ⟨by kernel_rfl, fun w'' hS => ?_⟩) hK0 ?_
    · have q0 := hS.2.2.1
      clear hK0 hS hv hd64 hcnt hmf hlt hv0 hv8 hvI hfU hbF hnk hnN hplen hcs hs6 hsx6 hrok hdisk
      simp only [Act.put, List.setIfInBounds_toArray, List.set_cons_zero, List.set_cons_succ, List.getElem_toArray, List.getElem_cons_zero, List.getElem_cons_succ]
      go_simp
    refine wpAnyH_take (i := 9) (v := .int .i64 (old : Int)) rfl (by kernel_rfl) (by kernel_rfl) (by kernel_rfl) (fun _ _ _ h => h) (.inl ⟨by kernel_rfl, fun w'' hS => ?_⟩) hK0 ?_
    · have q0 : w''.cell? ⟨w.heap.size + 1, 0, none⟩ = some (.int .i64 (old : Int)) := hS.1.b1.cell 0
      clear hK0 hS hv hd64 hcnt hmf hlt hv0 hv8 hvI hfU hbF hnk hnN hplen hcs hs6 hsx6 hrok hdisk
      simp only [Act.put, List.setIfInBounds_toArray, List.set_cons_zero, List.set_cons_succ, List.getElem_toArray, List.getElem_cons_zero, List.getElem_cons_succ]
      go_simp
    refine wpAnyH_take (i := 10) (v := .int .i64 (v : Int)) rfl (by kernel_rfl) (by kernel_rfl) (by kernel_rfl) (fun _ _ _ h => h) (.inl ⟨by kernel_rfl, fun w'' hS => by kernel_rfl⟩) hK0 ?_
    refine wpAnyH_take (i := 11) (v := .pointer (some ⟨og, old * 6, none⟩)) rfl (by kernel_rfl) (by kernel_rfl) (by kernel_rfl) (fun _ _ _ h => h) (.inl ⟨by kernel_rfl, fun w'' hS => ?_⟩) hK0 ?_
    · clear hK0 hS hv hd64 hcnt hmf hlt hv0 hv8 hvI hfU hbF hnk hnN hplen hcs hs6 hsx6 hrok hdisk
      simp only [Act.put, List.setIfInBounds_toArray, List.set_cons_zero, List.set_cons_succ, List.getElem_toArray, List.getElem_cons_zero, List.getElem_cons_succ]
      go_simp
    refine wpAnyH_take (i := 12) (v := .pointer (some ⟨og, old * 6, none⟩)) rfl (by kernel_rfl) (by kernel_rfl) (by kernel_rfl) (fun _ _ _ h => h) (.inl ⟨by kernel_rfl, fun w'' hS => by kernel_rfl⟩) hK0 ?_
    refine wpAnyH_take (i := 13) (v := .pointer (some ⟨og, old * 6 + v, none⟩)) rfl (by kernel_rfl) (by kernel_rfl) (by kernel_rfl) (fun _ _ _ h => h) (.inl ⟨by kernel_rfl, fun w'' hS => ?_⟩) hK0 ?_
    · clear hK0 hS hv hd64 hcnt hmf hlt hv0 hv8 hvI hfU hbF hnk hnN hplen hcs hs6 hsx6 hrok hdisk
      simp only [Act.put, List.setIfInBounds_toArray, List.set_cons_zero, List.set_cons_succ, List.getElem_toArray, List.getElem_cons_zero, List.getElem_cons_succ]
      go_simp
    refine wpAnyH_take (i := 14) (v := .int .i64 (x : Int)) rfl (by kernel_rfl) (by kernel_rfl) (by kernel_rfl) (fun _ _ _ h => h) (.inl ⟨by kernel_rfl, fun w'' hS => ?_⟩) hK0 ?_
    · have q0 := hS.2.2.2
      clear hK0 hS hv hd64 hcnt hmf hlt hv0 hv8 hvI hfU hbF hnk hnN hplen hcs hs6 hsx6 hrok hdisk
      simp only [Act.put, List.setIfInBounds_toArray, List.set_cons_zero, List.set_cons_succ, List.getElem_toArray, List.getElem_cons_zero, List.getElem_cons_succ]
      go_simp
    refine wpAnyH_take (i := 15) (v := .int .i64 (i : Int)) rfl (by kernel_rfl) (by kernel_rfl) (by kernel_rfl) (fun _ _ _ h => h) (.inl ⟨by kernel_rfl, fun w'' hS => ?_⟩) hK0 ?_
    · have q0 : w''.cell? ⟨w.heap.size + 1 + 1, 0, none⟩ = some (.int .i64 (i : Int)) := hS.1.b2.cell 0
      clear hK0 hS hv hd64 hcnt hmf hlt hv0 hv8 hvI hfU hbF hnk hnN hplen hcs hs6 hsx6 hrok hdisk
      simp only [Act.put, List.setIfInBounds_toArray, List.set_cons_zero, List.set_cons_succ, List.getElem_toArray, List.getElem_cons_zero, List.getElem_cons_succ]
      go_simp
    refine wpAnyH_take (i := 16) (v := .int .i64 ((i + 1 : Nat) : Int)) rfl (by kernel_rfl) (by kernel_rfl) (by kernel_rfl) (fun _ _ _ h => h) (.inl ⟨by kernel_rfl, fun w'' hS => ?_⟩) hK0 ?_
    · clear hK0 hS hv hd64 hcnt hmf hlt hv0 hv8 hvI hfU hbF hnk hnN hplen hcs hs6 hsx6 hrok hdisk
      simp only [Act.put, List.setIfInBounds_toArray, List.set_cons_zero, List.set_cons_succ, List.getElem_toArray, List.getElem_cons_zero, List.getElem_cons_succ]
      go_simp
      rw [IntKind.wrap_i64]
      omega
    refine wpAnyH_take (i := 18) (v := .pointer (some ⟨W.heap.size, 0, none⟩)) rfl (by kernel_rfl) (by kernel_rfl) (by kernel_rfl) (fun _ _ _ h => h) (.inl ⟨by kernel_rfl, fun w'' hS => by kernel_rfl⟩) hK0 ?_
    refine wpAnyH_all (rs := [17]) (by kernel_rfl) (by simp) (fun j hj => ?_)
    obtain rfl : j = 17 := by simpa using hj
    refine op_enter (f := 110) (args := #[.pointer (some ⟨C, 0, none⟩), .int .i64 (x : Int), .int .i64 ((i + 1 : Nat) : Int)]) (w' := A.drew) rfl (by kernel_rfl) (by kernel_rfl) ?_
    refine (Hih.out x st.1 nvk (B + pre.length * cnt m) A.drew (by omega) hpc hcs hlx HCk.out.drew (HDA.out.nw ((Fr.refl _ A).drew)) hdisk).mono ?_
    rw [Hre.out]
    rintro e A2 ⟨rfl, nv2, hC2, hf2, hn2⟩
    have hf2' : Fr (FC C b M Mv nvk) A A2 := hf2.of_drew
    have hn2' : ∀ k, nv2.ownBlock = some k → nvk.ownBlock = some k ∨ A.heap.size ≤ k := hn2
    have hAs : W.heap.size < A.heap.size := HI.out.bN.lt
    have hAU : U.heap.size < A.heap.size := HI.out.bV.lt
    have hWs := HsW.out
    have hUs := HsU.out
    have hbxN : ∀ k, w.heap.size ≤ k → k ≤ w.heap.size + 2 → ¬ FC C b M Mv nvk k := fun k h1 h2 => by
      have hk : k = w.heap.size ∨ k = w.heap.size + 1 ∨ k = w.heap.size + 1 + 1 := by omega
      rcases hk with rfl | rfl | rfl
      · exact HCk.out.other HI.out.bx.b0 (by decide) (by decide) (by decide)
      · exact HCk.out.other HI.out.bx.b1 (by decide) (by decide) (by decide)
      · exact HCk.out.other HI.out.bx.b2 (by decide) (by decide) (by decide)
    have hNnF : ¬ FC C b M Mv nvk W.heap.size := by
      have hCl := HC.out.lt (.inl rfl)
      have hbl := HC.out.lt (.inr (.inr (.inl rfl)))
      rintro (h | h | h | h | h)
      · omega
      · omega
      · omega
      · omega
      · exact hnN h
    have hVF : ¬ FC C b M Mv nvk U.heap.size := HCk.out.other HI.out.bV (by decide) (by decide) (by decide)
    have hbx2 : CBox A2 w.heap.size C old i := HI.out.bx.fr hf2' hbxN
    have hN2 : Blk A2 W.heap.size (nodeC st.2).toArray 154 := HI.out.bN.fr hf2' hNnF
    have hV2 : Blk A2 U.heap.size #[.int .i64 (q : Int)] 3 := HI.out.bV.fr hf2' hVF
    have hD2 : DAt A2 G g cap (.slice (some ⟨og, 0, none⟩) os.length ocap) vars os root := HDA.out.fr hf2' hdisk
    have hx2 : A2.cell? ⟨og, old * 6 + v, none⟩ = some (.int .i64 (x : Int)) := (hf2'.cell (HDA.out.lt (.inr (.inr rfl))) (hdisk og (.inr (.inr rfl)))).trans HxA.out
    have hS2 : CBox A2 w.heap.size C old i ∧ A2.cell? ⟨C, 1, none⟩ = some (.pointer (some ⟨G, 0, none⟩)) ∧ A2.cell? ⟨G, 1, none⟩ = some (.slice (some ⟨og, 0, none⟩) os.length ocap) ∧ A2.cell? ⟨og, old * 6 + v, none⟩ = some (.int .i64 (x : Int)) := ⟨hbx2, hC2.blk.cell 1, hD2.blk.cell 1, hx2⟩
    refine ⟨_, rfl, hS2, ?_⟩
    refine wpAnyH_all (rs := [19]) (by kernel_rfl) (by simp) (fun j hj => ?_)
    obtain rfl : j = 19 := by simpa using hj
    refine op_value (v := .pointer (some ⟨W.heap.size, v, none⟩)) (w' := A2) rfl (by kernel_rfl) ?_ ⟨hS2, ?_⟩
    · clear hK0 hv hd64 hcnt hmf hlt hv0 hv8 hvI hfU hbF hnk hnN hplen hcs hs6 hsx6 hrok hdisk hf2 hf2' hn2 hn2' hAs hAU hWs hUs hbxN hNnF hVF hbx2 hN2 hV2 hD2 hx2 hS2 hC2
      simp only [Act.put, List.setIfInBounds_toArray, List.set_cons_zero, List.set_cons_succ, List.getElem_toArray, List.getElem_cons_zero, List.getElem_cons_succ]
      go_simp
    refine wpAnyH_all (rs := [20]) (by kernel_rfl) (by simp) (fun j hj => ?_)
    obtain rfl : j = 20 := by simpa using hj
    have hvl : v < (nodeC st.2).toArray.size := by simp [nodeC, hs6]; omega
    obtain ⟨ov, hcN⟩ : ∃ ov, A2.cell? ⟨W.heap.size, v, none⟩ = some ov := ⟨_, (hN2.cell v).trans (Array.getElem?_eq_getElem hvl)⟩
    have hfN := hN2.free v
    obtain ⟨A3, hA3⟩ : ∃ A3, A3 = A2.setCell ⟨W.heap.size, v, none⟩ (.int .i64 (r.2 : Int)) := ⟨_, rfl⟩
    have hf3 : Fr (fun k => k = W.heap.size) A2 A3 := by rw [hA3]; exact (Fr.refl _ A2).setCell _ _ (.inl rfl)
    have hbx3 : CBox A3 w.heap.size C old i := hbx2.fr hf3 (fun k h1 h2 e => by omega)
    have hN3 : Blk A3 W.heap.size (nodeC (st.2.set v r.2)).toArray 154 := by
      rw [hA3]
      have h5 := hN2.set v (.int .i64 (r.2 : Int))
      have e5 : (nodeC st.2).toArray.setIfInBounds v (.int .i64 (r.2 : Int)) = (nodeC (st.2.set v r.2)).toArray := by simp [nodeC, List.map_set]
      rw [e5] at h5
      exact h5
    have hFCN : ∀ k, FC C b M Mv nv2 k → k ≠ W.heap.size := fun k hk e => by
      have hCl := HC.out.lt (.inl rfl)
      have hbl := HC.out.lt (.inr (.inr (.inl rfl)))
      rcases hk with h | h | h | h | h
      · omega
      · omega
      · omega
      · omega
      · rcases hn2' k h with h1 | h1
        · exact hnN (by rw [← e]; exact h1)
        · omega
    have hC3 : CutAt A3 C b M Mv G nv2 dn r.1 := hC2.fr hf3 hFCN
    have hWo : ∀ k, (k = G ∨ k = g ∨ (Value.slice (some ⟨og, 0, none⟩) os.length ocap).ownBlock = some k) → k ≠ W.heap.size := fun k hk => by have := HD.out.lt hk; omega
    have hS3 : CBox A3 w.heap.size C old i ∧ A3.cell? ⟨C, 1, none⟩ = some (.pointer (some ⟨G, 0, none⟩)) ∧ A3.cell? ⟨G, 1, none⟩ = some (.slice (some ⟨og, 0, none⟩) os.length ocap) ∧ A3.cell? ⟨og, old * 6 + v, none⟩ = some (.int .i64 (x : Int)) := ⟨hbx3, hC3.blk.cell 1, (hD2.fr hf3 hWo).blk.cell 1, (hf3.cell (hD2.lt (.inr (.inr rfl))) (hWo og (.inr (.inr rfl)))).trans hx2⟩
    refine op_skip (w' := A3) rfl (by kernel_rfl) ?_ ⟨hS3, wpAnyH_done (by kernel_rfl) ?_ _⟩
    · rw [hA3]
      clear hK0 hv hd64 hcnt hmf hlt hv0 hv8 hvI hfU hbF hnk hnN hplen hcs hs6 hsx6 hrok hdisk hf2 hf2' hn2 hn2' hAs hAU hWs hUs hbxN hNnF hVF hbx2 hN2 hV2 hD2 hx2 hS2 hC2 hA3 hf3 hbx3 hN3 hFCN hC3 hWo hS3
      simp only [Act.put, List.setIfInBounds_toArray, List.set_cons_zero, List.set_cons_succ, List.getElem_toArray, List.getElem_cons_zero, List.getElem_cons_succ]
      go_simp
    simp only [Act.put, List.setIfInBounds_toArray, List.set_cons_zero, List.set_cons_succ, List.getElem_toArray, List.getElem_cons_zero, List.getElem_cons_succ]
    have hrN : A3.cell? ⟨W.heap.size, v, none⟩ = some (.int .i64 (r.2 : Int)) := by
      rw [hN3.cell]
      simp [nodeC, hs6, hv6]
    have hV3 : Blk A3 U.heap.size #[.int .i64 (q : Int)] 3 := hV2.fr hf3 (by omega)
    have hFA3 : Fr (fun k => FC C b M Mv nvk k ∨ k = W.heap.size) A A3 := (hf2'.mono (fun k h => .inl (.inl h))).trans hf3 (fun k h => .inl (.inr h))
    have hFw : Fr (FC C b M Mv nv) w A3 := HI.out.fr.trans hFA3 (fun k h => by
      rcases h with h | h
      · rcases h with h | h | h | h | h
        · exact .inl (.inl h)
        · exact .inl (.inr (.inl h))
        · exact .inl (.inr (.inr (.inl h)))
        · exact .inl (.inr (.inr (.inr (.inl h))))
        · rcases hnk k h with h1 | h1
          · exact .inl (.inr (.inr (.inr (.inr h1))))
          · exact .inr h1
      · exact .inr (by omega))
    have hkp : KeepsLD A A3 := hFA3.keepsM (fun k hk => by
      rcases hk with hk | rfl
      · exact HCk.out.loopy k hk
      · exact ⟨_, HI.out.bN, rfl⟩)
    have hnk2 : ∀ k, nv2.ownBlock = some k → nv.ownBlock = some k ∨ w.heap.size ≤ k := fun k hk => by
      rcases hn2' k hk with h | h
      · exact hnk k h
      · exact .inr (by omega)
    have hnN2 : nv2.ownBlock ≠ some W.heap.size := fun e => by
      rcases hn2' _ e with h | h
      · exact hnN h
      · omega
    have HC3 := hd hC3
    have Hbx3 := hd hbx3
    have HN3 := hd hN3
    have HV3 := hd hV3
    have HFw := hd hFw
    have Hkp := hd hkp
    have hs8r := hrok.1.sp
    have hsr6 := hrok.1.sp6 q
    clear hC3 hbx3 hN3 hV3 hFw hkp hFA3 hS3 hS2 hx2 hD2 hV2 hN2 hbx2 hC2 hf2 hf2' hf3 hA3 hcN hfN hWo hFCN hbxN hNnF hVF hK0 hdisk HxA HDA hWs hUs
    by_cases hr0 : r.2 = 0
    · have hr0' : ((r.2 : Int) != 0) = false := by simp [hr0]
      have Hr0 := hd hr0
      clear hr0
      simp only [Exit.then]
      gi_wp2
      refine ⟨Hkp.out, ?_⟩
      show CutI ..
      rw [Hst2.out]
      refine ⟨HFw.out, Hbx3.out, HN3.out, HV3.out, ⟨nv2, ?_, hnk2, hnN2⟩⟩
      have em : r.1.mark q v r.2 = r.1 := by rw [CS.mark, if_pos Hr0.out]
      rw [em]
      exact HC3.out
    · have hr0' : ((r.2 : Int) != 0) = true := by simp [hr0]
      have Hr0 := hd hr0
      clear hr0
      have b0 : A3.cell? ⟨w.heap.size, 0, none⟩ = some (.pointer (some ⟨C, 0, none⟩)) := Hbx3.out.b0.cell 0
      have bV' : A3.cell? ⟨U.heap.size, 0, none⟩ = some (.int .i64 (q : Int)) := HV3.out.cell 0
      have bS' : A3.cell? ⟨C, 10 + q, none⟩ = some (.int .u8 (r.1.sp.getD q 0 : Nat)) := (HC3.out.blk.cell _).trans (cutCells_sp _ _ _ _ _ _ h8 hs8r hq8)
      have fS' := HC3.out.blk.free (10 + q)
      obtain ⟨acc, hacce⟩ : ∃ acc, r.1.sp.getD q 0 = acc := ⟨_, rfl⟩
      rw [hacce] at bS' hsr6
      have hpv : 2 ^ v < 64 := Nat.pow_lt_pow_right (m := v) (n := 6) (by omega) hv6
      have hor := u8_or_nat acc (2 ^ v) (by omega) (by omega)
      have hone := one_any v A3.drew (by omega)
      obtain ⟨pv, hpve⟩ : ∃ pv, 2 ^ v = pv := ⟨_, rfl⟩
      rw [hpve] at hpv hor hone
      have Hone := hd hone
      have Hpve := hd hpve
      have Hacce := hd hacce
      have hq0' : (0 : Int) ≤ (q : Int) := by omega
      have hq8' : (q : Int) < 8 := by omega
      clear hpve hone hacce
      simp only [Exit.then]
      gi_wp2_with fail
      refine wpIn_tail 12 (by kernel_rfl) (by kernel_rfl) (fun a w h => h) ?_
      simp only [List.take_succ_cons, List.take_zero, List.drop_succ_cons, List.drop_zero]
      still_step
      still_step
      still_step
      still_step
      still_step
      still_step
      still_step
      still_call Hone.out
      repeat still_step
      refine wpStill_nil ?_
      go_wp2
      gi_wp2
      have hWs := HsW.out
      have hF : Fr (fun k => k = C) A3 (A3.setCell ⟨C, 10 + q, none⟩ (.int .u8 ((acc ||| pv : Nat) : Int))).drew := ((Fr.refl (fun k => k = C) A3).setCell ⟨C, 10 + q, none⟩ _ (.inl rfl)).drew
      have hCC : ∀ k, k = C → ∃ o, A3.heap[k]? = some o ∧ loopy o = false := fun k hk => HC3.out.loopy k (.inl hk)
      have hCl := HC.out.lt (.inl rfl)
      refine ⟨Hkp.out.trans (hF.keepsM hCC), ?_⟩
      show CutI ..
      rw [Hst2.out]
      refine ⟨HFw.out.trans hF (fun k h => .inl (.inl h)), Hbx3.out.fr hF (fun k h1 h2 e => by omega), HN3.out.fr hF (by omega), HV3.out.fr hF (by have := HsU.out; omega), ⟨nv2, ?_, hnk2, hnN2⟩⟩
      have em : r.1.mark q v r.2 = ⟨r.1.ns, r.1.sp.set q (acc ||| pv), r.1.mv, r.1.c⟩ := by rw [CS.mark, if_neg Hr0.out, Hacce.out, Hpve.out]
      rw [em]
      obtain ⟨ff, hmm, hff⟩ := HC3.out.mov
      have hne1 : Mv ≠ C := fun e => by subst e; exact hmm.ne HC3.out.blk rfl
      refine ⟨?_, HC3.out.bld.fr hF (fun e => ?_) (fun e => ?_) (fun k hk e => ?_), ⟨ff, hmm.fr hF hne1, hff⟩, HC3.out.ne⟩
      · have h5 := HC3.out.blk.set (10 + q) (.int .u8 ((acc ||| pv : Nat) : Int))
        rw [cutCells_set _ _ _ _ _ _ _ h8 hs8r hq8] at h5
        exact h5.drew
      · subst e
        have := (HC3.out.bld.blk.inj HC3.out.blk).2
        revert this
        decide
      · subst e
        obtain ⟨f2, hm2, _⟩ := HC3.out.bld.map
        exact hm2.ne HC3.out.blk rfl
      · subst e
        exact HC3.out.bld.other HC3.out.blk (by decide) (by decide) (.inr (.inr hk))
  case done =>
    rintro D A hD hI hK
    rw [Hfin.out] at hI
    have hvl := vals_len hsx
    have hm6 : (vals sx).length * cnt m ≤ 6 * cnt m := Nat.mul_le_mul_right _ hvl
    have ecnt : cnt (m + 1) = 6 * cnt m + 1 := rfl
    obtain ⟨hcs, hs6, hsx6⟩ := cutFold os q (cutTo os vars dn m (i + 1)) old (cnt m) B s Hs.out (fun v s' B' hv hB' hs' => cutTo_ok os vars dn hd64 m (i + 1) (nodeAt os old v) s' B' (by omega) (Hlev.out.2 v hv) hs') (vals sx) (fun x hx => vals_lt6 hsx hx) fin Hfin.out
    have hok : NodeOk fin.2 := ⟨hs6, fun x hx => by have := hsx6 x hx; omega⟩
    obtain ⟨n0, n1, n2, n3, n4, n5, hf6⟩ := list6 hs6
    obtain ⟨nvk, hCk, hnk, hnN⟩ := hI.cut
    have hnv6 : nodeV fin.2 = .agg #[.int .i64 (n0 : Int), .int .i64 (n1 : Int), .int .i64 (n2 : Int), .int .i64 (n3 : Int), .int .i64 (n4 : Int), .int .i64 (n5 : Int)] := by rw [hf6]; rfl
    have hnum := numberTo_len fin.1.ns hcs.two fin.2
    have hWs := HsW.out
    have hCl := HC.out.lt (.inl rfl)
    have hbl := HC.out.lt (.inr (.inr (.inl rfl)))
    have hDle : w.heap.size ≤ D := by
      have : Z.heap.size ≤ D := hD
      omega
    have hK0 : CBox A.drew w.heap.size C old i ∧ A.drew.cell? ⟨C, 18, none⟩ = some (.map (some Mv)) ∧ A.drew.cell? ⟨C, 0, none⟩ = some (.pointer (some ⟨b, 0, none⟩)) ∧ Blk A.drew W.heap.size (nodeC fin.2).toArray 154 := ⟨⟨hI.bx.b0, hI.bx.b1, hI.bx.b2⟩, (hCk.blk.cell 18).trans (cutCells_mv _ _ _ _ _ h8 hcs.sp), hCk.blk.cell 0, hI.bN⟩
    have HI := hd hI
    have HCk := hd hCk
    have Hf6 := hd hf6
    have Hnv6 := hd hnv6
    have hNnP : ¬ FP b M nvk W.heap.size := by
      rintro (h | h | h)
      · omega
      · omega
      · exact hnN h
    have hCP : ¬ FP b M nvk C := hCk.bld.other hCk.blk (by decide) (by decide)
    have hbxP : ∀ k, w.heap.size ≤ k → k ≤ w.heap.size + 2 → ¬ FP b M nvk k := fun k h1 h2 => by
      have hk : k = w.heap.size ∨ k = w.heap.size + 1 ∨ k = w.heap.size + 1 + 1 := by omega
      rcases hk with rfl | rfl | rfl
      · exact hCk.bld.other hI.bx.b0 (by decide) (by decide)
      · exact hCk.bld.other hI.bx.b1 (by decide) (by decide)
      · exact hCk.bld.other hI.bx.b2 (by decide) (by decide)
    clear hI hCk hf6 hnv6 aC aV aD HI0 hWs
    gi_upto_region 13 with fail
    refine wpIn_wide.2 ?_
    refine wp_region_noPanic ?_
    refine wp_region_held (S := fun w'' => CBox w'' w.heap.size C old i ∧ w''.cell? ⟨C, 18, none⟩ = some (.map (some Mv)) ∧ w''.cell? ⟨C, 0, none⟩ = some (.pointer (some ⟨b, 0, none⟩)) ∧ Blk w'' W.heap.size (nodeC fin.2).toArray 154) (by kernel_rfl) ?_
    refine wpAnyH_take (i := 0) (v := .pointer (some ⟨C, 0, none⟩)) rfl (by kernel_rfl) (by kernel_rfl) (by kernel_rfl) (fun _ _ _ h => h) (.inl ⟨by kernel_rfl, fun w'' hS => ?_⟩) hK0 ?_
    · have q0 : w''.cell? ⟨w.heap.size, 0, none⟩ = some (.pointer (some ⟨C, 0, none⟩)) := hS.1.b0.cell 0
      clear hK0 hS hv hd64 hcnt hmf hlt hv0 hv8 hvI hfU hbF hnk hnN hcs hs6 hsx6 hok hnum hK hD
      simp only [List.getElem_toArray, List.getElem_cons_zero]
      go_simp
    refine wpAnyH_take (i := 1) (v := .pointer (some ⟨C, 0, none⟩)) rfl (by kernel_rfl) (by kernel_rfl) (by kernel_rfl) (fun _ _ _ h => h) (.inl ⟨by kernel_rfl, fun w'' hS => by kernel_rfl⟩) hK0 ?_
    refine wpAnyH_take (i := 2) (v := .pointer (some ⟨C, 18, none⟩)) rfl (by kernel_rfl) (by kernel_rfl) (by kernel_rfl) (fun _ _ _ h => h) (.inl ⟨by kernel_rfl, fun w'' hS => by kernel_rfl⟩) hK0 ?_
    refine wpAnyH_take (i := 3) (v := .map (some Mv)) rfl (by kernel_rfl) (by kernel_rfl) (by kernel_rfl) (fun _ _ _ h => h) (.inl ⟨by kernel_rfl, fun w'' hS => ?_⟩) hK0 ?_
    · have q0 := hS.2.1
      clear hK0 hS hv hd64 hcnt hmf hlt hv0 hv8 hvI hfU hbF hnk hnN hcs hs6 hsx6 hok hnum hK hD
      simp only [Act.put, List.setIfInBounds_toArray, List.set_cons_zero, List.set_cons_succ, List.getElem_toArray, List.getElem_cons_zero, List.getElem_cons_succ]
      go_simp
    refine wpAnyH_take (i := 4) (v := .int .i64 (old : Int)) rfl (by kernel_rfl) (by kernel_rfl) (by kernel_rfl) (fun _ _ _ h => h) (.inl ⟨by kernel_rfl, fun w'' hS => ?_⟩) hK0 ?_
    · have q0 : w''.cell? ⟨w.heap.size + 1, 0, none⟩ = some (.int .i64 (old : Int)) := hS.1.b1.cell 0
      clear hK0 hS hv hd64 hcnt hmf hlt hv0 hv8 hvI hfU hbF hnk hnN hcs hs6 hsx6 hok hnum hK hD
      simp only [Act.put, List.setIfInBounds_toArray, List.set_cons_zero, List.set_cons_succ, List.getElem_toArray, List.getElem_cons_zero, List.getElem_cons_succ]
      go_simp
    refine wpAnyH_take (i := 5) (v := .pointer (some ⟨C, 0, none⟩)) rfl (by kernel_rfl) (by kernel_rfl) (by kernel_rfl) (fun _ _ _ h => h) (.inl ⟨by kernel_rfl, fun w'' hS => ?_⟩) hK0 ?_
    · have q0 : w''.cell? ⟨w.heap.size, 0, none⟩ = some (.pointer (some ⟨C, 0, none⟩)) := hS.1.b0.cell 0
      clear hK0 hS hv hd64 hcnt hmf hlt hv0 hv8 hvI hfU hbF hnk hnN hcs hs6 hsx6 hok hnum hK hD
      simp only [Act.put, List.setIfInBounds_toArray, List.set_cons_zero, List.set_cons_succ, List.getElem_toArray, List.getElem_cons_zero, List.getElem_cons_succ]
      go_simp
    refine wpAnyH_take (i := 6) (v := .pointer (some ⟨C, 0, none⟩)) rfl (by kernel_rfl) (by kernel_rfl) (by kernel_rfl) (fun _ _ _ h => h) (.inl ⟨by kernel_rfl, fun w'' hS => by kernel_rfl⟩) hK0 ?_
    refine wpAnyH_take (i := 7) (v := .pointer (some ⟨C, 0, none⟩)) rfl (by kernel_rfl) (by kernel_rfl) (by kernel_rfl) (fun _ _ _ h => h) (.inl ⟨by kernel_rfl, fun w'' hS => by kernel_rfl⟩) hK0 ?_
    refine wpAnyH_take (i := 8) (v := .pointer (some ⟨b, 0, none⟩)) rfl (by kernel_rfl) (by kernel_rfl) (by kernel_rfl) (fun _ _ _ h => h) (.inl ⟨by kernel_rfl, fun w'' hS => ?_⟩) hK0 ?_
    · have q0 := hS.2.2.1
      clear hK0 hS hv hd64 hcnt hmf hlt hv0 hv8 hvI hfU hbF hnk hnN hcs hs6 hsx6 hok hnum hK hD
      simp only [Act.put, List.setIfInBounds_toArray, List.set_cons_zero, List.set_cons_succ, List.getElem_toArray, List.getElem_cons_zero, List.getElem_cons_succ]
      go_simp
    refine wpAnyH_take (i := 9) (v := .agg #[.int .i64 (n0 : Int), .int .i64 (n1 : Int), .int .i64 (n2 : Int), .int .i64 (n3 : Int), .int .i64 (n4 : Int), .int .i64 (n5 : Int)]) rfl (by kernel_rfl) (by kernel_rfl) (by kernel_rfl) (fun _ _ _ h => h) (.inl ⟨by kernel_rfl, fun w'' hS => ?_⟩) hK0 ?_
    · have q0 : w''.cell? ⟨W.heap.size, 0, none⟩ = some (.int .i64 (n0 : Int)) := by rw [hS.2.2.2.cell, Hf6.out]; rfl
      have q1 : w''.cell? ⟨W.heap.size, 1, none⟩ = some (.int .i64 (n1 : Int)) := by rw [hS.2.2.2.cell, Hf6.out]; rfl
      have q2 : w''.cell? ⟨W.heap.size, 2, none⟩ = some (.int .i64 (n2 : Int)) := by rw [hS.2.2.2.cell, Hf6.out]; rfl
      have q3 : w''.cell? ⟨W.heap.size, 3, none⟩ = some (.int .i64 (n3 : Int)) := by rw [hS.2.2.2.cell, Hf6.out]; rfl
      have q4 : w''.cell? ⟨W.heap.size, 4, none⟩ = some (.int .i64 (n4 : Int)) := by rw [hS.2.2.2.cell, Hf6.out]; rfl
      have q5 : w''.cell? ⟨W.heap.size, 5, none⟩ = some (.int .i64 (n5 : Int)) := by rw [hS.2.2.2.cell, Hf6.out]; rfl
      clear hK0 hS hv hd64 hcnt hmf hlt hv0 hv8 hvI hfU hbF hnk hnN hcs hs6 hsx6 hok hnum hK hD
      simp only [Act.put, List.setIfInBounds_toArray, List.set_cons_zero, List.set_cons_succ, List.getElem_toArray, List.getElem_cons_zero, List.getElem_cons_succ]
      go_simp
    refine wpAnyH_all (rs := [10]) (by kernel_rfl) (by simp) (fun j hj => ?_)
    obtain rfl : j = 10 := by simpa using hj
    refine op_enter (f := 84) (args := #[.pointer (some ⟨b, 0, none⟩), .agg #[.int .i64 (n0 : Int), .int .i64 (n1 : Int), .int .i64 (n2 : Int), .int .i64 (n3 : Int), .int .i64 (n4 : Int), .int .i64 (n5 : Int)]]) (w' := A.drew) rfl (by kernel_rfl) (by kernel_rfl) ?_
    rw [← Hnv6.out]
    refine (number_any b M nvk fin.1.ns fin.2 A.drew HCk.out.bld.drew hok (by have := hcs.ns; omega)).mono ?_
    rintro e A1 ⟨rfl, nv2, hB1, hf1, hn1⟩
    have hf1' : Fr (FP b M nvk) A A1 := Fr.of_drew hf1
    have hn1' : ∀ k, nv2.ownBlock = some k → nvk.ownBlock = some k ∨ A.heap.size ≤ k := hn1
    obtain ⟨ff, hmm, hff⟩ := HCk.out.mov
    have hMvP : ¬ FP b M nvk Mv := by
      rintro (h | h | h)
      · exact hmm.ne HCk.out.bld.blk h.symm
      · exact HCk.out.ne h
      · rcases HCk.out.bld.row.2 with ⟨h', _⟩ | ⟨g', cap', cur', h', _, hg', _⟩
        · rw [h'] at h; cases h
        · rw [h'] at h
          cases h
          exact hmm.ne (show Blk A g' cur' 154 from hg') rfl
    have hmm1 := hmm.fr hf1' hMvP
    have hblk1 := HCk.out.blk.fr hf1' hCP
    have hN1 := HI.out.bN.fr hf1' hNnP
    have hbx1 := HI.out.bx.fr hf1' hbxP
    have hS1 : CBox A1 w.heap.size C old i ∧ A1.cell? ⟨C, 18, none⟩ = some (.map (some Mv)) ∧ A1.cell? ⟨C, 0, none⟩ = some (.pointer (some ⟨b, 0, none⟩)) ∧ Blk A1 W.heap.size (nodeC fin.2).toArray 154 := ⟨hbx1, (hblk1.cell 18).trans (cutCells_mv _ _ _ _ _ h8 hcs.sp), hblk1.cell 0, hN1⟩
    refine ⟨_, rfl, hS1, ?_⟩
    refine wpAnyH_all (rs := [11]) (by kernel_rfl) (by simp) (fun j hj => ?_)
    obtain rfl : j = 11 := by simpa using hj
    obtain ⟨A2, hst, hm2, hf2⟩ := NumMap.store (w := A1) (t := 178) hmm1 intKeyed Try.underlying178 (by have := hcs.c; unfold maxLen; omega) (int_key old ho32) (numberTo fin.1.ns fin.2).2 (by have := hcs.ns; omega)
    have hMvl' : Mv < w.heap.size := hMvl
    have hMC : C ≠ Mv := hmm1.ne hblk1
    have hblk2 := hblk1.fr hf2 hMC
    have hbx2 := hbx1.fr hf2 (fun k h1 h2 e => by omega)
    have hN2 := hN1.fr hf2 (by have := HsW.out; omega)
    have hS2 : CBox A2 w.heap.size C old i ∧ A2.cell? ⟨C, 18, none⟩ = some (.map (some Mv)) ∧ A2.cell? ⟨C, 0, none⟩ = some (.pointer (some ⟨b, 0, none⟩)) ∧ Blk A2 W.heap.size (nodeC fin.2).toArray 154 := ⟨hbx2, (hblk2.cell 18).trans (cutCells_mv _ _ _ _ _ h8 hcs.sp), hblk2.cell 0, hN2⟩
    refine op_skip (w' := A2) rfl (by kernel_rfl) ?_ ⟨hS2, wpAnyH_done (by kernel_rfl) (NoPanic.normal ?_) _⟩
    · simp only [Act.put, List.setIfInBounds_toArray, List.set_cons_zero, List.set_cons_succ, List.getElem_toArray, List.getElem_cons_zero, List.getElem_cons_succ]
      exact exec_mapUpdate (.tmp 85) (.tmp 86) (.tmp 92) 178 rfl hst
    simp only [Act.put, List.setIfInBounds_toArray, List.set_cons_zero, List.set_cons_succ, List.getElem_toArray, List.getElem_cons_zero, List.getElem_cons_succ]
    have hB2' : Bld A2 b M nv2 (numberTo fin.1.ns fin.2).1 := hB1.fr hf2 (fun e => hmm1.ne hB1.blk e) (fun e => HCk.out.ne e.symm) (fun k hk e => by
      subst e
      rcases hB1.row.2 with ⟨h', _⟩ | ⟨g', cap', cur', h', _, hg', _⟩
      · rw [h'] at hk; cases hk
      · rw [h'] at hk
        cases hk
        exact hmm1.ne (show Blk A1 g' cur' 154 from hg') rfl)
    have hC2 : CutAt A2 C b M Mv G nv2 dn (fin.1.put fin.2 old).1 := by
      refine ⟨hblk2, hB2', ⟨_, hm2, fun k hk => ?_⟩, HCk.out.ne⟩
      show _ = if k = old then some (numberTo fin.1.ns fin.2).2 else fin.1.mv k
      by_cases hko : k = old
      · subst hko
        rw [if_pos rfl, if_pos rfl]
      · rw [if_neg hko, if_neg (fun e => hko (by injection e with _ e; omega))]
        exact hff k hk
    have hFw2 : Fr (FC C b M Mv nv) w A2 := by
      refine ((HI.out.fr.trans hf1' (fun k h => ?_)).trans hf2 (fun k h => .inl (.inr (.inl h))))
      rcases h with h | h | h
      · exact .inl (.inr (.inr (.inl h)))
      · exact .inl (.inr (.inr (.inr (.inl h))))
      · rcases hnk k h with h1 | h1
        · exact .inl (.inr (.inr (.inr (.inr h1))))
        · exact .inr h1
    have hAs : w.heap.size ≤ A.heap.size := HI.out.fr.size
    have hnk2 : ∀ k, nv2.ownBlock = some k → nv.ownBlock = some k ∨ w.heap.size ≤ k := fun k hk => by
      rcases hn1' k hk with h | h
      · exact hnk k h
      · exact .inr (by omega)
    have hK1 := (Fr.keepsM hf1' HCk.out.bld.loopy).same D _ hK rfl
    have hK2 := (Fr.keepsM hf2 (fun k hk => by subst hk; exact hmm1.map)).same D _ hK1 rfl
    have hl2 : (Instr.lookup 178 (.map (some Mv)) (.int .i64 (old : Int)) false).run Try.prog A2.drew = .ok (.int .i64 ((numberTo fin.1.ns fin.2).2 : Nat)) A2.drew := by
      have := NumMap.look (w := A2.drew) (t := 178) hm2 intKeyed Try.underlying178 (int_key old ho32)
      rw [if_pos rfl, Option.getD_some] at this
      exact this
    have d0 : A2.cell? ⟨w.heap.size, 0, none⟩ = some (.pointer (some ⟨C, 0, none⟩)) := hbx2.b0.cell 0
    have d1 : A2.cell? ⟨w.heap.size + 1, 0, none⟩ = some (.int .i64 (old : Int)) := hbx2.b1.cell 0
    have d2 : A2.cell? ⟨C, 18, none⟩ = some (.map (some Mv)) := hS2.2.1
    have HC2 := hd hC2
    have HFw2 := hd hFw2
    have HK2 := hd hK2
    have Hnk2 := hd hnk2
    have hput : (fin.1.put fin.2 old).2 = (numberTo fin.1.ns fin.2).2 := rfl
    obtain ⟨num, hnm⟩ : ∃ num, (numberTo fin.1.ns fin.2).2 = num := ⟨_, rfl⟩
    have Hnm := hd hnm
    rw [hnm] at hl2 hput
    have Hput := hd hput
    clear hC2 hFw2 hK2 hK1 hnk2 hS2 hS1 hB2' hN2 hbx2 hblk2 hm2 hst hf2 hN1 hbx1 hblk1 hmm1 hmm hff hf1 hf1' hB1 hn1 hn1' hK0 hK hnum hok hcs hs6 hsx6 hnk hnN hbxP hCP hNnP hMvP hnm hput Hih Hlev Hoc
    simp only [Exit.then]
    gi_upto_region 14 with fail
    refine wpIn_wide.2 ?_
    go_still (by kernel_rfl)
    go_wp2
    gi_wp2
    have hKd : A2.drew.heap[D]? = some (.deferred (some [])) := HK2.out
    refine ⟨by simp, .inl ⟨_, _, rfl, run_takeDeferred hKd, ?_⟩⟩
    exact ⟨_, results_tmp rfl _ _ _, by rw [Hput.out]; rfl, nv2, HC2.out.drew.bk (Bk.put (.deferred none) hDle hKd rfl) hMl hMvl, HFw2.out.drew.bk (Bk.put (.deferred none) hDle hKd rfl) (Nat.le_refl _), Hnk2.out⟩

/-- cut at any entry. -/
theorem cut_any (C b M Mv G g cap : Nat) (onv : Value) (vars : List Int) (os : List (List Nat)) (root : Nat) (dn : List Nat) (h8 : dn.length = 8) (h4 : vars.length ≤ 4) (hv : ∀ i, i < vars.length → 0 ≤ vars.getD i 0 ∧ vars.getD i 0 < 8)
    (hd64 : ∀ q, dn.getD q 0 < 64) (hol : os.length ≤ 100000) : ∀ m i, i + m = vars.length → CutOk C b M Mv G g cap onv vars os root dn m i
  | 0, i, _, old, s, nv, B, w, _, _, _, hlev, hC, _, _ => by
    refine (cut_small C old i w hlev).mono ?_
    rintro e w' ⟨rfl, hf⟩
    exact ⟨rfl, nv, hC.nw hf, hf.mono (fun i h => h.elim), fun k hk => .inl hk⟩
  | m + 1, i, hm, old, s, nv, B, w, hB2, hcnt, hs, hlev, hC, hD, hdis => by
    by_cases ho : old < 2
    · refine (cut_small C old i w ho).mono ?_
      rintro e w' ⟨rfl, hf⟩
      rw [cutTo, if_pos ho]
      exact ⟨rfl, nv, hC.nw hf, hf.mono (fun i h => h.elim), fun k hk => .inl hk⟩
    · have hlev' : old < os.length ∧ ∀ v, v < 6 → levOk os m (nodeAt os old v) := by
        rcases hlev with h1 | h1
        · exact absurd (by omega) ho
        · exact h1.2
      cases hmv : s.mv old with
      | some k =>
        refine (cut_known C b M Mv G nv dn s old i k w h8 hC hs.sp ho (by omega) hmv).mono ?_
        rintro e w' ⟨rfl, hf⟩
        rw [cutTo, if_neg ho, hmv]
        exact ⟨rfl, nv, hC.nw hf, hf.mono (fun i h => h.elim), fun k hk => .inl hk⟩
      | none => exact cut_go C b M Mv G g cap onv vars os root dn m i h8 h4 hv hd64 hol (by omega) (cut_any C b M Mv G g cap onv vars os root dn h8 h4 hv hd64 hol m (i + 1) (by omega)) old s nv B w hB2 hcnt hs ho hmv hlev' hC hD hdis
end Go.Proofs.Ytkjfpdfkcfgfkaa

/- Contract of diagram.Narrow and diagram.State. -/
namespace Go.Proofs.Ytkjfpdfkcfgfkaa
open Go.RowKit Go.Maps

theorem exec_store {P : Program} {ev : Operand → Value} {op : Oper} {w : World} (ty : TypeId) (x y : Operand) (ho : op.op = .store ty x y) (b o : Nat) (cells : Array Value) (hx : ev x = .pointer (some ⟨b, o, none⟩)) (hy : ev y = .agg cells)
    (ht : w.there b o cells.size) (hi : (P.info? ty).map (·.size) = some cells.size) (h1 : cells.all (·.oneCell') = true) : (execOp ev op).run P w = .ok .skip (w.setCells b o cells.toList) := by
  unfold execOp
  simp only [ho, hx, hy, Instr.storeAt, Instr.sureAddr, Sem.run_bind, Sem.run_pure, Result.andThen_ok, run_storeVar_mid w b o ty cells ht hi h1]
theorem Fr.setCells {S : Nat → Prop} {a : World} (C : Nat) (hC : S C ∨ a.heap.size ≤ C) : ∀ (vs : List Value) (o : Nat) (b : World), Fr S a b → Fr S a (b.setCells C o vs)
  | [], _, _, h => h
  | v :: r, o, _, h => Fr.setCells C hC r (o + 1) _ (h.setCell ⟨C, o, none⟩ v hC)
def setFrom : Array Value → Nat → List Value → Array Value
  | cur, _, [] => cur
  | cur, o, v :: r => setFrom (cur.setIfInBounds o v) (o + 1) r
theorem Blk.setCells {C : Nat} {e : TypeId} : ∀ (vs : List Value) (o : Nat) (w : World) (cur : Array Value), Blk w C cur e → Blk (w.setCells C o vs) C (setFrom cur o vs) e
  | [], _, _, _, h => h
  | v :: r, o, _, _, h => Blk.setCells r (o + 1) _ _ (h.set o v)
theorem setFrom_list : ∀ (vs : List Value) (cur : Array Value) (o : Nat), o + vs.length ≤ cur.size → (setFrom cur o vs).toList = cur.toList.take o ++ (vs ++ cur.toList.drop (o + vs.length))
  | [], cur, o, _ => by simp [setFrom]
  | v :: r, cur, o, h => by
    simp only [List.length_cons] at h
    rw [setFrom, setFrom_list r (cur.setIfInBounds o v) (o + 1) (by simp; omega)]
    have h1 : (cur.setIfInBounds o v).toList = cur.toList.set o v := by simp
    rw [h1, List.take_succ_eq_append_getElem (by simp; omega)]
    simp only [List.getElem_set_self, List.length_cons, List.append_assoc, List.cons_append, List.nil_append]
    rw [List.take_set_of_le (Nat.le_refl _), List.drop_set_of_lt (by omega), show o + 1 + r.length = o + (r.length + 1) by omega]
theorem Blk.fill {w : World} {C : Nat} {e : TypeId} {cur : Array Value} (h : Blk w C cur e) (vs : List Value) (hl : cur.size = vs.length) : Blk (w.setCells C 0 vs) C vs.toArray e := by
  have h1 := Blk.setCells vs 0 w cur h
  have h2 : setFrom cur 0 vs = vs.toArray := by
    apply Array.ext'
    rw [setFrom_list vs cur 0 (by omega)]
    simp [hl]
  rw [h2] at h1
  exact h1
theorem Blk.there {w : World} {C : Nat} {e : TypeId} {cur : Array Value} (h : Blk w C cur e) : w.there C 0 cur.size := fun j hj => by
  rw [Nat.zero_add]
  exact ⟨by rw [h.cell]; simp [hj], h.free j⟩
theorem cutCells_one (b G : Nat) (dn sp : List Nat) (Mv : Nat) : (cutCells b G dn sp Mv).all (·.oneCell') = true := all_oneCell_toArray (fun v hv => by
  simp only [List.mem_cons, List.mem_append, List.mem_map, List.not_mem_nil, or_false] at hv
  rcases hv with rfl | rfl | ⟨_, _, rfl⟩ | ⟨_, _, rfl⟩ | rfl <;> rfl)
theorem Blk.put8' {b : World} {g : Nat} {e : TypeId} {n : List Nat} {v0 v1 v2 v3 v4 v5 v6 v7 : Value} (h : Blk b g (domV zero8) e) (hn : domV n = #[v0, v1, v2, v3, v4, v5, v6, v7]) :
    Blk ((((((((b.setCell ⟨g, 0, none⟩ v0).setCell ⟨g, 1, none⟩ v1).setCell ⟨g, 2, none⟩ v2).setCell ⟨g, 3, none⟩ v3).setCell ⟨g, 4, none⟩ v4).setCell ⟨g, 5, none⟩ v5).setCell ⟨g, 6, none⟩ v6).setCell ⟨g, 7, none⟩ v7) g (domV n) e := by
  have h1 := Blk.set8 (cur := #[Value.int .u8 0, Value.int .u8 0, Value.int .u8 0, Value.int .u8 0, Value.int .u8 0, Value.int .u8 0, Value.int .u8 0, Value.int .u8 0]) h 0 1 2 3 4 5 6 7 v0 v1 v2 v3 v4 v5 v6 v7
  rw [arr8] at h1
  rw [hn]
  exact h1
/-- The cells of a cutter that holds nothing. -/
def zero19 : Array Value := #[.pointer none, .pointer none, .int .u8 0, .int .u8 0, .int .u8 0, .int .u8 0, .int .u8 0, .int .u8 0, .int .u8 0, .int .u8 0, .int .u8 0, .int .u8 0, .int .u8 0, .int .u8 0, .int .u8 0, .int .u8 0, .int .u8 0, .int .u8 0, .map none]

def s0 : CS := ⟨[zero6, zero6], zero8, fun _ => none, 0⟩
/-- What a diagram makes of domains: the cutter behind it, its new root; and the domains. -/
def dCut (os : List (List Nat)) (root : Nat) (vars : List Int) (dn : List Nat) : CS × Nat := cutTo os vars dn vars.length 0 root s0
def dDom (os : List (List Nat)) (root : Nat) (vars : List Int) (dn : List Nat) : List Nat := replTo vars dn (dCut os root vars dn).1.sp vars.length

set_option maxHeartbeats 6400000 in
set_option maxRecDepth 1000000 in
theorem dNarrow_any (G g cap : Nat) (onv : Value) (vars : List Int) (os : List (List Nat)) (root : Nat) (dn : List Nat) (w : World) (hD : DAt w G g cap onv vars os root) (h8 : dn.length = 8) (h4 : vars.length ≤ 4) (hv : ∀ i, i < vars.length → 0 ≤ vars.getD i 0 ∧ vars.getD i 0 < 8)
    (hd64 : ∀ q, dn.getD q 0 < 64) (hol : os.length ≤ 100000) (hlev : levOk os vars.length root) :
    Calls Try.prog 107 #[.pointer (some ⟨G, 0, none⟩), .agg (domV dn)] w fun e w' => e = .returned (.agg (domV (dDom os root vars dn))) ∧ Fr (fun k => k = G) w w' ∧
      ∃ nv', DAt w' G g cap nv' vars (dCut os root vars dn).1.ns (dCut os root vars dn).2 ∧ (∀ k, nv'.ownBlock = some k → w.heap.size ≤ k) := by
  obtain ⟨v0, v1, v2, v3, v4, v5, v6, v7, hdv⟩ := domV8 h8
  obtain ⟨⟨x0, rfl⟩, ⟨x1, rfl⟩, ⟨x2, rfl⟩, ⟨x3, rfl⟩, ⟨x4, rfl⟩, ⟨x5, rfl⟩, ⟨x6, rfl⟩, ⟨x7, rfl⟩⟩ := domV_one dn hdv
  have hGlt := hD.blk.lt
  obtain ⟨W, hW⟩ : ∃ W, W = (w.alloc (.cells (domV dn) 76)).alloc (.cells (domV zero8) 76) := ⟨_, rfl⟩
  have hfW : Nw w W := by rw [hW]; exact ((Fr.refl _ w).alloc _).alloc _
  have hbD : Blk W w.heap.size (domV dn) 76 := by rw [hW]; exact (Blk.new _ _ _).alloc _
  have hbR : Blk W (w.heap.size + 1) (domV zero8) 76 := by
    rw [hW]
    have := Blk.new (w.alloc (.cells (domV dn) 76)) (domV zero8) 76
    rw [alsz] at this
    exact this
  have hsW : W.heap.size = w.heap.size + 2 := by rw [hW]; simp
  have HW := hd hW
  have HbD := hd hbD
  have HbR := hd hbR
  have HsW := hd hsW
  have Hdv := hd hdv
  have HD := hd hD
  clear hW hbD hbR hsW hdv hD
  go_enter Try.func107, Try.ntmps107
  go_upto_region 1 with fail
  rw [show (w.alloc (Obj.cells (domV dn) 76)).alloc (Obj.cells #[Value.int .u8 0, .int .u8 0, .int .u8 0, .int .u8 0, .int .u8 0, .int .u8 0, .int .u8 0, .int .u8 0] 76) = W from HW.out.symm]
  clear HW
  go_cut [5] (fun p wx => ∃ C b M Mv nv, p = .pointer (some ⟨C, 0, none⟩) ∧ Hid (CutAt wx C b M Mv G nv dn s0) ∧ Nw W wx ∧ ∀ k, FC C b M Mv nv k → W.heap.size ≤ k)
  case first =>
    have hK0 : Blk W.drew w.heap.size (domV dn) 76 := HbD.out.drew
    refine wp_region_held (S := fun w'' => Blk w'' w.heap.size (domV dn) 76) (by kernel_rfl) ?_
    refine wpAnyH_take (i := 1) (v := .pointer (some ⟨G, 0, none⟩)) rfl (by kernel_rfl) (by kernel_rfl) (by kernel_rfl) (fun _ _ _ h => h) (.inl ⟨by kernel_rfl, fun w'' hS => by kernel_rfl⟩) hK0 ?_
    refine wpAnyH_take (i := 2) (v := .agg (domV dn)) rfl (by kernel_rfl) (by kernel_rfl) (by kernel_rfl) (fun _ _ _ h => h) (.inl ⟨by kernel_rfl, fun w'' hS => ?_⟩) hK0 ?_
    · obtain ⟨q0, q1, q2, q3, q4, q5, q6, q7⟩ := cells8 (Hdv.out ▸ hS)
      clear hS hK0 hv hd64
      rw [Hdv.out]
      simp only [Act.put, List.setIfInBounds_toArray, List.set_cons_zero, List.set_cons_succ, List.getElem_toArray, List.getElem_cons_zero, List.getElem_cons_succ]
      go_simp
    have hX0 : Nw W W.drew := (Fr.refl _ W).drew
    have hTl : w.heap.size < W.heap.size := HbD.out.lt
    have hfinal : ∀ (X : World) (b M Mv C : Nat) (nv1 : Value), Nw W X → Bld X b M nv1 [zero6, zero6] → NumMap X 3 Mv 0 (fun _ => none) → Mv ≠ M → Blk X C zero19 180 → W.heap.size ≤ C → W.heap.size ≤ b → W.heap.size ≤ M → W.heap.size ≤ Mv → (∀ k, nv1.ownBlock = some k → W.heap.size ≤ k) →
        CutAt (X.setCells C 0 (cutCells b G dn zero8 Mv).toList) C b M Mv G nv1 dn s0 ∧ Nw W (X.setCells C 0 (cutCells b G dn zero8 Mv).toList) ∧ (∀ k, FC C b M Mv nv1 k → W.heap.size ≤ k) ∧ Blk (X.setCells C 0 (cutCells b G dn zero8 Mv).toList) w.heap.size (domV dn) 76 := fun X b M Mv C nv1 hX hB hm hne hC hCl hbl hMl hMvl hnl => by
      have hf := Fr.setCells (S := fun k => k = C) (a := X) C (.inl rfl) (cutCells b G dn zero8 Mv).toList 0 X (Fr.refl _ X)
      have hfill := hC.fill (cutCells b G dn zero8 Mv).toList (by simp [zero19, cutCells, h8, zero8])
      refine ⟨⟨by show Blk _ C (cutCells b G dn zero8 Mv) _; simpa using hfill, hB.fr hf (fun e => ?_) (fun e => ?_) (fun k hk e => ?_), ⟨_, hm.fr hf (fun e => hm.ne hC e.symm), fun _ _ => rfl⟩, hne⟩, Fr.setCells C (.inr hCl) _ 0 X hX, ?_, (HbD.out.nw hX).fr hf (by omega)⟩
      · exact hB.other hC (by decide) (by decide) (.inl e.symm)
      · exact hB.other hC (by decide) (by decide) (.inr (.inl e.symm))
      · exact hB.other hC (by decide) (by decide) (.inr (.inr (by rw [← e]; exact hk)))
      · rintro k (rfl | rfl | rfl | rfl | h)
        · exact hCl
        · exact hMvl
        · exact hbl
        · exact hMl
        · exact hnl k h
    refine wpAnyH_all (rs := [0, 3, 5]) (by kernel_rfl) (by simp) (fun j hj => ?_)
    have hj' : j = 0 ∨ j = 3 ∨ j = 5 := by simpa using hj
    rcases hj' with rfl | rfl | rfl
    · refine op_enter (f := 73) (args := #[]) (w' := W.drew) rfl (by kernel_rfl) (by kernel_rfl) ?_
      refine (newBuilder_any W.drew).mono ?_
      rintro e X1 ⟨b, M, nv1, rfl, hB, hst, hbl, hMl, hnl⟩
      have hw0 : Nw W X1 := hX0.trans hst (fun i h => h.elim)
      have hz0 : W.heap.size ≤ (W.drew).heap.size := hX0.size
      refine ⟨_, rfl, HbD.out.nw hw0, ?_⟩
      refine wpAnyH_all (rs := [3, 5]) (by kernel_rfl) (by simp) (fun j hj => ?_)
      have hj' : j = 3 ∨ j = 5 := by simpa using hj
      rcases hj' with rfl | rfl
      · obtain ⟨X2, hX2⟩ : ∃ X, X = (X1).alloc (.map #[] 0) := ⟨_, rfl⟩
        have hst : Nw (X1) X2 := by rw [hX2]; exact (Fr.refl _ _).alloc _
        have hm : NumMap X2 3 (X1).heap.size 0 (fun _ => none) := by rw [hX2]; exact NumMap.made _ _
        have hw1 : Nw W X2 := hw0.trans hst (fun i h => h.elim)
        have hz1 : W.heap.size ≤ (X1).heap.size := hw0.size
        have hMlt : M < (X1).heap.size := hB.lt (.inr (.inl rfl))
        have hB := hB.nw hst
        refine op_value (v := .map (some (X1).heap.size)) (w' := X2) rfl (by kernel_rfl) (by rw [hX2]; kernel_rfl) ⟨HbD.out.nw hw1, ?_⟩
        clear hX2
        refine wpAnyH_take (i := 4) (v := .agg (cutCells b G dn zero8 ((X1).heap.size))) rfl (by kernel_rfl) (by kernel_rfl) (by kernel_rfl) (fun _ _ _ h => h) (.inl ⟨by kernel_rfl, fun w'' hS => ?_⟩) (HbD.out.nw hw1) ?_
        · obtain ⟨e0, e1, e2, e3, e4, e5, e6, e7, hde⟩ := list8 h8
          rw [hde]
          kernel_rfl
        refine wpAnyH_all (rs := [5]) (by kernel_rfl) (by simp) (fun j hj => ?_)
        obtain rfl : j = 5 := by simpa using hj
        obtain ⟨X3, hX3⟩ : ∃ X, X = (X2).alloc (.cells zero19 180) := ⟨_, rfl⟩
        have hst : Nw (X2) X3 := by rw [hX3]; exact (Fr.refl _ _).alloc _
        have hC : Blk X3 (X2).heap.size zero19 180 := by rw [hX3]; exact Blk.new _ _ _
        have hw2 : Nw W X3 := hw1.trans hst (fun i h => h.elim)
        have hz2 : W.heap.size ≤ (X2).heap.size := hw1.size
        have hB := hB.nw hst
        have hm := hm.nw hst
        refine op_value (v := .pointer (some ⟨(X2).heap.size, 0, none⟩)) (w' := X3) rfl (by kernel_rfl) (by rw [hX3]; kernel_rfl) ⟨HbD.out.nw hw2, ?_⟩
        clear hX3
        have hne : (X1).heap.size ≠ M := by
          have h1 : M < (X1).heap.size := hMlt
          omega
        refine wpAnyH_all (rs := [6]) (by kernel_rfl) (by simp) (fun j hj => ?_)
        obtain rfl : j = 6 := by simpa using hj
        obtain ⟨hcut, hnw, hfc, hT⟩ := hfinal X3 b M ((X1).heap.size) ((X2).heap.size) nv1 hw2 hB hm hne hC (by omega) (by omega) (by omega) (by omega) (fun k hk => by have := hnl k hk; omega)
        refine op_skip (w' := (X3).setCells ((X2).heap.size) 0 (cutCells b G dn zero8 ((X1).heap.size)).toList) rfl (by kernel_rfl) ?_ ⟨hT, wpAnyH_done (by kernel_rfl) ?_ _⟩
        · simp only [Act.put, List.setIfInBounds_toArray, List.set_cons_zero, List.set_cons_succ, List.getElem_toArray, List.getElem_cons_zero, List.getElem_cons_succ]
          exact exec_store 180 (.tmp 5) (.tmp 11) rfl ((X2).heap.size) 0 (cutCells b G dn zero8 ((X1).heap.size)) rfl rfl (by rw [cutCells_size _ _ _ _ _ h8 rfl]; exact hC.there) (by rw [cutCells_size _ _ _ _ _ h8 rfl]; kernel_rfl) (cutCells_one ..)
        simp only [Act.put, List.setIfInBounds_toArray, List.set_cons_zero, List.set_cons_succ, List.getElem_toArray, List.getElem_cons_zero, List.getElem_cons_succ]
        go_wp2_with fail
        go_meet
        case rel => exact ⟨_, b, M, _, nv1, rfl, hcut, hnw, hfc⟩
      · obtain ⟨X2, hX2⟩ : ∃ X, X = (X1).alloc (.cells zero19 180) := ⟨_, rfl⟩
        have hst : Nw (X1) X2 := by rw [hX2]; exact (Fr.refl _ _).alloc _
        have hC : Blk X2 (X1).heap.size zero19 180 := by rw [hX2]; exact Blk.new _ _ _
        have hw1 : Nw W X2 := hw0.trans hst (fun i h => h.elim)
        have hz1 : W.heap.size ≤ (X1).heap.size := hw0.size
        have hB := hB.nw hst
        refine op_value (v := .pointer (some ⟨(X1).heap.size, 0, none⟩)) (w' := X2) rfl (by kernel_rfl) (by rw [hX2]; kernel_rfl) ⟨HbD.out.nw hw1, ?_⟩
        clear hX2
        refine wpAnyH_all (rs := [3]) (by kernel_rfl) (by simp) (fun j hj => ?_)
        obtain rfl : j = 3 := by simpa using hj
        obtain ⟨X3, hX3⟩ : ∃ X, X = (X2).alloc (.map #[] 0) := ⟨_, rfl⟩
        have hst : Nw (X2) X3 := by rw [hX3]; exact (Fr.refl _ _).alloc _
        have hm : NumMap X3 3 (X2).heap.size 0 (fun _ => none) := by rw [hX3]; exact NumMap.made _ _
        have hw2 : Nw W X3 := hw1.trans hst (fun i h => h.elim)
        have hz2 : W.heap.size ≤ (X2).heap.size := hw1.size
        have hMlt : M < (X2).heap.size := hB.lt (.inr (.inl rfl))
        have hB := hB.nw hst
        have hC := hC.nw hst
        refine op_value (v := .map (some (X2).heap.size)) (w' := X3) rfl (by kernel_rfl) (by rw [hX3]; kernel_rfl) ⟨HbD.out.nw hw2, ?_⟩
        clear hX3
        refine wpAnyH_take (i := 4) (v := .agg (cutCells b G dn zero8 ((X2).heap.size))) rfl (by kernel_rfl) (by kernel_rfl) (by kernel_rfl) (fun _ _ _ h => h) (.inl ⟨by kernel_rfl, fun w'' hS => ?_⟩) (HbD.out.nw hw2) ?_
        · obtain ⟨e0, e1, e2, e3, e4, e5, e6, e7, hde⟩ := list8 h8
          rw [hde]
          kernel_rfl
        have hne : (X2).heap.size ≠ M := by
          have h1 : M < (X2).heap.size := hMlt
          omega
        refine wpAnyH_all (rs := [6]) (by kernel_rfl) (by simp) (fun j hj => ?_)
        obtain rfl : j = 6 := by simpa using hj
        obtain ⟨hcut, hnw, hfc, hT⟩ := hfinal X3 b M ((X2).heap.size) ((X1).heap.size) nv1 hw2 hB hm hne hC (by omega) (by omega) (by omega) (by omega) (fun k hk => by have := hnl k hk; omega)
        refine op_skip (w' := (X3).setCells ((X1).heap.size) 0 (cutCells b G dn zero8 ((X2).heap.size)).toList) rfl (by kernel_rfl) ?_ ⟨hT, wpAnyH_done (by kernel_rfl) ?_ _⟩
        · simp only [Act.put, List.setIfInBounds_toArray, List.set_cons_zero, List.set_cons_succ, List.getElem_toArray, List.getElem_cons_zero, List.getElem_cons_succ]
          exact exec_store 180 (.tmp 5) (.tmp 11) rfl ((X1).heap.size) 0 (cutCells b G dn zero8 ((X2).heap.size)) rfl rfl (by rw [cutCells_size _ _ _ _ _ h8 rfl]; exact hC.there) (by rw [cutCells_size _ _ _ _ _ h8 rfl]; kernel_rfl) (cutCells_one ..)
        simp only [Act.put, List.setIfInBounds_toArray, List.set_cons_zero, List.set_cons_succ, List.getElem_toArray, List.getElem_cons_zero, List.getElem_cons_succ]
        go_wp2_with fail
        go_meet
        case rel => exact ⟨_, b, M, _, nv1, rfl, hcut, hnw, hfc⟩
    · obtain ⟨X1, hX1⟩ : ∃ X, X = (W.drew).alloc (.map #[] 0) := ⟨_, rfl⟩
      have hst : Nw (W.drew) X1 := by rw [hX1]; exact (Fr.refl _ _).alloc _
      have hm : NumMap X1 3 (W.drew).heap.size 0 (fun _ => none) := by rw [hX1]; exact NumMap.made _ _
      have hw0 : Nw W X1 := hX0.trans hst (fun i h => h.elim)
      have hz0 : W.heap.size ≤ (W.drew).heap.size := hX0.size
      refine op_value (v := .map (some (W.drew).heap.size)) (w' := X1) rfl (by kernel_rfl) (by rw [hX1]; kernel_rfl) ⟨HbD.out.nw hw0, ?_⟩
      clear hX1
      refine wpAnyH_all (rs := [0, 5]) (by kernel_rfl) (by simp) (fun j hj => ?_)
      have hj' : j = 0 ∨ j = 5 := by simpa using hj
      rcases hj' with rfl | rfl
      · refine op_enter (f := 73) (args := #[]) (w' := X1) rfl (by kernel_rfl) (by kernel_rfl) ?_
        refine (newBuilder_any X1).mono ?_
        rintro e X2 ⟨b, M, nv1, rfl, hB, hst, hbl, hMl, hnl⟩
        have hw1 : Nw W X2 := hw0.trans hst (fun i h => h.elim)
        have hz1 : W.heap.size ≤ (X1).heap.size := hw0.size
        have hMvlt : (W.drew).heap.size < (X1).heap.size := hm.lt
        have hm := hm.nw hst
        refine ⟨_, rfl, HbD.out.nw hw1, ?_⟩
        refine wpAnyH_take (i := 4) (v := .agg (cutCells b G dn zero8 ((W.drew).heap.size))) rfl (by kernel_rfl) (by kernel_rfl) (by kernel_rfl) (fun _ _ _ h => h) (.inl ⟨by kernel_rfl, fun w'' hS => ?_⟩) (HbD.out.nw hw1) ?_
        · obtain ⟨e0, e1, e2, e3, e4, e5, e6, e7, hde⟩ := list8 h8
          rw [hde]
          kernel_rfl
        refine wpAnyH_all (rs := [5]) (by kernel_rfl) (by simp) (fun j hj => ?_)
        obtain rfl : j = 5 := by simpa using hj
        obtain ⟨X3, hX3⟩ : ∃ X, X = (X2).alloc (.cells zero19 180) := ⟨_, rfl⟩
        have hst : Nw (X2) X3 := by rw [hX3]; exact (Fr.refl _ _).alloc _
        have hC : Blk X3 (X2).heap.size zero19 180 := by rw [hX3]; exact Blk.new _ _ _
        have hw2 : Nw W X3 := hw1.trans hst (fun i h => h.elim)
        have hz2 : W.heap.size ≤ (X2).heap.size := hw1.size
        have hm := hm.nw hst
        have hB := hB.nw hst
        refine op_value (v := .pointer (some ⟨(X2).heap.size, 0, none⟩)) (w' := X3) rfl (by kernel_rfl) (by rw [hX3]; kernel_rfl) ⟨HbD.out.nw hw2, ?_⟩
        clear hX3
        have hne : (W.drew).heap.size ≠ M := by
          have h1 : (X1).heap.size ≤ M := hMl
          have h2 : (W.drew).heap.size < (X1).heap.size := hMvlt
          omega
        refine wpAnyH_all (rs := [6]) (by kernel_rfl) (by simp) (fun j hj => ?_)
        obtain rfl : j = 6 := by simpa using hj
        obtain ⟨hcut, hnw, hfc, hT⟩ := hfinal X3 b M ((W.drew).heap.size) ((X2).heap.size) nv1 hw2 hB hm hne hC (by omega) (by omega) (by omega) (by omega) (fun k hk => by have := hnl k hk; omega)
        refine op_skip (w' := (X3).setCells ((X2).heap.size) 0 (cutCells b G dn zero8 ((W.drew).heap.size)).toList) rfl (by kernel_rfl) ?_ ⟨hT, wpAnyH_done (by kernel_rfl) ?_ _⟩
        · simp only [Act.put, List.setIfInBounds_toArray, List.set_cons_zero, List.set_cons_succ, List.getElem_toArray, List.getElem_cons_zero, List.getElem_cons_succ]
          exact exec_store 180 (.tmp 5) (.tmp 11) rfl ((X2).heap.size) 0 (cutCells b G dn zero8 ((W.drew).heap.size)) rfl rfl (by rw [cutCells_size _ _ _ _ _ h8 rfl]; exact hC.there) (by rw [cutCells_size _ _ _ _ _ h8 rfl]; kernel_rfl) (cutCells_one ..)
        simp only [Act.put, List.setIfInBounds_toArray, List.set_cons_zero, List.set_cons_succ, List.getElem_toArray, List.getElem_cons_zero, List.getElem_cons_succ]
        go_wp2_with fail
        go_meet
        case rel => exact ⟨_, b, M, _, nv1, rfl, hcut, hnw, hfc⟩
      · obtain ⟨X2, hX2⟩ : ∃ X, X = (X1).alloc (.cells zero19 180) := ⟨_, rfl⟩
        have hst : Nw (X1) X2 := by rw [hX2]; exact (Fr.refl _ _).alloc _
        have hC : Blk X2 (X1).heap.size zero19 180 := by rw [hX2]; exact Blk.new _ _ _
        have hw1 : Nw W X2 := hw0.trans hst (fun i h => h.elim)
        have hz1 : W.heap.size ≤ (X1).heap.size := hw0.size
        have hm := hm.nw hst
        refine op_value (v := .pointer (some ⟨(X1).heap.size, 0, none⟩)) (w' := X2) rfl (by kernel_rfl) (by rw [hX2]; kernel_rfl) ⟨HbD.out.nw hw1, ?_⟩
        clear hX2
        refine wpAnyH_all (rs := [0]) (by kernel_rfl) (by simp) (fun j hj => ?_)
        obtain rfl : j = 0 := by simpa using hj
        refine op_enter (f := 73) (args := #[]) (w' := X2) rfl (by kernel_rfl) (by kernel_rfl) ?_
        refine (newBuilder_any X2).mono ?_
        rintro e X3 ⟨b, M, nv1, rfl, hB, hst, hbl, hMl, hnl⟩
        have hw2 : Nw W X3 := hw1.trans hst (fun i h => h.elim)
        have hz2 : W.heap.size ≤ (X2).heap.size := hw1.size
        have hMvlt : (W.drew).heap.size < (X2).heap.size := hm.lt
        have hm := hm.nw hst
        have hC := hC.nw hst
        refine ⟨_, rfl, HbD.out.nw hw2, ?_⟩
        refine wpAnyH_take (i := 4) (v := .agg (cutCells b G dn zero8 ((W.drew).heap.size))) rfl (by kernel_rfl) (by kernel_rfl) (by kernel_rfl) (fun _ _ _ h => h) (.inl ⟨by kernel_rfl, fun w'' hS => ?_⟩) (HbD.out.nw hw2) ?_
        · obtain ⟨e0, e1, e2, e3, e4, e5, e6, e7, hde⟩ := list8 h8
          rw [hde]
          kernel_rfl
        have hne : (W.drew).heap.size ≠ M := by
          have h1 : (X2).heap.size ≤ M := hMl
          have h2 : (W.drew).heap.size < (X2).heap.size := hMvlt
          omega
        refine wpAnyH_all (rs := [6]) (by kernel_rfl) (by simp) (fun j hj => ?_)
        obtain rfl : j = 6 := by simpa using hj
        obtain ⟨hcut, hnw, hfc, hT⟩ := hfinal X3 b M ((W.drew).heap.size) ((X1).heap.size) nv1 hw2 hB hm hne hC (by omega) (by omega) (by omega) (by omega) (fun k hk => by have := hnl k hk; omega)
        refine op_skip (w' := (X3).setCells ((X1).heap.size) 0 (cutCells b G dn zero8 ((W.drew).heap.size)).toList) rfl (by kernel_rfl) ?_ ⟨hT, wpAnyH_done (by kernel_rfl) ?_ _⟩
        · simp only [Act.put, List.setIfInBounds_toArray, List.set_cons_zero, List.set_cons_succ, List.getElem_toArray, List.getElem_cons_zero, List.getElem_cons_succ]
          exact exec_store 180 (.tmp 5) (.tmp 11) rfl ((X1).heap.size) 0 (cutCells b G dn zero8 ((W.drew).heap.size)) rfl rfl (by rw [cutCells_size _ _ _ _ _ h8 rfl]; exact hC.there) (by rw [cutCells_size _ _ _ _ _ h8 rfl]; kernel_rfl) (cutCells_one ..)
        simp only [Act.put, List.setIfInBounds_toArray, List.set_cons_zero, List.set_cons_succ, List.getElem_toArray, List.getElem_cons_zero, List.getElem_cons_succ]
        go_wp2_with fail
        go_meet
        case rel => exact ⟨_, b, M, _, nv1, rfl, hcut, hnw, hfc⟩
    · obtain ⟨X1, hX1⟩ : ∃ X, X = (W.drew).alloc (.cells zero19 180) := ⟨_, rfl⟩
      have hst : Nw (W.drew) X1 := by rw [hX1]; exact (Fr.refl _ _).alloc _
      have hC : Blk X1 (W.drew).heap.size zero19 180 := by rw [hX1]; exact Blk.new _ _ _
      have hw0 : Nw W X1 := hX0.trans hst (fun i h => h.elim)
      have hz0 : W.heap.size ≤ (W.drew).heap.size := hX0.size
      refine op_value (v := .pointer (some ⟨(W.drew).heap.size, 0, none⟩)) (w' := X1) rfl (by kernel_rfl) (by rw [hX1]; kernel_rfl) ⟨HbD.out.nw hw0, ?_⟩
      clear hX1
      refine wpAnyH_all (rs := [0, 3]) (by kernel_rfl) (by simp) (fun j hj => ?_)
      have hj' : j = 0 ∨ j = 3 := by simpa using hj
      rcases hj' with rfl | rfl
      · refine op_enter (f := 73) (args := #[]) (w' := X1) rfl (by kernel_rfl) (by kernel_rfl) ?_
        refine (newBuilder_any X1).mono ?_
        rintro e X2 ⟨b, M, nv1, rfl, hB, hst, hbl, hMl, hnl⟩
        have hw1 : Nw W X2 := hw0.trans hst (fun i h => h.elim)
        have hz1 : W.heap.size ≤ (X1).heap.size := hw0.size
        have hC := hC.nw hst
        refine ⟨_, rfl, HbD.out.nw hw1, ?_⟩
        refine wpAnyH_all (rs := [3]) (by kernel_rfl) (by simp) (fun j hj => ?_)
        obtain rfl : j = 3 := by simpa using hj
        obtain ⟨X3, hX3⟩ : ∃ X, X = (X2).alloc (.map #[] 0) := ⟨_, rfl⟩
        have hst : Nw (X2) X3 := by rw [hX3]; exact (Fr.refl _ _).alloc _
        have hm : NumMap X3 3 (X2).heap.size 0 (fun _ => none) := by rw [hX3]; exact NumMap.made _ _
        have hw2 : Nw W X3 := hw1.trans hst (fun i h => h.elim)
        have hz2 : W.heap.size ≤ (X2).heap.size := hw1.size
        have hMlt : M < (X2).heap.size := hB.lt (.inr (.inl rfl))
        have hC := hC.nw hst
        have hB := hB.nw hst
        refine op_value (v := .map (some (X2).heap.size)) (w' := X3) rfl (by kernel_rfl) (by rw [hX3]; kernel_rfl) ⟨HbD.out.nw hw2, ?_⟩
        clear hX3
        refine wpAnyH_take (i := 4) (v := .agg (cutCells b G dn zero8 ((X2).heap.size))) rfl (by kernel_rfl) (by kernel_rfl) (by kernel_rfl) (fun _ _ _ h => h) (.inl ⟨by kernel_rfl, fun w'' hS => ?_⟩) (HbD.out.nw hw2) ?_
        · obtain ⟨e0, e1, e2, e3, e4, e5, e6, e7, hde⟩ := list8 h8
          rw [hde]
          kernel_rfl
        have hne : (X2).heap.size ≠ M := by
          have h1 : M < (X2).heap.size := hMlt
          omega
        refine wpAnyH_all (rs := [6]) (by kernel_rfl) (by simp) (fun j hj => ?_)
        obtain rfl : j = 6 := by simpa using hj
        obtain ⟨hcut, hnw, hfc, hT⟩ := hfinal X3 b M ((X2).heap.size) ((W.drew).heap.size) nv1 hw2 hB hm hne hC (by omega) (by omega) (by omega) (by omega) (fun k hk => by have := hnl k hk; omega)
        refine op_skip (w' := (X3).setCells ((W.drew).heap.size) 0 (cutCells b G dn zero8 ((X2).heap.size)).toList) rfl (by kernel_rfl) ?_ ⟨hT, wpAnyH_done (by kernel_rfl) ?_ _⟩
        · simp only [Act.put, List.setIfInBounds_toArray, List.set_cons_zero, List.set_cons_succ, List.getElem_toArray, List.getElem_cons_zero, List.getElem_cons_succ]
          exact exec_store 180 (.tmp 5) (.tmp 11) rfl ((W.drew).heap.size) 0 (cutCells b G dn zero8 ((X2).heap.size)) rfl rfl (by rw [cutCells_size _ _ _ _ _ h8 rfl]; exact hC.there) (by rw [cutCells_size _ _ _ _ _ h8 rfl]; kernel_rfl) (cutCells_one ..)
        simp only [Act.put, List.setIfInBounds_toArray, List.set_cons_zero, List.set_cons_succ, List.getElem_toArray, List.getElem_cons_zero, List.getElem_cons_succ]
        go_wp2_with fail
        go_meet
        case rel => exact ⟨_, b, M, _, nv1, rfl, hcut, hnw, hfc⟩
      · obtain ⟨X2, hX2⟩ : ∃ X, X = (X1).alloc (.map #[] 0) := ⟨_, rfl⟩
        have hst : Nw (X1) X2 := by rw [hX2]; exact (Fr.refl _ _).alloc _
        have hm : NumMap X2 3 (X1).heap.size 0 (fun _ => none) := by rw [hX2]; exact NumMap.made _ _
        have hw1 : Nw W X2 := hw0.trans hst (fun i h => h.elim)
        have hz1 : W.heap.size ≤ (X1).heap.size := hw0.size
        have hC := hC.nw hst
        refine op_value (v := .map (some (X1).heap.size)) (w' := X2) rfl (by kernel_rfl) (by rw [hX2]; kernel_rfl) ⟨HbD.out.nw hw1, ?_⟩
        clear hX2
        refine wpAnyH_all (rs := [0]) (by kernel_rfl) (by simp) (fun j hj => ?_)
        obtain rfl : j = 0 := by simpa using hj
        refine op_enter (f := 73) (args := #[]) (w' := X2) rfl (by kernel_rfl) (by kernel_rfl) ?_
        refine (newBuilder_any X2).mono ?_
        rintro e X3 ⟨b, M, nv1, rfl, hB, hst, hbl, hMl, hnl⟩
        have hw2 : Nw W X3 := hw1.trans hst (fun i h => h.elim)
        have hz2 : W.heap.size ≤ (X2).heap.size := hw1.size
        have hMvlt : (X1).heap.size < (X2).heap.size := hm.lt
        have hC := hC.nw hst
        have hm := hm.nw hst
        refine ⟨_, rfl, HbD.out.nw hw2, ?_⟩
        refine wpAnyH_take (i := 4) (v := .agg (cutCells b G dn zero8 ((X1).heap.size))) rfl (by kernel_rfl) (by kernel_rfl) (by kernel_rfl) (fun _ _ _ h => h) (.inl ⟨by kernel_rfl, fun w'' hS => ?_⟩) (HbD.out.nw hw2) ?_
        · obtain ⟨e0, e1, e2, e3, e4, e5, e6, e7, hde⟩ := list8 h8
          rw [hde]
          kernel_rfl
        have hne : (X1).heap.size ≠ M := by
          have h1 : (X2).heap.size ≤ M := hMl
          have h2 : (X1).heap.size < (X2).heap.size := hMvlt
          omega
        refine wpAnyH_all (rs := [6]) (by kernel_rfl) (by simp) (fun j hj => ?_)
        obtain rfl : j = 6 := by simpa using hj
        obtain ⟨hcut, hnw, hfc, hT⟩ := hfinal X3 b M ((X1).heap.size) ((W.drew).heap.size) nv1 hw2 hB hm hne hC (by omega) (by omega) (by omega) (by omega) (fun k hk => by have := hnl k hk; omega)
        refine op_skip (w' := (X3).setCells ((W.drew).heap.size) 0 (cutCells b G dn zero8 ((X1).heap.size)).toList) rfl (by kernel_rfl) ?_ ⟨hT, wpAnyH_done (by kernel_rfl) ?_ _⟩
        · simp only [Act.put, List.setIfInBounds_toArray, List.set_cons_zero, List.set_cons_succ, List.getElem_toArray, List.getElem_cons_zero, List.getElem_cons_succ]
          exact exec_store 180 (.tmp 5) (.tmp 11) rfl ((W.drew).heap.size) 0 (cutCells b G dn zero8 ((X1).heap.size)) rfl rfl (by rw [cutCells_size _ _ _ _ _ h8 rfl]; exact hC.there) (by rw [cutCells_size _ _ _ _ _ h8 rfl]; kernel_rfl) (cutCells_one ..)
        simp only [Act.put, List.setIfInBounds_toArray, List.set_cons_zero, List.set_cons_succ, List.getElem_toArray, List.getElem_cons_zero, List.getElem_cons_succ]
        go_wp2_with fail
        go_meet
        case rel => exact ⟨_, b, M, _, nv1, rfl, hcut, hnw, hfc⟩
  case rest =>
    obtain ⟨C, b, M, Mv, nv, rfl, hC0, hnw, hfc⟩ := hcut
    have hDc := HD.out.nw (hfW.trans hnw (fun i h => h.elim))
    have hroot : wc.cell? ⟨G, 2, none⟩ = some (.int .i64 (root : Int)) := hDc.blk.cell 2
    have hWl := HsW.out
    have hdis : ∀ k, (k = G ∨ k = g ∨ onv.ownBlock = some k) → ¬ FC C b M Mv nv k := fun k hk hF => by
      have h1 := HD.out.lt hk
      have h2 := hfc k hF
      omega
    have hcn : cnt vars.length ≤ 259 := by
      have hl : vars.length = 0 ∨ vars.length = 1 ∨ vars.length = 2 ∨ vars.length = 3 ∨ vars.length = 4 := by omega
      rcases hl with h | h | h | h | h <;> rw [h] <;> decide
    have hs0 : CSok s0 2 := ⟨by decide, by decide, by decide, rfl, zero8_lt, fun k x h => by cases h⟩
    have Hc := hd (cut_any C b M Mv G g cap onv vars os root dn h8 h4 hv hd64 hol vars.length 0 (by omega) root s0 nv 2 wc (by omega) (by omega) hs0 hlev hC0.out hDc hdis)
    have hok := cutTo_ok os vars dn hd64 vars.length 0 root s0 2 (by omega) hlev hs0
    have hfd : dDom os root vars dn = replTo vars dn (dCut os root vars dn).1.sp vars.length := rfl
    have hdc : dCut os root vars dn = cutTo os vars dn vars.length 0 root s0 := rfl
    rw [← hdc] at Hc hok
    obtain ⟨res, hres⟩ : ∃ res, dCut os root vars dn = res := ⟨_, rfl⟩
    rw [hres] at Hc hok hfd
    have Hres := hd hres
    have Hfd := hd hfd
    have hFW := hd (hfW.trans hnw (fun i h => h.elim))
    have HDc := hd hDc
    have Hdis := hd hdis
    have HC0 := hC0
    have Hfc := hd hfc
    have HbDc := hd (HbD.out.nw hnw)
    have HbRc := hd (HbR.out.nw hnw)
    clear hres hfd hdc hDc hdis hfc
    go_upto_region 3 with (go_at_call 110; refine Hc.out.mono ?_; rintro e A ⟨rfl, nv2, hCA, hfA, hnA⟩)
    have hDA := HDc.out.fr hfA Hdis.out
    have hAsz := hfA.size
    have hwcs := hnw.size
    have hTF : ∀ k, k < W.heap.size → ¬ FC C b M Mv nv k := fun k hk hF => by have := Hfc.out k hF; omega
    have hTA := HbDc.out.fr hfA (hTF _ (by omega))
    have hRA := HbRc.out.fr hfA (hTF _ (by omega))
    have e0 : A.cell? ⟨C, 0, none⟩ = some (.pointer (some ⟨b, 0, none⟩)) := hCA.blk.cell 0
    have e1 : A.cell? ⟨b, 0, none⟩ = some nv2 := hCA.bld.blk.cell 0
    have e2 : A.cell? ⟨G, 1, none⟩ = some onv := hDA.blk.cell 1
    have e3 : A.cell? ⟨G, 2, none⟩ = some (.int .i64 (root : Int)) := hDA.blk.cell 2
    have f1 := hDA.blk.free 1
    have f2 := hDA.blk.free 2
    obtain ⟨ng, ncap, hnv2⟩ : ∃ ng ncap, nv2 = .slice (some ⟨ng, 0, none⟩) res.1.ns.length ncap := by
      rcases hCA.bld.row.2 with ⟨_, h0⟩ | ⟨ng, ncap, cur, h, _⟩
      · have := hCA.bld.two; omega
      · exact ⟨ng, ncap, h⟩
    subst hnv2
    have HDA := hd hDA
    have HCA := hd hCA
    have HTA := hd hTA
    have HRA := hd hRA
    have HfA := hd hfA
    have hnA' : ∀ k, (Value.slice (some ⟨ng, 0, none⟩) res.1.ns.length ncap).ownBlock = some k → W.heap.size ≤ k := fun k hk => by
      rcases hnA k hk with h | h
      · exact Hfc.out k (.inr (.inr (.inr (.inr h))))
      · omega
    clear hDA hCA hTA hRA hfA hroot Hc hnA hWl
    go_upto_region 4 with fail
    have hne : g ≠ G := fun e => by subst e; exact HDA.out.rv.ne HDA.out.blk (by decide) rfl
    obtain ⟨Y, hY⟩ : ∃ Y, Y = (A.setCell ⟨G, 1, none⟩ (.slice (some ⟨ng, 0, none⟩) res.1.ns.length ncap)).setCell ⟨G, 2, none⟩ (.int .i64 (res.2 : Int)) := ⟨_, rfl⟩
    have hfY : Fr (fun k => k = G) A Y := by rw [hY]; exact ((Fr.refl (fun k => k = G) A).setCell ⟨G, 1, none⟩ _ (.inl rfl)).setCell ⟨G, 2, none⟩ _ (.inl rfl)
    have hGY : Blk Y G #[.slice (some ⟨g, 0, none⟩) vars.length cap, .slice (some ⟨ng, 0, none⟩) res.1.ns.length ncap, .int .i64 (res.2 : Int)] 136 := by
      rw [hY]
      have h5 := (HDA.out.blk.set 1 (.slice (some ⟨ng, 0, none⟩) res.1.ns.length ncap)).set 2 (.int .i64 (res.2 : Int))
      simpa using h5
    rw [← hY]
    have hWl := HsW.out
    have hngl := hnA' ng rfl
    have hDY : DAt Y G g cap (.slice (some ⟨ng, 0, none⟩) res.1.ns.length ncap) vars res.1.ns res.2 :=
      ⟨hGY, HDA.out.rv.fr hfY (fun k hk e => hne (by cases hk; exact e)), ownsRow.fr HCA.out.bld.row hfY (fun k hk e => by have := hnA' k hk; omega), HCA.out.bld.ok, HCA.out.bld.two⟩
    have hTY := HTA.out.fr hfY (by omega)
    have hRY := HRA.out.fr hfY (by omega)
    have hCl := Hfc.out C (.inl rfl)
    have hCY := HCA.out.blk.fr hfY (by omega)
    obtain ⟨m0, m1, m2, m3, m4, m5, m6, m7, hmv⟩ := domV8 hok.1.sp
    have Hmv := hd hmv
    have y0 : Y.cell? ⟨G, 0, none⟩ = some (.slice (some ⟨g, 0, none⟩) vars.length cap) := hGY.cell 0
    obtain ⟨c0, c1, c2, c3, c4, c5, c6, c7⟩ := cells8 (Hdv.out ▸ hTY)
    have z0 : Y.cell? ⟨C, 10, none⟩ = some m0 := (hCY.cell 10).trans (by have h := cutCells_sp b G dn res.1.sp Mv 0 h8 hok.1.sp (by omega); rw [h]; have h2 := domV_get res.1.sp 0 (by have := hok.1.sp; omega); rw [Hmv.out] at h2; exact h2.symm)
    have z1 : Y.cell? ⟨C, 11, none⟩ = some m1 := (hCY.cell 11).trans (by have h := cutCells_sp b G dn res.1.sp Mv 1 h8 hok.1.sp (by omega); rw [h]; have h2 := domV_get res.1.sp 1 (by have := hok.1.sp; omega); rw [Hmv.out] at h2; exact h2.symm)
    have z2 : Y.cell? ⟨C, 12, none⟩ = some m2 := (hCY.cell 12).trans (by have h := cutCells_sp b G dn res.1.sp Mv 2 h8 hok.1.sp (by omega); rw [h]; have h2 := domV_get res.1.sp 2 (by have := hok.1.sp; omega); rw [Hmv.out] at h2; exact h2.symm)
    have z3 : Y.cell? ⟨C, 13, none⟩ = some m3 := (hCY.cell 13).trans (by have h := cutCells_sp b G dn res.1.sp Mv 3 h8 hok.1.sp (by omega); rw [h]; have h2 := domV_get res.1.sp 3 (by have := hok.1.sp; omega); rw [Hmv.out] at h2; exact h2.symm)
    have z4 : Y.cell? ⟨C, 14, none⟩ = some m4 := (hCY.cell 14).trans (by have h := cutCells_sp b G dn res.1.sp Mv 4 h8 hok.1.sp (by omega); rw [h]; have h2 := domV_get res.1.sp 4 (by have := hok.1.sp; omega); rw [Hmv.out] at h2; exact h2.symm)
    have z5 : Y.cell? ⟨C, 15, none⟩ = some m5 := (hCY.cell 15).trans (by have h := cutCells_sp b G dn res.1.sp Mv 5 h8 hok.1.sp (by omega); rw [h]; have h2 := domV_get res.1.sp 5 (by have := hok.1.sp; omega); rw [Hmv.out] at h2; exact h2.symm)
    have z6 : Y.cell? ⟨C, 16, none⟩ = some m6 := (hCY.cell 16).trans (by have h := cutCells_sp b G dn res.1.sp Mv 6 h8 hok.1.sp (by omega); rw [h]; have h2 := domV_get res.1.sp 6 (by have := hok.1.sp; omega); rw [Hmv.out] at h2; exact h2.symm)
    have z7 : Y.cell? ⟨C, 17, none⟩ = some m7 := (hCY.cell 17).trans (by have h := cutCells_sp b G dn res.1.sp Mv 7 h8 hok.1.sp (by omega); rw [h]; have h2 := domV_get res.1.sp 7 (by have := hok.1.sp; omega); rw [Hmv.out] at h2; exact h2.symm)
    have hFY : Fr (fun k => k = G) w Y := ((hFW.out.mono (S' := fun k => k = G) (fun i h => h.elim)).trans HfA.out (fun k h => .inr (by have := Hfc.out k h; omega))).trans hfY (fun k h => .inl h)
    have HFY := hd hFY
    have HDY := hd hDY
    have HRY := hd hRY
    have Hv2 := hd (hDY.rv.drew.ints)
    clear hFY hDY hRY hTY hCY hGY hY hmv hfY e0 e1 e2 e3 f1 f2 hWl
    go_still_tail 7, (by kernel_rfl)
    go_wp2_with fail
    rw [← Hdv.out, ← Hmv.out]
    refine (replaced_any (some ⟨g, 0, none⟩) cap vars dn res.1.sp _ h4 hv Hv2.out h8 hok.1.sp).mono ?_
    rintro e w3 ⟨rfl, hf3⟩
    have hrl : (replTo vars dn res.1.sp vars.length).length = 8 := by rw [replTo_length]; exact h8
    obtain ⟨r0, r1, r2, r3, r4, r5, r6, r7, hrv⟩ := domV8 hrl
    have hR3 := HRY.out.drew.nw hf3
    obtain ⟨t0, t1, t2, t3, t4, t5, t6, t7⟩ := cells8 hR3
    have hfz : ∀ i, w3.frozen? ⟨w.heap.size + 1, i, none⟩ = false := hR3.free
    rw [hrv]
    have Hrv := hd hrv
    have HR3 := hd hR3
    have HF3 : Hid (Fr (fun k => k = G) w w3) := (HFY.out.drew).trans hf3 (fun i h => h.elim)
    have HD3 := hd (HDY.out.nw (Fr.trans ((Fr.refl (fun _ => False) Y).drew) hf3 (fun i h => h.elim)))
    have ho := domV_one (replTo vars dn res.1.sp vars.length) hrv
    clear hrv hR3 c0 c1 c2 c3 c4 c5 c6 c7 z0 z1 z2 z3 z4 z5 z6 z7
    obtain ⟨⟨p0, rfl⟩, ⟨p1, rfl⟩, ⟨p2, rfl⟩, ⟨p3, rfl⟩, ⟨p4, rfl⟩, ⟨p5, rfl⟩, ⟨p6, rfl⟩, ⟨p7, rfl⟩⟩ := ho
    go_wp2
    have hWl := HsW.out
    have hB := Blk.put8' HR3.out Hrv.out
    have hF8 := HF3.out.set8 (w.heap.size + 1) 0 1 2 3 4 5 6 7 (.int .u8 p0) (.int .u8 p1) (.int .u8 p2) (.int .u8 p3) (.int .u8 p4) (.int .u8 p5) (.int .u8 p6) (.int .u8 p7) (.inr (by omega))
    have hFg := (Fr.refl (fun k => k = w.heap.size + 1) w3).set8 (w.heap.size + 1) 0 1 2 3 4 5 6 7 (.int .u8 p0) (.int .u8 p1) (.int .u8 p2) (.int .u8 p3) (.int .u8 p4) (.int .u8 p5) (.int .u8 p6) (.int .u8 p7) (.inl rfl)
    have hD8 := HD3.out.fr hFg (fun k hk e => by
      rcases hk with h | h | h
      · omega
      · have := HD.out.lt (.inr (.inl h)); omega
      · have := hnA' k h; omega)
    generalize hX8 : ((((((((w3.setCell ⟨w.heap.size + 1, 0, none⟩ (Value.int .u8 p0)).setCell ⟨w.heap.size + 1, 1, none⟩ (Value.int .u8 p1)).setCell ⟨w.heap.size + 1, 2, none⟩ (Value.int .u8 p2)).setCell ⟨w.heap.size + 1, 3, none⟩ (Value.int .u8 p3)).setCell ⟨w.heap.size + 1, 4, none⟩ (Value.int .u8 p4)).setCell ⟨w.heap.size + 1, 5, none⟩ (Value.int .u8 p5)).setCell ⟨w.heap.size + 1, 6, none⟩ (Value.int .u8 p6)).setCell ⟨w.heap.size + 1, 7, none⟩ (Value.int .u8 p7)) = X8 at hB hF8 hD8 ⊢
    obtain ⟨q0, q1, q2, q3, q4, q5, q6, q7⟩ := cells8 (Hrv.out ▸ hB)
    refine bodyPost_ret (v := .agg (domV (dDom os root vars dn))) ?_ rfl ⟨rfl, hF8, _, by rw [Hres.out]; exact hD8, fun k hk => by have := hnA' k hk; omega⟩
    rw [Hfd.out, Hrv.out]
    simp [results, Try.results107, go_sem, q0, q1, q2, q3, q4, q5, q6, q7]

set_option maxHeartbeats 800000 in
set_option maxRecDepth 1000000 in
theorem dState_any (G g cap : Nat) (onv : Value) (vars : List Int) (os : List (List Nat)) (root : Nat) (w : World) (hD : DAt w G g cap onv vars os root) :
    Calls Try.prog 108 #[.pointer (some ⟨G, 0, none⟩)] w fun e w' => e = .returned (.agg #[.int .u64 0, onv, .int .i64 (root : Int)]) ∧ Nw w w' := by
  obtain ⟨og, ocap, hon, _⟩ := hD.node
  subst hon
  have hf : Nw w (w.alloc (.cells #[.int .u64 0, .slice none 0 0, .int .i64 0] 148)) := (Fr.refl _ w).alloc _
  obtain ⟨W, hW⟩ : ∃ W, W = w.alloc (.cells #[.int .u64 0, .slice none 0 0, .int .i64 0] 148) := ⟨_, rfl⟩
  have hb : Blk W w.heap.size #[.int .u64 0, .slice none 0 0, .int .i64 0] 148 := by rw [hW]; exact Blk.new _ _ _
  have hfW : Nw w W := by rw [hW]; exact hf
  have e1 : W.cell? ⟨G, 1, none⟩ = some (.slice (some ⟨og, 0, none⟩) os.length ocap) := (hD.nw hfW).blk.cell 1
  have e2 : W.cell? ⟨G, 2, none⟩ = some (.int .i64 (root : Int)) := (hD.nw hfW).blk.cell 2
  have q0 : W.cell? ⟨w.heap.size, 0, none⟩ = some (.int .u64 0) := hb.cell 0
  have q1 : W.cell? ⟨w.heap.size, 1, none⟩ = some (.slice none 0 0) := hb.cell 1
  have q2 : W.cell? ⟨w.heap.size, 2, none⟩ = some (.int .i64 0) := hb.cell 2
  have f0 := hb.free
  have Hb := hd hb
  have HW := hd hW
  clear hb hW hD hf
  go_enter Try.func108, Try.ntmps108
  go_upto_region 1 with fail
  rw [← HW.out]
  go_still_tail 9, (by kernel_rfl)
  go_wp2
  have hB := ((Hb.out.set 0 (.int .u64 0)).set 1 (.slice (some ⟨og, 0, none⟩) os.length ocap)).set 2 (.int .i64 (root : Int))
  have hF := (((hfW.setCell ⟨w.heap.size, 0, none⟩ (.int .u64 0) (.inr (Nat.le_refl _))).setCell ⟨w.heap.size, 1, none⟩ (.slice (some ⟨og, 0, none⟩) os.length ocap) (.inr (Nat.le_refl _))).setCell ⟨w.heap.size, 2, none⟩ (.int .i64 (root : Int)) (.inr (Nat.le_refl _))).drew
  obtain ⟨X, hX⟩ : ∃ X, X = (((W.setCell ⟨w.heap.size, 0, none⟩ (Value.int .u64 0)).setCell ⟨w.heap.size, 1, none⟩ (Value.slice (some ⟨og, 0, none⟩) os.length ocap)).setCell ⟨w.heap.size, 2, none⟩ (Value.int .i64 (root : Int))).drew := ⟨_, rfl⟩
  have hB' : Blk X w.heap.size #[.int .u64 0, .slice (some ⟨og, 0, none⟩) os.length ocap, .int .i64 (root : Int)] 148 := by
    rw [hX]
    have h5 := hB.drew
    simpa using h5
  rw [← hX] at hF ⊢
  have p0 : X.cell? ⟨w.heap.size, 0, none⟩ = some (.int .u64 0) := hB'.cell 0
  have p1 : X.cell? ⟨w.heap.size, 1, none⟩ = some (.slice (some ⟨og, 0, none⟩) os.length ocap) := hB'.cell 1
  have p2 : X.cell? ⟨w.heap.size, 2, none⟩ = some (.int .i64 (root : Int)) := hB'.cell 2
  refine bodyPost_ret (v := .agg #[.int .u64 0, .slice (some ⟨og, 0, none⟩) os.length ocap, .int .i64 (root : Int)]) ?_ rfl ⟨rfl, hF⟩
  simp [results, Try.results108, go_sem, p0, p1, p2]

theorem meth_dchanged (G : Nat) (v : Value) (W : World) (h : W.cell? ⟨G, 0, none⟩ = some v) :
    (method 286 113 (.pointer (some ⟨G, 0, none⟩)) "Changed").run Try.prog W = .ok (105, .agg #[v]) W := by
  have h1 : (method 286 113 (.pointer (some ⟨G, 0, none⟩)) "Changed").run Try.prog W =
      match W.cell? ⟨G, 0, none⟩ with
      | some v => .ok (105, .agg #[v]) W
      | none => match W.farLoad Try.prog ⟨G, 0, none⟩ (Mode.plain == .atomic) with
        | .ok (v, _) => .ok (105, .agg #[v]) W
        | .error h => .halt h W := by kernel_rfl
  rw [h1, h]
theorem meth_dnarrow (G : Nat) (W : World) : (method 286 113 (.pointer (some ⟨G, 0, none⟩)) "Narrow").run Try.prog W = .ok (107, .pointer (some ⟨G, 0, none⟩)) W := by kernel_rfl
theorem meth_dstate (G : Nat) (W : World) : (method 286 113 (.pointer (some ⟨G, 0, none⟩)) "State").run Try.prog W = .ok (108, .pointer (some ⟨G, 0, none⟩)) W := by kernel_rfl

set_option maxHeartbeats 800000 in
set_option maxRecDepth 1000000 in
/-- Make at Way 2. -/
theorem make2_any (vb vof : Nat) (ro : Option Addr) (vcap rcap : Nat) (vars : List Int) (rows : List (List Int)) (nt : Bool) (dn : List Nat) (w : World) (h8 : dn.length = 8) (hv0 : 0 < vars.length) (h4 : vars.length ≤ 4)
    (hv : ∀ i, i < vars.length → 0 ≤ vars.getD i 0 ∧ vars.getD i 0 < 8) (hd64 : ∀ q, dn.getD q 0 < 64) (hrl : rows.length ≤ 60) (hrow : ∀ j, j < rows.length → (rows.getD j []).length = vars.length)
    (hvs : IntsAt w (some ⟨vb, vof, none⟩) vars) (hrs : RowsAt w ro rows) :
    Calls Try.prog 52 #[.agg #[.slice (some ⟨vb, vof, none⟩) vars.length vcap, .slice ro rows.length rcap, .bool nt, .int .i64 2], .agg (domV dn)] w fun e w' =>
      ∃ G g cap nv, e = .returned (.iface 113 (.pointer (some ⟨G, 0, none⟩))) ∧ Nw w w' ∧ DAt w' G g cap nv vars (bldTo vars nt dn vars.length 0 rows [zero6, zero6]).1 (bldTo vars nt dn vars.length 0 rows [zero6, zero6]).2 ∧ w.heap.size ≤ G ∧ w.heap.size ≤ g ∧ (∀ k, nv.ownBlock = some k → w.heap.size ≤ k) := by
  obtain ⟨v0, v1, v2, v3, v4, v5, v6, v7, hdv⟩ := domV8 h8
  obtain ⟨W, hW⟩ : ∃ W, W = (w.alloc (.cells #[.slice (some ⟨vb, vof, none⟩) vars.length vcap, .slice ro rows.length rcap, .bool nt, .int .i64 2] 58)).alloc (.cells (domV dn) 76) := ⟨_, rfl⟩
  have hfW : Nw w W := by rw [hW]; exact ((Fr.refl _ w).alloc _).alloc _
  have hbT : Blk W w.heap.size #[.slice (some ⟨vb, vof, none⟩) vars.length vcap, .slice ro rows.length rcap, .bool nt, .int .i64 2] 58 := by rw [hW]; exact (Blk.new _ _ _).alloc _
  have hbD : Blk W (w.heap.size + 1) (domV dn) 76 := by
    rw [hW]
    have := Blk.new (w.alloc (.cells #[.slice (some ⟨vb, vof, none⟩) vars.length vcap, .slice ro rows.length rcap, .bool nt, .int .i64 2] 58)) (domV dn) 76
    rw [alsz] at this
    exact this
  have t0 : W.cell? ⟨w.heap.size, 0, none⟩ = some (.slice (some ⟨vb, vof, none⟩) vars.length vcap) := hbT.cell 0
  have t1 : W.cell? ⟨w.heap.size, 1, none⟩ = some (.slice ro rows.length rcap) := hbT.cell 1
  have t2 : W.cell? ⟨w.heap.size, 2, none⟩ = some (.bool nt) := hbT.cell 2
  have t3 : W.cell? ⟨w.heap.size, 3, none⟩ = some (.int .i64 2) := hbT.cell 3
  obtain ⟨c0, c1, c2, c3, c4, c5, c6, c7⟩ := cells8 (hdv ▸ hbD)
  have Hn := hd (newDiagram_any vb vof ro vcap rcap vars rows nt 2 dn W h8 hv0 h4 hv hd64 hrl hrow (hvs.nw hfW) (hrs.nw hfW))
  have HW := hd hW
  have Hdv := hd hdv
  clear hW hbT hbD hdv
  go_enter Try.func52, Try.ntmps52
  go_upto_region 1 with fail
  rw [← HW.out]
  go_wp2_with fail
  rw [← Hdv.out]
  refine Hn.out.mono ?_
  rintro e w1 ⟨G, g, cap, nv, rfl, hf1, hD1, hGl, hgl, hnl⟩
  have hs := hfW.size
  go_wp2
  go_ret
  exact ⟨G, g, cap, nv, rfl, hfW.trans hf1 (fun i h => h.elim), hD1, by omega, by omega, fun k hk => by have := hnl k hk; omega⟩
end Go.Proofs.Ytkjfpdfkcfgfkaa

/- Contract of PutBack, by both kinds. -/
namespace Go.Proofs.Ytkjfpdfkcfgfkaa
open Go.RowKit

theorem ta_rs (G : Nat) (W : World) : (Instr.typeAssert (.iface 115 (.pointer (some ⟨G, 0, none⟩))) 93 115 true).run Try.prog W = .ok (.tuple #[.pointer (some ⟨G, 0, none⟩), .bool true]) W := by kernel_rfl
theorem ta_dno (G : Nat) (W : World) : (Instr.typeAssert (.iface 113 (.pointer (some ⟨G, 0, none⟩))) 93 115 true).run Try.prog W = .ok (.tuple #[.pointer none, .bool false]) W := by kernel_rfl
theorem ta_d (G : Nat) (W : World) : (Instr.typeAssert (.iface 113 (.pointer (some ⟨G, 0, none⟩))) 93 113 true).run Try.prog W = .ok (.tuple #[.pointer (some ⟨G, 0, none⟩), .bool true]) W := by kernel_rfl

set_option maxHeartbeats 1600000 in
set_option maxRecDepth 1000000 in
theorem putBack_rs (G : Nat) (vv : Value) (nt : Bool) (br : List Nat) (live live0 : Nat) (nv : Value) (r : Int) (w : World) (h24 : br.length = 24) (hG : Blk w G (rsCells vv nt br live) 142) :
    Calls Try.prog 81 #[.iface 115 (.pointer (some ⟨G, 0, none⟩)), .agg #[.int .u64 (live0 : Int), nv, .int .i64 r]] w fun e w' => e = .returned (.tuple #[]) ∧ Fr (fun k => k = G) w w' ∧ Blk w' G (rsCells vv nt br live0) 142 := by
  obtain ⟨W, hW⟩ : ∃ W, W = w.alloc (.cells #[.int .u64 (live0 : Int), nv, .int .i64 r] 148) := ⟨_, rfl⟩
  have hfW : Nw w W := by rw [hW]; exact (Fr.refl _ w).alloc _
  have hb : Blk W w.heap.size #[.int .u64 (live0 : Int), nv, .int .i64 r] 148 := by rw [hW]; exact Blk.new _ _ _
  have hGW := hG.nw hfW
  have c0 : W.cell? ⟨w.heap.size, 0, none⟩ = some (.int .u64 (live0 : Int)) := hb.cell 0
  have c1 : W.cell? ⟨G, 26, none⟩ = some (.int .u64 (live : Int)) := (hGW.cell 26).trans (rsCells_live _ _ _ _ h24)
  have f1 := hGW.free 26
  have HGW := hd hGW
  have HW := hd hW
  have hta := ta_rs G
  clear hb hGW hG hW
  go_enter Try.func81, Try.ntmps81
  go_upto_region 1 with fail
  rw [← HW.out]
  go_wp2
  go_end0
  refine ⟨rfl, (hfW.mono (fun i h => h.elim)).setCell _ _ (.inl rfl), ?_⟩
  have h5 := HGW.out.set 26 (.int .u64 (live0 : Int))
  rw [rsCells_setLive _ _ _ _ _ h24] at h5
  exact h5

set_option maxHeartbeats 1600000 in
set_option maxRecDepth 1000000 in
theorem putBack_d (G g cap : Nat) (onv nv : Value) (vars : List Int) (os ns : List (List Nat)) (root r : Nat) (u : Value) (w : World) (hD : DAt w G g cap onv vars os root) (hrow : w.ownsRow 0 154 6 nv ns.length (ns.flatMap nodeC)) (hok : ∀ n ∈ ns, NodeOk n) (h2 : 2 ≤ ns.length) (hnG : nv.ownBlock ≠ some G) :
    Calls Try.prog 81 #[.iface 113 (.pointer (some ⟨G, 0, none⟩)), .agg #[u, nv, .int .i64 (r : Int)]] w fun e w' => e = .returned (.tuple #[]) ∧ Fr (fun k => k = G) w w' ∧ DAt w' G g cap nv vars ns r := by
  obtain ⟨ng, ncap, hnv⟩ : ∃ ng ncap, nv = .slice (some ⟨ng, 0, none⟩) ns.length ncap := by
    rcases hrow.2 with ⟨_, h0⟩ | ⟨ng, ncap, cur, h, _⟩
    · omega
    · exact ⟨ng, ncap, h⟩
  subst hnv
  obtain ⟨W, hW⟩ : ∃ W, W = w.alloc (.cells #[u, .slice (some ⟨ng, 0, none⟩) ns.length ncap, .int .i64 (r : Int)] 148) := ⟨_, rfl⟩
  have hfW : Nw w W := by rw [hW]; exact (Fr.refl _ w).alloc _
  have hb : Blk W w.heap.size #[u, .slice (some ⟨ng, 0, none⟩) ns.length ncap, .int .i64 (r : Int)] 148 := by rw [hW]; exact Blk.new _ _ _
  have hDW := hD.nw hfW
  have c0 : W.cell? ⟨w.heap.size, 1, none⟩ = some (.slice (some ⟨ng, 0, none⟩) ns.length ncap) := hb.cell 1
  have c1 : W.cell? ⟨w.heap.size, 2, none⟩ = some (.int .i64 (r : Int)) := hb.cell 2
  have e1 : W.cell? ⟨G, 1, none⟩ = some onv := hDW.blk.cell 1
  have e2 : W.cell? ⟨G, 2, none⟩ = some (.int .i64 (root : Int)) := hDW.blk.cell 2
  have f1 := hDW.blk.free
  have hta := ta_dno G
  have htb := ta_d G
  have hGl0 := hD.blk.lt
  have HDW := hd hDW
  have HW := hd hW
  have Hb := hd hb
  clear hb hDW hD hW
  go_enter Try.func81, Try.ntmps81
  go_upto_region 1 with fail
  rw [← HW.out]
  go_upto_region 7 with fail
  have hGlt := HDW.out.blk.lt
  have hGl : G < w.heap.size := hGl0
  have hK0 : Blk W.drew w.heap.size #[u, .slice (some ⟨ng, 0, none⟩) ns.length ncap, .int .i64 (r : Int)] 148 := Hb.out.drew
  refine wp_region_held (S := fun w'' => Blk w'' w.heap.size #[u, .slice (some ⟨ng, 0, none⟩) ns.length ncap, .int .i64 (r : Int)] 148) (by kernel_rfl) ?_
  refine wpAnyH_take (i := 0) (v := .pointer (some ⟨G, 0, none⟩)) rfl (by kernel_rfl) (by kernel_rfl) (by kernel_rfl) (fun _ _ _ h => h) (.inl ⟨by kernel_rfl, fun w'' hS => by kernel_rfl⟩) hK0 ?_
  refine wpAnyH_take (i := 1) (v := .pointer (some ⟨G, 0, none⟩)) rfl (by kernel_rfl) (by kernel_rfl) (by kernel_rfl) (fun _ _ _ h => h) (.inl ⟨by kernel_rfl, fun w'' hS => by kernel_rfl⟩) hK0 ?_
  refine wpAnyH_take (i := 2) (v := .pointer (some ⟨w.heap.size, 1, none⟩)) rfl (by kernel_rfl) (by kernel_rfl) (by kernel_rfl) (fun _ _ _ h => h) (.inl ⟨by kernel_rfl, fun w'' hS => by kernel_rfl⟩) hK0 ?_
  refine wpAnyH_take (i := 3) (v := .slice (some ⟨ng, 0, none⟩) ns.length ncap) rfl (by kernel_rfl) (by kernel_rfl) (by kernel_rfl) (fun _ _ _ h => h) (.inl ⟨by kernel_rfl, fun w'' hS => ?_⟩) hK0 ?_
  · have q0 : w''.cell? ⟨w.heap.size, 1, none⟩ = some (.slice (some ⟨ng, 0, none⟩) ns.length ncap) := hS.cell 1
    clear hK0 hS hok hrow hta htb f1
    simp only [Act.put, List.setIfInBounds_toArray, List.set_cons_zero, List.set_cons_succ, List.getElem_toArray, List.getElem_cons_zero, List.getElem_cons_succ]
    go_simp
  refine wpAnyH_take (i := 4) (v := .pointer (some ⟨w.heap.size, 2, none⟩)) rfl (by kernel_rfl) (by kernel_rfl) (by kernel_rfl) (fun _ _ _ h => h) (.inl ⟨by kernel_rfl, fun w'' hS => by kernel_rfl⟩) hK0 ?_
  refine wpAnyH_take (i := 5) (v := .int .i64 (r : Int)) rfl (by kernel_rfl) (by kernel_rfl) (by kernel_rfl) (fun _ _ _ h => h) (.inl ⟨by kernel_rfl, fun w'' hS => ?_⟩) hK0 ?_
  · have q0 : w''.cell? ⟨w.heap.size, 2, none⟩ = some (.int .i64 (r : Int)) := hS.cell 2
    clear hK0 hS hok hrow hta htb f1
    simp only [Act.put, List.setIfInBounds_toArray, List.set_cons_zero, List.set_cons_succ, List.getElem_toArray, List.getElem_cons_zero, List.getElem_cons_succ]
    go_simp
  refine wpAnyH_take (i := 6) (v := .pointer (some ⟨G, 0, none⟩)) rfl (by kernel_rfl) (by kernel_rfl) (by kernel_rfl) (fun _ _ _ h => h) (.inl ⟨by kernel_rfl, fun w'' hS => by kernel_rfl⟩) hK0 ?_
  refine wpAnyH_take (i := 7) (v := .pointer (some ⟨G, 1, none⟩)) rfl (by kernel_rfl) (by kernel_rfl) (by kernel_rfl) (fun _ _ _ h => h) (.inl ⟨by kernel_rfl, fun w'' hS => by kernel_rfl⟩) hK0 ?_
  obtain ⟨Y, hY⟩ : ∃ Y, Y = W.drew.setCell ⟨G, 1, none⟩ (.slice (some ⟨ng, 0, none⟩) ns.length ncap) := ⟨_, rfl⟩
  have hfY : Fr (fun k => k = G) W Y := by rw [hY]; exact ((Fr.refl (fun k => k = G) W).drew).setCell ⟨G, 1, none⟩ _ (.inl rfl)
  have hGY : Blk Y G #[.slice (some ⟨g, 0, none⟩) vars.length cap, .slice (some ⟨ng, 0, none⟩) ns.length ncap, .int .i64 (root : Int)] 136 := by
    rw [hY]
    have h5 := HDW.out.blk.drew.set 1 (.slice (some ⟨ng, 0, none⟩) ns.length ncap)
    simpa using h5
  have hTY : Blk Y w.heap.size #[u, .slice (some ⟨ng, 0, none⟩) ns.length ncap, .int .i64 (r : Int)] 148 := Hb.out.fr hfY (by omega)
  refine wpAnyH_all (rs := [8]) (by kernel_rfl) (by simp) (fun j hj => ?_)
  obtain rfl : j = 8 := by simpa using hj
  refine op_skip (w' := Y) rfl (by kernel_rfl) ?_ ⟨hTY, ?_⟩
  · rw [hY]
    clear hK0 hok hrow hta htb hY hfY hGY hTY
    simp only [Act.put, List.setIfInBounds_toArray, List.set_cons_zero, List.set_cons_succ, List.getElem_toArray, List.getElem_cons_zero, List.getElem_cons_succ]
    go_simp
  clear hY
  refine wpAnyH_all (rs := [9]) (by kernel_rfl) (by simp) (fun j hj => ?_)
  obtain rfl : j = 9 := by simpa using hj
  refine op_value (v := .pointer (some ⟨G, 0, none⟩)) (w' := Y) rfl (by kernel_rfl) (by kernel_rfl) ⟨hTY, ?_⟩
  refine wpAnyH_all (rs := [10]) (by kernel_rfl) (by simp) (fun j hj => ?_)
  obtain rfl : j = 10 := by simpa using hj
  refine op_value (v := .pointer (some ⟨G, 2, none⟩)) (w' := Y) rfl (by kernel_rfl) (by kernel_rfl) ⟨hTY, ?_⟩
  have y2 : Y.cell? ⟨G, 2, none⟩ = some (.int .i64 (root : Int)) := hGY.cell 2
  have g2 := hGY.free 2
  obtain ⟨Z, hZ⟩ : ∃ Z, Z = Y.setCell ⟨G, 2, none⟩ (.int .i64 (r : Int)) := ⟨_, rfl⟩
  have hfZ : Fr (fun k => k = G) Y Z := by rw [hZ]; exact (Fr.refl (fun k => k = G) Y).setCell ⟨G, 2, none⟩ _ (.inl rfl)
  have hGZ : Blk Z G #[.slice (some ⟨g, 0, none⟩) vars.length cap, .slice (some ⟨ng, 0, none⟩) ns.length ncap, .int .i64 (r : Int)] 136 := by
    rw [hZ]
    have h5 := hGY.set 2 (.int .i64 (r : Int))
    simpa using h5
  refine wpAnyH_all (rs := [11]) (by kernel_rfl) (by simp) (fun j hj => ?_)
  obtain rfl : j = 11 := by simpa using hj
  refine op_skip (w' := Z) rfl (by kernel_rfl) ?_ ⟨hTY.fr hfZ (by omega), wpAnyH_done (by kernel_rfl) ?_ _⟩
  · rw [hZ]
    clear hK0 hok hrow hta htb hfY hGY hTY hZ hfZ hGZ f1 e1 e2 c0 c1
    simp only [Act.put, List.setIfInBounds_toArray, List.set_cons_zero, List.set_cons_succ, List.getElem_toArray, List.getElem_cons_zero, List.getElem_cons_succ]
    go_simp
  simp only [Act.put, List.setIfInBounds_toArray, List.set_cons_zero, List.set_cons_succ, List.getElem_toArray, List.getElem_cons_zero, List.getElem_cons_succ]
  have hFZ : Fr (fun k => k = G) w Z := ((hfW.mono (fun i h => h.elim)).trans hfY (fun k h => .inl h)).trans hfZ (fun k h => .inl h)
  have hWZ : Fr (fun k => k = G) W Z := hfY.trans hfZ (fun k h => .inl h)
  have hDZ : DAt Z G g cap (.slice (some ⟨ng, 0, none⟩) ns.length ncap) vars ns r :=
    ⟨hGZ, HDW.out.rv.fr hWZ (fun k hk e => by subst e; exact HDW.out.rv.ne HDW.out.blk (by decide) hk), ownsRow.fr (ownsRow.fr hrow hfW (fun _ _ x => x)) hWZ (fun k hk e => hnG (by rw [← e]; exact hk)), hok, h2⟩
  have HFZ := hd hFZ
  have HDZ := hd hDZ
  clear hFZ hWZ hDZ hGZ hfZ hZ hGY hTY hfY hK0 c0 c1 e1 e2 f1 y2 g2 hta htb
  go_wp2
  go_end0
  exact ⟨rfl, HFZ.out, HDZ.out⟩
end Go.Proofs.Ytkjfpdfkcfgfkaa

/- Diagrams that build and cut make: every node lies at one depth. -/
namespace Go.Proofs.Ytkjfpdfkcfgfkaa

theorem nodeAt_app (os ex : List (List Nat)) (old v : Nat) (h : old < os.length) : nodeAt (os ++ ex) old v = nodeAt os old v := by
  simp [nodeAt, List.getD, List.getElem?_append_left h]
theorem lev_app (os ex : List (List Nat)) : ∀ (m old : Nat), levOk os m old → levOk (os ++ ex) m old
  | 0, _, h => h
  | m + 1, old, h => by
    rcases h with h | ⟨h2, hl, h⟩
    · exact .inl h
    · refine .inr ⟨h2, by simp; omega, fun v hv => ?_⟩
      rw [nodeAt_app os ex old v hl]
      exact lev_app os ex m _ (h v hv)
/-- ns' is ns with more behind it. -/
def Pre (ns ns' : List (List Nat)) : Prop := ∃ ex, ns' = ns ++ ex
theorem Pre.refl (ns : List (List Nat)) : Pre ns ns := ⟨[], by simp⟩
theorem Pre.trans {a b c : List (List Nat)} (h : Pre a b) (k : Pre b c) : Pre a c := by
  obtain ⟨x, rfl⟩ := h
  obtain ⟨y, rfl⟩ := k
  exact ⟨x ++ y, by simp⟩
theorem Pre.lev {a b : List (List Nat)} (h : Pre a b) {m old : Nat} (hl : levOk a m old) : levOk b m old := by
  obtain ⟨x, rfl⟩ := h
  exact lev_app a x m old hl
theorem lev_zero (os : List (List Nat)) : ∀ m, levOk os m 0
  | 0 => by show 0 < 2; omega
  | _ + 1 => .inl rfl
theorem idx_get (n : List Nat) : ∀ (l : List (List Nat)) (k j : Nat), idx n l k = some j → k ≤ j ∧ l.getD (j - k) [] = n
  | [], k, j, h => by simp [idx] at h
  | x :: r, k, j, h => by
    simp only [idx] at h
    split at h
    · rename_i hx
      cases h
      simp [hx]
    · have := idx_get n r (k + 1) j h
      refine ⟨by omega, ?_⟩
      rw [show j - k = (j - (k + 1)) + 1 by omega]
      simpa using this.2
theorem numOf_get (ns : List (List Nat)) (n : List Nat) (k : Nat) (h : numOf ns n = some k) : 2 ≤ k ∧ k < ns.length ∧ ns.getD k [] = n := by
  have h1 := idx_get n (ns.drop 2) 2 k h
  have h2 := idx_lt n (ns.drop 2) 2 k h
  simp only [List.length_drop] at h2
  refine ⟨h1.1, by omega, ?_⟩
  have h3 := h1.2
  simp only [List.getD, List.getElem?_drop] at h3 ⊢
  rw [show 2 + (k - 2) = k by omega] at h3
  exact h3
theorem numberTo_pre (ns : List (List Nat)) (n : List Nat) : Pre ns (numberTo ns n).1 := by
  unfold numberTo
  split
  · exact Pre.refl _
  · split
    · exact Pre.refl _
    · exact ⟨[n], rfl⟩
theorem numberTo_lev (ns : List (List Nat)) (h2 : 2 ≤ ns.length) (n : List Nat) (m : Nat) (h : ∀ v, v < 6 → levOk ns m (n.getD v 0)) : levOk (numberTo ns n).1 (m + 1) (numberTo ns n).2 := by
  unfold numberTo
  split
  · exact .inl rfl
  · split
    · rename_i k hk
      obtain ⟨h1, h3, h4⟩ := numOf_get ns n k hk
      refine .inr ⟨h1, h3, fun v hv => ?_⟩
      show levOk ns m ((ns.getD k []).getD v 0)
      rw [h4]
      exact h v hv
    · refine .inr ⟨h2, by simp, fun v hv => ?_⟩
      show levOk (ns ++ [n]) m (((ns ++ [n]).getD ns.length []).getD v 0)
      have e : (ns ++ [n]).getD ns.length [] = n := by simp [List.getD]
      rw [e]
      exact lev_app ns [n] m _ (h v hv)

/-- What build leaves is levelled. -/
theorem bldTo_lev (vars : List Int) (nt : Bool) (dn : List Nat) : ∀ (m i : Nat) (rows : List (List Int)) (ns : List (List Nat)), 2 ≤ ns.length → Pre ns (bldTo vars nt dn m i rows ns).1 ∧ levOk (bldTo vars nt dn m i rows ns).1 m (bldTo vars nt dn m i rows ns).2
  | 0, i, rows, ns, _ => by
    unfold bldTo
    split
    · exact ⟨Pre.refl _, by show 0 < 2; omega⟩
    · split
      · exact ⟨Pre.refl _, by show 0 < 2; omega⟩
      · exact ⟨Pre.refl _, by show 1 < 2; omega⟩
  | m + 1, i, rows, ns, h2 => by
    unfold bldTo
    split
    · exact ⟨Pre.refl _, .inl rfl⟩
    · have key := foldl_keep (fun (st : List (List Nat) × List Nat) => Pre ns st.1 ∧ st.2.length = 6 ∧ ∀ v, v < 6 → levOk st.1 m (st.2.getD v 0)) (bldStep (bldTo vars nt dn m (i + 1)) rows i) (vals (dn.getD (vars.getD i 0).toNat 0)) (ns, zero6)
        (fun st v _ hst => by
          have hl : 2 ≤ st.1.length := by
            obtain ⟨ex, he⟩ := hst.1
            rw [he]
            simp
            omega
          have ih := bldTo_lev vars nt dn m (i + 1) (bearRows rows i v) st.1 hl
          refine ⟨hst.1.trans ih.1, by simp [bldStep, hst.2.1], fun u hu => ?_⟩
          show levOk (bldTo vars nt dn m (i + 1) (bearRows rows i v) st.1).1 m ((st.2.set v (bldTo vars nt dn m (i + 1) (bearRows rows i v) st.1).2).getD u 0)
          by_cases hvu : v = u
          · subst hvu
            have e : (st.2.set v (bldTo vars nt dn m (i + 1) (bearRows rows i v) st.1).2).getD v 0 = (bldTo vars nt dn m (i + 1) (bearRows rows i v) st.1).2 := by simp [List.getD, hst.2.1, hu]
            rw [e]
            exact ih.2
          · have e : (st.2.set v (bldTo vars nt dn m (i + 1) (bearRows rows i v) st.1).2).getD u 0 = st.2.getD u 0 := by simp [List.getD, hvu]
            rw [e]
            exact ih.1.lev (hst.2.2 u hu)) ⟨Pre.refl _, rfl, fun v hv => by
          have e : zero6.getD v 0 = 0 := by
            rcases v with _ | _ | _ | _ | _ | _ | v <;> first | rfl | omega
          show levOk ns m (zero6.getD v 0)
          rw [e]
          exact lev_zero ns m⟩
      generalize (vals (dn.getD (vars.getD i 0).toNat 0)).foldl (bldStep (bldTo vars nt dn m (i + 1)) rows i) (ns, zero6) = st at key
      have hl : 2 ≤ st.1.length := by
        obtain ⟨ex, he⟩ := key.1
        rw [he]
        simp
        omega
      exact ⟨key.1.trans (numberTo_pre st.1 st.2), numberTo_lev st.1 hl st.2 m key.2.2⟩
/-- No node but the first two is all zeros. -/
def NZ (ns : List (List Nat)) : Prop := ∀ k, 2 ≤ k → k < ns.length → ∃ v, v < 6 ∧ nodeAt ns k v ≠ 0
theorem lev_uniq (os : List (List Nat)) (hz : NZ os) : ∀ (m m' k : Nat), k ≠ 0 → levOk os m k → levOk os m' k → m = m'
  | 0, 0, _, _, _, _ => rfl
  | 0, m' + 1, k, h0, h, h' => by
    have h1 : k < 2 := h
    rcases h' with h' | ⟨h2, _⟩ <;> omega
  | m + 1, 0, k, h0, h, h' => by
    have h1 : k < 2 := h'
    rcases h with h | ⟨h2, _⟩ <;> omega
  | m + 1, m' + 1, k, h0, h, h' => by
    rcases h with h | ⟨h2, hl, h⟩
    · exact absurd h h0
    · rcases h' with h' | ⟨_, _, h'⟩
      · exact absurd h' h0
      · obtain ⟨v, hv, hn⟩ := hz k h2 hl
        rw [lev_uniq os hz m m' _ hn (h v hv) (h' v hv)]
theorem nz_of6 (n : List Nat) (h6 : n.length = 6) (h : n ≠ zero6) : ∃ v, v < 6 ∧ n.getD v 0 ≠ 0 := by
  refine Classical.byContradiction fun hc => h ?_
  refine List.ext_getElem (by rw [h6]; rfl) fun i h1 h2 => ?_
  have h3 : n.getD i 0 = 0 := Classical.byContradiction fun hx => hc ⟨i, by omega, hx⟩
  have h4 : n[i] = 0 := by
    simpa [List.getD, List.getElem?_eq_getElem h1] using h3
  rw [h4]
  have h5 : i < 6 := by omega
  rcases i with _ | _ | _ | _ | _ | _ | i <;> first | rfl | omega
theorem numberTo_nz (ns : List (List Nat)) (hz : NZ ns) (n : List Nat) (h6 : n.length = 6) : NZ (numberTo ns n).1 := by
  unfold numberTo
  split
  · exact hz
  · rename_i hn
    split
    · exact hz
    · intro k h2 hk
      by_cases hl : k < ns.length
      · obtain ⟨v, hv, hx⟩ := hz k h2 hl
        exact ⟨v, hv, by rw [nodeAt_app ns [n] k v hl]; exact hx⟩
      · have e : k = ns.length := by simp at hk; omega
        subst e
        obtain ⟨v, hv, hx⟩ := nz_of6 n h6 hn
        exact ⟨v, hv, by simpa [nodeAt, List.getD] using hx⟩
/-- A cutter's state: its memo answers nodes of the same depth. -/
structure CLev (os : List (List Nat)) (s : CS) : Prop where
  two : 2 ≤ s.ns.length
  nz : NZ s.ns
  mv : ∀ k x, s.mv k = some x → ∀ m, 2 ≤ k → levOk os m k → levOk s.ns m x
theorem cutTo_lev (os : List (List Nat)) (hz : NZ os) (vars : List Int) (dn : List Nat) (hd : ∀ q, dn.getD q 0 < 64) : ∀ (m i old : Nat) (s : CS), levOk os m old → CLev os s → Pre s.ns (cutTo os vars dn m i old s).1.ns ∧ CLev os (cutTo os vars dn m i old s).1 ∧ levOk (cutTo os vars dn m i old s).1.ns m (cutTo os vars dn m i old s).2
  | 0, i, old, s, hl, h => ⟨Pre.refl _, h, hl⟩
  | m + 1, i, old, s, hl, h => by
    unfold cutTo
    by_cases ho : old < 2
    · rw [if_pos ho]
      refine ⟨Pre.refl _, h, ?_⟩
      rcases hl with hl | ⟨h2, _⟩
      · exact .inl hl
      · omega
    · rw [if_neg ho]
      cases hm : s.mv old with
      | some k => exact ⟨Pre.refl _, h, h.mv old k hm (m + 1) (by omega) hl⟩
      | none =>
        dsimp only
        have hl' : ∀ v, v < 6 → levOk os m (nodeAt os old v) := by
          rcases hl with h1 | h1
          · exact absurd (by omega) ho
          · exact h1.2.2
        have key := foldl_keep (fun (st : CS × List Nat) => Pre s.ns st.1.ns ∧ CLev os st.1 ∧ st.2.length = 6 ∧ ∀ v, v < 6 → levOk st.1.ns m (st.2.getD v 0)) (cutStep (cutTo os vars dn m (i + 1)) os old (vars.getD i 0).toNat) (vals (dn.getD (vars.getD i 0).toNat 0)) (s, zero6)
          (fun st v hv hst => by
            have hv6 : v < 6 := vals_lt6 (hd _) hv
            have ih := cutTo_lev os hz vars dn hd m (i + 1) (nodeAt os old v) st.1 (hl' v hv6) hst.2.1
            refine ⟨hst.1.trans ih.1, ⟨ih.2.1.two, ih.2.1.nz, ih.2.1.mv⟩, by simp [cutStep, hst.2.2.1], fun u hu => ?_⟩
            show levOk (cutTo os vars dn m (i + 1) (nodeAt os old v) st.1).1.ns m ((st.2.set v (cutTo os vars dn m (i + 1) (nodeAt os old v) st.1).2).getD u 0)
            by_cases hvu : v = u
            · subst hvu
              have e : (st.2.set v (cutTo os vars dn m (i + 1) (nodeAt os old v) st.1).2).getD v 0 = (cutTo os vars dn m (i + 1) (nodeAt os old v) st.1).2 := by simp [List.getD, hst.2.2.1, hu]
              rw [e]
              exact ih.2.2
            · have e : (st.2.set v (cutTo os vars dn m (i + 1) (nodeAt os old v) st.1).2).getD u 0 = st.2.getD u 0 := by simp [List.getD, hvu]
              rw [e]
              exact ih.1.lev (hst.2.2.2 u hu)) ⟨Pre.refl _, h, rfl, fun v hv => by
            have e : zero6.getD v 0 = 0 := by
              rcases v with _ | _ | _ | _ | _ | _ | v <;> first | rfl | omega
            show levOk s.ns m (zero6.getD v 0)
            rw [e]
            exact lev_zero s.ns m⟩
        generalize (vals (dn.getD (vars.getD i 0).toNat 0)).foldl (cutStep (cutTo os vars dn m (i + 1)) os old (vars.getD i 0).toNat) (s, zero6) = st at key
        obtain ⟨k1, k2, k3, k4⟩ := key
        have hp := numberTo_pre st.1.ns st.2
        have hlv := numberTo_lev st.1.ns k2.two st.2 m k4
        refine ⟨k1.trans hp, ⟨?_, numberTo_nz st.1.ns k2.nz st.2 k3, ?_⟩, hlv⟩
        · obtain ⟨ex, he⟩ := hp
          show 2 ≤ (numberTo st.1.ns st.2).1.length
          rw [he]
          have := k2.two
          simp
          omega
        · intro k x hx m' hk2 hkl
          have hx' : (if k = old then some (numberTo st.1.ns st.2).2 else st.1.mv k) = some x := hx
          split at hx'
          · rename_i hko
            subst hko
            cases hx'
            rw [lev_uniq os hz m' (m + 1) k (by omega) hkl hl]
            exact hlv
          · exact hp.lev (k2.mv k x hx' m' hk2 hkl)
theorem bldTo_nz (vars : List Int) (nt : Bool) (dn : List Nat) : ∀ (m i : Nat) (rows : List (List Int)) (ns : List (List Nat)), NZ ns → NZ (bldTo vars nt dn m i rows ns).1
  | 0, i, rows, ns, h => by
    unfold bldTo
    split
    · exact h
    · split <;> exact h
  | m + 1, i, rows, ns, h => by
    unfold bldTo
    split
    · exact h
    · have key := foldl_keep (fun (st : List (List Nat) × List Nat) => NZ st.1 ∧ st.2.length = 6) (bldStep (bldTo vars nt dn m (i + 1)) rows i) (vals (dn.getD (vars.getD i 0).toNat 0)) (ns, zero6)
        (fun st v _ hst => ⟨bldTo_nz vars nt dn m (i + 1) (bearRows rows i v) st.1 hst.1, by simp [bldStep, hst.2]⟩) ⟨h, rfl⟩
      exact numberTo_nz _ key.1 _ key.2
end Go.Proofs.Ytkjfpdfkcfgfkaa

/- Tables of every kind: what each is in memory, what its methods do. -/
namespace Go.Proofs.Ytkjfpdfkcfgfkaa
open Go.RowKit

/-- What is left of a table. -/
inductive TS where
  | rs (nt : Bool) (br : List Nat) (live : Nat)
  | dg (nv : Value) (os : List (List Nat)) (root : Nat)
/-- A table in memory: the block of its struct G, of its variables g. -/
def TAt (w : World) (G g cap : Nat) (vars : List Int) : TS → Prop
  | .rs nt br live => Blk w G (rsCells (.slice (some ⟨g, 0, none⟩) vars.length cap) nt br live) 142 ∧ Row w (.slice (some ⟨g, 0, none⟩) vars.length cap) 3 (vars.map (Value.int .i64)) ∧
      br.length = 24 ∧ (∀ j, br.getD j 0 < 18446744073709551616) ∧ live < 18446744073709551616 ∧ vars.length ≤ cap
  | .dg nv os root => DAt w G g cap nv vars os root ∧ os.length ≤ 100000 ∧ levOk os vars.length root ∧ NZ os
/-- The block of a diagram's nodes. -/
def TS.nodes : TS → Nat → Prop
  | .rs .. => fun _ => False
  | .dg nv _ _ => fun k => nv.ownBlock = some k
def TS.ty : TS → TypeId
  | .rs .. => 115
  | .dg .. => 113
def TS.fnNarrow : TS → FuncId
  | .rs .. => 113
  | .dg .. => 107
def TS.fnState : TS → FuncId
  | .rs .. => 114
  | .dg .. => 108
def TS.state : TS → Array Value
  | .rs _ _ live => #[.int .u64 (live : Int), .slice none 0 0, .int .i64 0]
  | .dg nv _ root => #[.int .u64 0, nv, .int .i64 (root : Int)]
/-- What Narrow makes of domains, and what is left. -/
def tDom (vars : List Int) (dn : List Nat) : TS → List Nat
  | .rs false br live => nDom br live vars dn
  | .rs true br live => nDomN br live vars dn
  | .dg _ os root => dDom os root vars dn
/-- What is left behind Narrow, but for where a diagram's nodes lie. -/
def TS.Next (vars : List Int) (dn : List Nat) : TS → TS → Prop
  | .rs nt br live, t' => t' = .rs nt br (nLive br live vars dn)
  | .dg _ os root, t' => ∃ nv', t' = .dg nv' (dCut os root vars dn).1.ns (dCut os root vars dn).2

theorem TAt.fr {S : Nat → Prop} {w w' : World} {G g cap : Nat} {vars : List Int} {t : TS} (h : TAt w G g cap vars t) (f : Fr S w w') (hn : ∀ k, (k = G ∨ k = g ∨ t.nodes k) → ¬ S k) : TAt w' G g cap vars t := by
  cases t with
  | rs nt br live => exact ⟨h.1.fr f (hn _ (.inl rfl)), h.2.1.fr f (fun k hk => hn k (.inr (.inl (by cases hk; rfl)))), h.2.2⟩
  | dg nv os root => exact ⟨h.1.fr f hn, h.2⟩
theorem TAt.nw {w w' : World} {G g cap : Nat} {vars : List Int} {t : TS} (h : TAt w G g cap vars t) (f : Nw w w') : TAt w' G g cap vars t := h.fr f (fun _ _ x => x)
theorem TAt.lt {w : World} {G g cap : Nat} {vars : List Int} {t : TS} (h : TAt w G g cap vars t) {k : Nat} (hk : k = G ∨ k = g ∨ t.nodes k) : k < w.heap.size := by
  cases t with
  | rs nt br live =>
    rcases hk with rfl | rfl | hk
    · exact h.1.lt
    · exact h.2.1.lt rfl
    · exact hk.elim
  | dg nv os root => exact h.1.lt hk
theorem TS.meth_state (t : TS) (G : Nat) (W : World) : (method 286 t.ty (.pointer (some ⟨G, 0, none⟩)) "State").run Try.prog W = .ok (t.fnState, .pointer (some ⟨G, 0, none⟩)) W := by
  cases t with
  | rs nt br live =>
    simp only [TS.ty, TS.fnState]
    kernel_rfl
  | dg nv os root =>
    simp only [TS.ty, TS.fnState]
    exact meth_dstate G W
theorem TS.meth_narrow (t : TS) (G : Nat) (W : World) : (method 286 t.ty (.pointer (some ⟨G, 0, none⟩)) "Narrow").run Try.prog W = .ok (t.fnNarrow, .pointer (some ⟨G, 0, none⟩)) W := by
  cases t with
  | rs nt br live =>
    simp only [TS.ty, TS.fnNarrow]
    exact Go.Proofs.Ytkjfpdfkcfgfkaa.meth_narrow G W
  | dg nv os root =>
    simp only [TS.ty, TS.fnNarrow]
    exact meth_dnarrow G W
set_option maxHeartbeats 400000 in
theorem stateRs_any (G : Nat) (vv : Value) (nt : Bool) (br : List Nat) (live : Nat) (w : World) (hG : Blk w G (rsCells vv nt br live) 142) (h24 : br.length = 24) :
    Calls Try.prog 114 #[.pointer (some ⟨G, 0, none⟩)] w fun e w' => e = .returned (.agg #[.int .u64 live, .slice none 0 0, .int .i64 0]) ∧ Nw w w' := by
  have h1 : w.cell? ⟨G, 26, none⟩ = some (.int .u64 (live : Int)) := (hG.cell 26).trans (by simp [rsCells, h24])
  have hGlt := hG.lt
  clear hG
  go_enter Try.func114, Try.ntmps114
  go_wp2
  refine bodyPost_ret (v := .agg #[.int .u64 live, .slice none 0 0, .int .i64 0]) ?_ rfl ⟨rfl, (Fr.refl _ w).alloc _⟩
  simp [results, Try.results114, go_sem]

/-- State of a table of any kind. -/
theorem stateT_any (G g cap : Nat) (vars : List Int) (t : TS) (w : World) (h : TAt w G g cap vars t) : Calls Try.prog t.fnState #[.pointer (some ⟨G, 0, none⟩)] w fun e w' => e = .returned (.agg t.state) ∧ Nw w w' := by
  cases t with
  | rs nt br live => exact stateRs_any G _ nt br live w h.1 h.2.2.1
  | dg nv os root => exact dState_any G g cap nv vars os root w h.1

theorem s0_lev (os : List (List Nat)) : CLev os s0 := ⟨by decide, fun k h2 hk => absurd hk (by show ¬ k < 2; omega), fun k x h => by cases h⟩
/-- What dCut leaves is a diagram again. -/
theorem dCut_lev (os : List (List Nat)) (root : Nat) (vars : List Int) (dn : List Nat) (hz : NZ os) (hd : ∀ q, dn.getD q 0 < 64) (h4 : vars.length ≤ 4) (hl : levOk os vars.length root) :
    (dCut os root vars dn).1.ns.length ≤ 100000 ∧ levOk (dCut os root vars dn).1.ns vars.length (dCut os root vars dn).2 ∧ NZ (dCut os root vars dn).1.ns := by
  have h1 := cutTo_lev os hz vars dn hd vars.length 0 root s0 hl (s0_lev os)
  have h2 := cutTo_ok os vars dn hd vars.length 0 root s0 2 (by omega) hl ⟨by decide, by decide, by decide, rfl, zero8_lt, fun k x h => by cases h⟩
  have hc : cnt vars.length ≤ 259 := by
    have : ∀ n : Fin 5, cnt n.val ≤ 259 := by decide
    exact this ⟨vars.length, by omega⟩
  refine ⟨?_, h1.2.2, h1.2.1.nz⟩
  have := h2.1.ns
  show (cutTo os vars dn vars.length 0 root s0).1.ns.length ≤ 100000
  omega
/-- Narrow of a table of any kind. -/
theorem narrowT_any (G g cap : Nat) (vars : List Int) (t : TS) (dn : List Nat) (w : World) (h : TAt w G g cap vars t) (h8 : dn.length = 8) (h4 : vars.length ≤ 4) (hv : ∀ i, i < vars.length → 0 ≤ vars.getD i 0 ∧ vars.getD i 0 < 8) (hd64 : ∀ q, dn.getD q 0 < 64) :
    Calls Try.prog t.fnNarrow #[.pointer (some ⟨G, 0, none⟩), .agg (domV dn)] w fun e w' => e = .returned (.agg (domV (tDom vars dn t))) ∧ Fr (fun k => k = G) w w' ∧
      ∃ t', TS.Next vars dn t t' ∧ TAt w' G g cap vars t' ∧ ∀ k, t'.nodes k → w.heap.size ≤ k := by
  cases t with
  | rs nt br live =>
    obtain ⟨hb, hr, h24, hbr, hlive, hcap⟩ := h
    have hgG : g ≠ G := fun e => by subst e; exact hr.ne hb (by decide) rfl
    have fin : ∀ (w' : World), Fr (fun k => k = G) w w' → Blk w' G (rsCells (.slice (some ⟨g, 0, none⟩) vars.length cap) nt br (nLive br live vars dn)) 142 →
        ∃ t', TS.Next vars dn (.rs nt br live) t' ∧ TAt w' G g cap vars t' ∧ ∀ k, t'.nodes k → w.heap.size ≤ k := fun w' f b =>
      ⟨_, rfl, ⟨b, hr.fr f (fun k hk => by cases hk; exact hgG), h24, hbr, dropTo_lt br vars dn live hlive _, hcap⟩, fun k hk => hk.elim⟩
    cases nt with
    | false => exact (narrow_any G g cap br live vars dn w hb hr h8 h24 hbr hlive h4 hv hd64).mono fun e w' ⟨h1, h2, h3⟩ => ⟨h1, h2, fin w' h2 h3⟩
    | true => exact (narrowN_any G g cap br live vars dn w hb hr h8 h24 hbr hlive h4 hcap hv hd64).mono fun e w' ⟨h1, h2, h3⟩ => ⟨h1, h2, fin w' h2 h3⟩
  | dg nv os root =>
    obtain ⟨hD, hol, hlev, hz⟩ := h
    exact (dNarrow_any G g cap nv vars os root dn w hD h8 h4 hv hd64 hol hlev).mono fun e w' ⟨h1, h2, nv', h3, h4'⟩ => ⟨h1, h2, _, ⟨nv', rfl⟩, ⟨h3, dCut_lev os root vars dn hz hd64 h4 hlev⟩, h4'⟩

theorem Row.cap {w : World} {g n cap : Nat} {e : TypeId} {xs : List Value} (h : Row w (.slice (some ⟨g, 0, none⟩) n cap) e xs) : n ≤ cap := by
  rcases h.2 with ⟨h2, _⟩ | ⟨g', cap', cur, he, _, _, hc, _⟩
  · cases h2
  · cases he
    exact hc
/-- The table that Make makes of rows, but for where a diagram's nodes lie. -/
def TS.Made (vars : List Int) (rows : List (List Int)) (nt : Bool) (dn : List Nat) : Int → TS → Prop
  | 1, t => t = .rs nt (brTo rows rows.length) (2 ^ rows.length - 1)
  | _, t => ∃ nv, t = .dg nv (bldTo vars nt dn vars.length 0 rows [zero6, zero6]).1 (bldTo vars nt dn vars.length 0 rows [zero6, zero6]).2
/-- Make, of either way. -/
theorem makeT_any (vb vof : Nat) (ro : Option Addr) (vcap rcap : Nat) (vars : List Int) (rows : List (List Int)) (nt : Bool) (way : Int) (hway : way = 1 ∨ way = 2) (dn : List Nat) (w : World) (h8 : dn.length = 8) (hv0 : 0 < vars.length) (h4 : vars.length ≤ 4)
    (hv : ∀ i, i < vars.length → 0 ≤ vars.getD i 0 ∧ vars.getD i 0 < 8) (hd64 : ∀ q, dn.getD q 0 < 64) (hrl : rows.length ≤ 60) (hrow : ∀ j, j < rows.length → (rows.getD j []).length = vars.length)
    (hvs : IntsAt w (some ⟨vb, vof, none⟩) vars) (hrs : RowsAt w ro rows) :
    Calls Try.prog 52 #[.agg #[.slice (some ⟨vb, vof, none⟩) vars.length vcap, .slice ro rows.length rcap, .bool nt, .int .i64 way], .agg (domV dn)] w fun e w' =>
      ∃ G g cap t, e = .returned (.iface t.ty (.pointer (some ⟨G, 0, none⟩))) ∧ Nw w w' ∧ TS.Made vars rows nt dn way t ∧ TAt w' G g cap vars t ∧ (∀ k, (k = G ∨ k = g ∨ t.nodes k) → w.heap.size ≤ k) := by
  rcases hway with rfl | rfl
  · refine (make1_any vb vof ro vcap rcap vars rows nt (domV dn) w hv0 h4 hrl (fun i hi => by rw [hrow i hi]; exact h4) hvs hrs).mono ?_
    rintro e w' ⟨G, g, cap, rfl, hf, hb, hr, hG, hg⟩
    have hp : 2 ^ rows.length ≤ 2 ^ 60 := Nat.pow_le_pow_right (by omega) hrl
    refine ⟨G, g, cap, .rs nt (brTo rows rows.length) (2 ^ rows.length - 1), rfl, hf, rfl, ⟨hb, hr, brTo_length _ _, fun j => Nat.lt_of_lt_of_le (brTo_lt rows rows.length j) (by omega), by omega, hr.cap⟩, ?_⟩
    rintro k (rfl | rfl | hk)
    · exact hG
    · exact hg
    · exact hk.elim
  · refine (make2_any vb vof ro vcap rcap vars rows nt dn w h8 hv0 h4 hv hd64 hrl hrow hvs hrs).mono ?_
    rintro e w' ⟨G, g, cap, nv, rfl, hf, hD, hG, hg, hn⟩
    have hc : cnt vars.length ≤ 259 := by
      have : ∀ n : Fin 5, cnt n.val ≤ 259 := by decide
      exact this ⟨vars.length, by omega⟩
    have hl := bldTo_len vars nt dn hd64 vars.length 0 rows [zero6, zero6] (by decide)
    have hl2 : [zero6, zero6].length = 2 := rfl
    refine ⟨G, g, cap, .dg nv _ _, rfl, hf, ⟨nv, rfl⟩, ⟨hD, by omega, (bldTo_lev vars nt dn vars.length 0 rows [zero6, zero6] (by decide)).2, bldTo_nz vars nt dn vars.length 0 rows [zero6, zero6] (fun k h2 hk => absurd hk (by show ¬ k < 2; omega))⟩, ?_⟩
    rintro k (rfl | rfl | hk)
    · exact hG
    · exact hg
    · exact hn k hk
/-- What a table was: of the same kind, its nodes still there. -/
def TS.Was (w : World) (G : Nat) (vars : List Int) : TS → TS → Prop
  | .rs nt br _, .rs nt0 br0 live0 => nt0 = nt ∧ br0 = br ∧ live0 < 18446744073709551616
  | .dg _ _ _, .dg nv0 os0 root0 => w.ownsRow 0 154 6 nv0 os0.length (os0.flatMap nodeC) ∧ (∀ n ∈ os0, NodeOk n) ∧ 2 ≤ os0.length ∧ nv0.ownBlock ≠ some G ∧ os0.length ≤ 100000 ∧ levOk os0 vars.length root0 ∧ NZ os0
  | _, _ => False
/-- PutBack, of a table of any kind. -/
theorem putBackT_any (G g cap : Nat) (vars : List Int) (t t0 : TS) (w : World) (h : TAt w G g cap vars t) (h0 : TS.Was w G vars t t0) :
    Calls Try.prog 81 #[.iface t.ty (.pointer (some ⟨G, 0, none⟩)), .agg t0.state] w fun e w' => e = .returned (.tuple #[]) ∧ Fr (fun k => k = G) w w' ∧ TAt w' G g cap vars t0 := by
  cases t with
  | rs nt br live =>
    cases t0 with
    | rs nt0 br0 live0 =>
      obtain ⟨rfl, rfl, hl0⟩ := h0
      obtain ⟨hb, hr, h24, hbr, hlive, hcap⟩ := h
      have hgG : g ≠ G := fun e => by subst e; exact hr.ne hb (by decide) rfl
      exact (putBack_rs G _ nt0 br0 live live0 _ 0 w h24 hb).mono fun e w' ⟨h1, h2, h3⟩ => ⟨h1, h2, ⟨h3, hr.fr h2 (fun k hk => by cases hk; exact hgG), h24, hbr, hl0, hcap⟩⟩
    | dg nv0 os0 root0 => exact h0.elim
  | dg nv os root =>
    cases t0 with
    | rs nt0 br0 live0 => exact h0.elim
    | dg nv0 os0 root0 =>
      obtain ⟨hrow, hok, h2, hnG, hrest⟩ := h0
      exact (putBack_d G g cap nv nv0 vars os os0 root root0 _ w h.1 hrow hok h2 hnG).mono fun e w' ⟨h1, h2, h3⟩ => ⟨h1, h2, ⟨h3, hrest⟩⟩
end Go.Proofs.Ytkjfpdfkcfgfkaa

/- What Narrow leaves, in the document's words: tables of Way 1. -/
namespace Go.Proofs.Ytkjfpdfkcfgfkaa

/-- A list of values, one for each of a table's variables, out of the domains. -/
def OutOf (vars : List Int) (dn : List Nat) (l : List Nat) : Prop := l.length = vars.length ∧ ∀ i, i < vars.length → (dn.getD (vars.getD i 0).toNat 0).testBit (l.getD i 0) = true
/-- A row covers a list of values. -/
def Covers (row : List Int) (l : List Nat) : Prop := ∀ i, i < l.length → bearsB (row.getD i 0) (l.getD i 0) = true
/-- Rows allow a list of values. -/
def Allow (rows : List (List Int)) (nt : Bool) (l : List Nat) : Prop := if nt then ∀ j, j < rows.length → ¬ Covers (rows.getD j []) l else ∃ j, j < rows.length ∧ Covers (rows.getD j []) l
/-- Value v of entry i is supported. -/
def Supp (vars : List Int) (rows : List (List Int)) (nt : Bool) (dn : List Nat) (i v : Nat) : Prop := ∃ l, OutOf vars dn l ∧ l.getD i 0 = v ∧ Allow rows nt l

theorem vals_mem {s v : Nat} (hs : s < 64) : v ∈ vals s ↔ s.testBit v = true := by
  simp only [vals, List.mem_filter, List.mem_range]
  refine ⟨fun h => h.2, fun h => ⟨?_, h⟩⟩
  refine Classical.byContradiction fun hc => ?_
  have : s.testBit v = false := Nat.testBit_lt_two_pow (Nat.lt_of_lt_of_le hs (Nat.le_trans (show 64 ≤ 2 ^ 6 by decide) (Nat.pow_le_pow_right (by omega) (by omega))))
  rw [this] at h
  cases h
theorem brTo_bit (rows : List (List Int)) (i v : Nat) (hi : i < 4) (hv : v < 6) : ∀ k r, ((brTo rows k).getD (6 * i + v) 0).testBit r = true ↔ r < k ∧ i < (rows.getD r []).length ∧ bearsB ((rows.getD r []).getD i 0) v = true
  | 0, r => by
    have e : (brTo rows 0).getD (6 * i + v) 0 = 0 := by
      simp only [brTo, List.getD, List.getElem?_replicate]
      split <;> rfl
    rw [e]
    simp
  | k + 1, r => by
    have hj : 6 * i + v < (brTo rows k).length := by rw [brTo_length]; omega
    have ih := brTo_bit rows i v hi hv k r
    simp only [brTo]
    rw [addTo_get _ _ _ _ _ hj, show (6 * i + v) / 6 = i by omega, show (6 * i + v) % 6 = v by omega]
    have hd : decide (6 * i + v < 6 * (rows.getD k []).length) = decide (i < (rows.getD k []).length) := by
      apply decide_eq_decide.2
      omega
    rw [hd]
    by_cases hb : (decide (i < (rows.getD k []).length) && bearsB ((rows.getD k []).getD i 0) v) = true
    · rw [if_pos hb, Nat.testBit_or, Bool.or_eq_true, ih, Nat.testBit_two_pow]
      simp only [Bool.and_eq_true, decide_eq_true_eq] at hb ⊢
      constructor
      · rintro (⟨h1, h2⟩ | rfl)
        · exact ⟨by omega, h2⟩
        · exact ⟨by omega, hb⟩
      · rintro ⟨h1, h2⟩
        by_cases hr : k = r
        · exact .inr hr
        · exact .inl ⟨by omega, h2⟩
    · rw [if_neg hb, ih]
      simp only [Bool.and_eq_true, decide_eq_true_eq] at hb
      constructor
      · rintro ⟨h1, h2⟩
        exact ⟨by omega, h2⟩
      · rintro ⟨h1, h2⟩
        refine ⟨?_, h2⟩
        by_cases hr : k = r
        · subst hr
          exact absurd h2 hb
        · omega
theorem orBr_bit (br : List Nat) (i r : Nat) (vs : List Nat) : (orBr br i vs).testBit r = true ↔ ∃ v ∈ vs, (br.getD (6 * i + v) 0).testBit r = true := by
  suffices h : ∀ (vs : List Nat) (acc : Nat), (vs.foldl (fun acc v => acc ||| br.getD (6 * i + v) 0) acc).testBit r = true ↔ acc.testBit r = true ∨ ∃ v ∈ vs, (br.getD (6 * i + v) 0).testBit r = true by
    have := h vs 0
    simpa [orBr] using this
  intro vs
  induction vs with
  | nil => intro acc; simp
  | cons a l ih =>
    intro acc
    rw [List.foldl_cons, ih]
    simp only [Nat.testBit_or, Bool.or_eq_true, List.mem_cons]
    constructor
    · rintro ((h | h) | ⟨v, hv, h⟩)
      · exact .inl h
      · exact .inr ⟨a, .inl rfl, h⟩
      · exact .inr ⟨v, .inr hv, h⟩
    · rintro (h | ⟨v, rfl | hv, h⟩)
      · exact .inl (.inl h)
      · exact .inl (.inr h)
      · exact .inr ⟨v, hv, h⟩
theorem dropTo_bit (br : List Nat) (vars : List Int) (dn : List Nat) (live r : Nat) : ∀ k, (dropTo br vars dn live k).testBit r = true ↔ live.testBit r = true ∧ ∀ i, i < k → ∃ v ∈ vals (dn.getD (vars.getD i 0).toNat 0), (br.getD (6 * i + v) 0).testBit r = true
  | 0 => by simp [dropTo]
  | k + 1 => by
    simp only [dropTo, Nat.testBit_and, Bool.and_eq_true, dropTo_bit br vars dn live r k, orBr_bit]
    constructor
    · rintro ⟨⟨h1, h2⟩, h3⟩
      refine ⟨h1, fun i hi => ?_⟩
      by_cases hk : i = k
      · subst hk; exact h3
      · exact h2 i (by omega)
    · rintro ⟨h1, h2⟩
      exact ⟨⟨h1, fun i hi => h2 i (by omega)⟩, h2 k (by omega)⟩
theorem getD_set8 (l : List Nat) (q p x : Nat) (hq : q < l.length) : (l.set q x).getD p 0 = if q = p then x else l.getD p 0 := by
  simp only [List.getD, List.getElem?_set]
  split
  · simp
  · rfl
theorem replTo_get (vars : List Int) (d s : List Nat) (hv : ∀ i, i < vars.length → (vars.getD i 0).toNat < d.length) (q : Nat) : ∀ k, k ≤ vars.length → (replTo vars d s k).getD q 0 = if ∃ i, i < k ∧ (vars.getD i 0).toNat = q then s.getD q 0 else d.getD q 0
  | 0, _ => by simp [replTo]
  | k + 1, hk => by
    simp only [replTo]
    rw [getD_set8 _ _ _ _ (by rw [replTo_length]; exact hv k (by omega)), replTo_get vars d s hv q k (by omega)]
    by_cases h : (vars.getD k 0).toNat = q
    · rw [if_pos h, if_pos ⟨k, by omega, h⟩, h]
    · rw [if_neg h]
      by_cases h2 : ∃ i, i < k ∧ (vars.getD i 0).toNat = q
      · obtain ⟨i, hi, e⟩ := h2
        rw [if_pos ⟨i, hi, e⟩, if_pos ⟨i, by omega, e⟩]
      · rw [if_neg h2, if_neg]
        rintro ⟨i, hi, e⟩
        by_cases hk : i = k
        · subst hk; exact h e
        · exact h2 ⟨i, by omega, e⟩
theorem mkFold_bit (br : List Nat) (live k v : Nat) (vs : List Nat) : ∀ init, (mkFold br live k vs init).testBit v = true ↔ init.testBit v = true ∨ (v ∈ vs ∧ live &&& br.getD (6 * k + v) 0 ≠ 0) := by
  induction vs with
  | nil => intro init; simp [mkFold]
  | cons a l ih =>
    intro init
    have e : mkFold br live k (a :: l) init = mkFold br live k l (if live &&& br.getD (6 * k + a) 0 = 0 then init else init ||| 2 ^ a) := rfl
    rw [e, ih]
    by_cases h0 : live &&& br.getD (6 * k + a) 0 = 0
    · rw [if_pos h0]
      constructor
      · rintro (h | ⟨h1, h2⟩)
        · exact .inl h
        · exact .inr ⟨List.mem_cons_of_mem _ h1, h2⟩
      · rintro (h | ⟨h1, h2⟩)
        · exact .inl h
        · rcases List.mem_cons.1 h1 with rfl | h1
          · exact absurd h0 h2
          · exact .inr ⟨h1, h2⟩
    · rw [if_neg h0, Nat.testBit_or, Bool.or_eq_true, Nat.testBit_two_pow, decide_eq_true_eq]
      constructor
      · rintro ((h | rfl) | ⟨h1, h2⟩)
        · exact .inl h
        · exact .inr ⟨List.mem_cons_self .., h0⟩
        · exact .inr ⟨List.mem_cons_of_mem _ h1, h2⟩
      · rintro (h | ⟨h1, h2⟩)
        · exact .inl (.inl h)
        · rcases List.mem_cons.1 h1 with rfl | h1
          · exact .inl (.inr rfl)
          · exact .inr ⟨h1, h2⟩
theorem markTo_bit (br : List Nat) (live : Nat) (vars : List Int) (dn sp : List Nat) (hv : ∀ i, i < vars.length → (vars.getD i 0).toNat < sp.length) (q v : Nat) : ∀ k, k ≤ vars.length →
    (((markTo br live vars dn sp k).getD q 0).testBit v = true ↔ (sp.getD q 0).testBit v = true ∨ ∃ i, i < k ∧ (vars.getD i 0).toNat = q ∧ v ∈ vals (dn.getD q 0) ∧ live &&& br.getD (6 * i + v) 0 ≠ 0)
  | 0, _ => by simp [markTo]
  | k + 1, hk => by
    have ih := markTo_bit br live vars dn sp hv q v k (by omega)
    simp only [markTo]
    rw [getD_set8 _ _ _ _ (by rw [markTo_length]; exact hv k (by omega))]
    by_cases h : (vars.getD k 0).toNat = q
    · rw [if_pos h, h, mkFold_bit, ih]
      constructor
      · rintro ((h1 | ⟨i, hi, h2⟩) | h1)
        · exact .inl h1
        · exact .inr ⟨i, by omega, h2⟩
        · exact .inr ⟨k, by omega, h, h1⟩
      · rintro (h1 | ⟨i, hi, h2⟩)
        · exact .inl (.inl h1)
        · by_cases hik : i = k
          · subst hik
            exact .inr h2.2
          · exact .inl (.inr ⟨i, by omega, h2⟩)
    · rw [if_neg h, ih]
      constructor
      · rintro (h1 | ⟨i, hi, h2⟩)
        · exact .inl h1
        · exact .inr ⟨i, by omega, h2⟩
      · rintro (h1 | ⟨i, hi, h2⟩)
        · exact .inl h1
        · by_cases hik : i = k
          · subst hik
            exact absurd h2.1 h
          · exact .inr ⟨i, by omega, h2⟩
theorem outOf_choose (vars : List Int) (dn : List Nat) (P : Nat → Nat → Prop) (h : ∀ i, i < vars.length → ∃ v, (dn.getD (vars.getD i 0).toNat 0).testBit v = true ∧ P i v) : ∃ l, OutOf vars dn l ∧ ∀ i, i < vars.length → P i (l.getD i 0) := by
  let f : Nat → Nat := fun i => if hi : i < vars.length then Classical.choose (h i hi) else 0
  have hf : ∀ i, (hi : i < vars.length) → ((List.range vars.length).map f).getD i 0 = Classical.choose (h i hi) := by
    intro i hi
    simp [List.getD, hi, f]
  refine ⟨(List.range vars.length).map f, ⟨by simp, fun i hi => ?_⟩, fun i hi => ?_⟩
  · rw [hf i hi]
    exact (Classical.choose_spec (h i hi)).1
  · rw [hf i hi]
    exact (Classical.choose_spec (h i hi)).2
theorem OutOf.set {vars : List Int} {dn l : List Nat} (h : OutOf vars dn l) (i v : Nat) (hv : (dn.getD (vars.getD i 0).toNat 0).testBit v = true) : OutOf vars dn (l.set i v) := by
  refine ⟨by simp [h.1], fun k hk => ?_⟩
  by_cases hki : i = k
  · subst hki
    have e : (l.set i v).getD i 0 = v := by simp [List.getD, h.1, hk]
    rw [e]
    exact hv
  · have e : (l.set i v).getD k 0 = l.getD k 0 := by simp [List.getD, hki]
    rw [e]
    exact h.2 k hk
theorem Covers.set {row : List Int} {l : List Nat} (h : Covers row l) (i v : Nat) (hv : bearsB (row.getD i 0) v = true) : Covers row (l.set i v) := by
  intro k hk
  have hk' : k < l.length := by simpa using hk
  by_cases hki : i = k
  · subst hki
    have e : (l.set i v).getD i 0 = v := by simp [List.getD, hk']
    rw [e]
    exact hv
  · have e : (l.set i v).getD k 0 = l.getD k 0 := by simp [List.getD, hki]
    rw [e]
    exact h k hk'
/-- Rows that live are rows; those that cover a list out of the domains live. -/
def RsRep (vars : List Int) (rows : List (List Int)) (dn : List Nat) (live : Nat) : Prop := (∀ j, live.testBit j = true → j < rows.length) ∧ ∀ j, j < rows.length → (∃ l, OutOf vars dn l ∧ Covers (rows.getD j []) l) → live.testBit j = true
theorem bit_lt6 {s v : Nat} (hs : s < 64) (h : s.testBit v = true) : v < 6 := vals_lt6 hs ((vals_mem hs).2 h)
theorem nLive_bit (vars : List Int) (rows : List (List Int)) (dn : List Nat) (live : Nat) (h4 : vars.length ≤ 4) (hd : ∀ q, dn.getD q 0 < 64) (hrow : ∀ j, j < rows.length → (rows.getD j []).length = vars.length) (hR : RsRep vars rows dn live) (j : Nat) :
    (nLive (brTo rows rows.length) live vars dn).testBit j = true ↔ j < rows.length ∧ ∃ l, OutOf vars dn l ∧ Covers (rows.getD j []) l := by
  unfold nLive
  rw [dropTo_bit]
  constructor
  · rintro ⟨h1, h2⟩
    have hj := hR.1 j h1
    obtain ⟨l, hl, hc⟩ := outOf_choose vars dn (fun i v => bearsB ((rows.getD j []).getD i 0) v = true) (fun i hi => by
      obtain ⟨v, hv, hb⟩ := h2 i hi
      have hb' := (brTo_bit rows i v (by omega) (vals_lt6 (hd _) hv) rows.length j).1 hb
      exact ⟨v, (vals_mem (hd _)).1 hv, hb'.2.2⟩)
    exact ⟨hj, l, hl, fun i hi => hc i (by rw [← hl.1]; exact hi)⟩
  · rintro ⟨hj, l, hl, hc⟩
    refine ⟨hR.2 j hj ⟨l, hl, hc⟩, fun i hi => ⟨l.getD i 0, (vals_mem (hd _)).2 (hl.2 i hi), ?_⟩⟩
    exact (brTo_bit rows i _ (by omega) (bit_lt6 (hd _) (hl.2 i hi)) rows.length j).2 ⟨hj, by rw [hrow j hj]; exact hi, hc i (by rw [hl.1]; exact hi)⟩
theorem nLive_rep (vars : List Int) (rows : List (List Int)) (dn : List Nat) (live : Nat) (h4 : vars.length ≤ 4) (hd : ∀ q, dn.getD q 0 < 64) (hrow : ∀ j, j < rows.length → (rows.getD j []).length = vars.length) (hR : RsRep vars rows dn live) :
    RsRep vars rows dn (nLive (brTo rows rows.length) live vars dn) :=
  ⟨fun j hj => ((nLive_bit vars rows dn live h4 hd hrow hR j).1 hj).1, fun j hj h => (nLive_bit vars rows dn live h4 hd hrow hR j).2 ⟨hj, h⟩⟩
/-- The variables of a table are ones, and no two are alike. -/
structure VarsOk (vars : List Int) : Prop where
  four : vars.length ≤ 4
  ok : ∀ i, i < vars.length → 0 ≤ vars.getD i 0 ∧ vars.getD i 0 < 8
  one : ∀ i k, i < vars.length → k < vars.length → vars.getD i 0 = vars.getD k 0 → i = k
theorem VarsOk.lt {vars : List Int} (h : VarsOk vars) {i : Nat} (hi : i < vars.length) : (vars.getD i 0).toNat < 8 := by
  have := h.ok i hi
  omega
theorem VarsOk.nat {vars : List Int} (h : VarsOk vars) {i k : Nat} (hi : i < vars.length) (hk : k < vars.length) (e : (vars.getD i 0).toNat = (vars.getD k 0).toNat) : i = k := by
  have h1 := h.ok i hi
  have h2 := h.ok k hk
  exact h.one i k hi hk (by omega)
theorem and_ne_zero (a b : Nat) : a &&& b ≠ 0 ↔ ∃ j, a.testBit j = true ∧ b.testBit j = true := by
  constructor
  · intro h
    refine Classical.byContradiction fun hc => h ?_
    apply Nat.eq_of_testBit_eq
    intro j
    rw [Nat.testBit_and, Nat.zero_testBit]
    cases h1 : a.testBit j with
    | false => rfl
    | true =>
      cases h2 : b.testBit j with
      | false => rfl
      | true => exact absurd ⟨j, h1, h2⟩ hc
  · rintro ⟨j, h1, h2⟩ h0
    have h3 : (a &&& b).testBit j = false := by rw [h0]; exact Nat.zero_testBit j
    rw [Nat.testBit_and, h1, h2] at h3
    cases h3
/-- Way 1, not Not: what Narrow leaves are the supported values. -/
theorem nDom_sem (vars : List Int) (rows : List (List Int)) (dn : List Nat) (live : Nat) (h8 : dn.length = 8) (hV : VarsOk vars) (hd : ∀ q, dn.getD q 0 < 64) (hrow : ∀ j, j < rows.length → (rows.getD j []).length = vars.length) (hR : RsRep vars rows dn live)
    (i v : Nat) (hi : i < vars.length) : ((nDom (brTo rows rows.length) live vars dn).getD (vars.getD i 0).toNat 0).testBit v = true ↔ Supp vars rows false dn i v := by
  unfold nDom
  rw [replTo_get vars dn _ (fun k hk => by rw [h8]; exact hV.lt hk) _ _ (Nat.le_refl _), if_pos ⟨i, hi, rfl⟩, markTo_bit _ _ vars dn zero8 (fun k hk => hV.lt hk) _ _ _ (Nat.le_refl _)]
  have hz : zero8.getD (vars.getD i 0).toNat 0 = 0 := by
    have := hV.lt hi
    generalize (vars.getD i 0).toNat = q at this
    rcases q with _ | _ | _ | _ | _ | _ | _ | _ | q <;> first | rfl | omega
  rw [hz]
  constructor
  · rintro (h | ⟨k, hk, hq, hv, h⟩)
    · simp at h
    · have hki := hV.nat hk hi hq
      subst hki
      obtain ⟨j, h1, h2⟩ := (and_ne_zero _ _).1 h
      obtain ⟨hj, l, hl, hc⟩ := (nLive_bit vars rows dn live hV.four hd hrow hR j).1 h1
      have hb := (brTo_bit rows k v (by have := hV.four; omega) (vals_lt6 (hd _) hv) rows.length j).1 h2
      refine ⟨l.set k v, hl.set k v ((vals_mem (hd _)).1 hv), by simp [List.getD, hl.1, hk], ?_⟩
      exact ⟨j, hj, hc.set k v hb.2.2⟩
  · rintro ⟨l, hl, rfl, h⟩
    obtain ⟨j, hj, hc⟩ : ∃ j, j < rows.length ∧ Covers (rows.getD j []) l := h
    have hb := hl.2 i hi
    refine .inr ⟨i, hi, rfl, (vals_mem (hd _)).2 hb, (and_ne_zero _ _).2 ⟨j, (nLive_bit vars rows dn live hV.four hd hrow hR j).2 ⟨hj, l, hl, hc⟩, ?_⟩⟩
    exact (brTo_bit rows i _ (by have := hV.four; omega) (bit_lt6 (hd _) hb) rows.length j).2 ⟨hj, by rw [hrow j hj]; exact hi, hc i (by rw [hl.1]; exact hi)⟩
end Go.Proofs.Ytkjfpdfkcfgfkaa

/- What Narrow leaves, in the document's words: tables of Way 1 with Not. -/
namespace Go.Proofs.Ytkjfpdfkcfgfkaa

theorem foldl_pre {α β : Type} (R : List α → β → Prop) (f : β → α → β) : ∀ (l pre : List α) (b : β), R pre b → (∀ p a b, a ∈ l → R p b → R (p ++ [a]) (f b a)) → R (pre ++ l) (l.foldl f b)
  | [], pre, b, h, _ => by simpa using h
  | a :: l, pre, b, h, hs => by
    have := foldl_pre R f l (pre ++ [a]) (f b a) (hs pre a b (List.mem_cons_self ..) h) (fun p a' b' ha => hs p a' b' (List.mem_cons_of_mem _ ha))
    simpa using this
/-- From entry i on, none of these rows covers l. -/
def Uncov (br : List Nat) (n i R : Nat) (l : List Nat) : Prop := ∀ j, R.testBit j = true → ∃ k, i ≤ k ∧ k < n ∧ (br.getD (6 * k + l.getD k 0) 0).testBit j = false
/-- No more than the domains. -/
def SubD (sp dn : List Nat) : Prop := ∀ q v, (sp.getD q 0).testBit v = true → (dn.getD q 0).testBit v = true
theorem ne_zero_bit {R : Nat} (h : R ≠ 0) : ∃ j, R.testBit j = true := Nat.exists_testBit_of_ne_zero h
theorem fillFrom_get (vars : List Int) (dn sp : List Nat) (hV : VarsOk vars) (h8 : sp.length = 8) (i q : Nat) : ∀ j, i + j ≤ vars.length → (fillFrom vars dn sp i j).getD q 0 = if ∃ k, k < i + j ∧ i ≤ k ∧ (vars.getD k 0).toNat = q then dn.getD q 0 else sp.getD q 0
  | 0, _ => by
    rw [if_neg]
    · rfl
    · rintro ⟨k, h2, h1, _⟩
      omega
  | j + 1, hj => by
    simp only [fillFrom]
    rw [getD_set8 _ _ _ _ (by rw [fillFrom_length, h8]; exact hV.lt (by omega)), fillFrom_get vars dn sp hV h8 i q j (by omega)]
    by_cases h : (vars.getD (i + j) 0).toNat = q
    · rw [if_pos h, if_pos ⟨i + j, by omega, by omega, h⟩, h]
    · rw [if_neg h]
      by_cases h2 : ∃ k, k < i + j ∧ i ≤ k ∧ (vars.getD k 0).toNat = q
      · obtain ⟨k, h3, h4, e⟩ := h2
        rw [if_pos ⟨k, h3, h4, e⟩, if_pos ⟨k, by omega, h4, e⟩]
      · rw [if_neg h2, if_neg]
        rintro ⟨k, h3, h4, e⟩
        by_cases hk : k = i + j
        · subst hk; exact h e
        · exact h2 ⟨k, by omega, h4, e⟩
/-- What markUncovered says and marks. -/
structure UncSem (br : List Nat) (vars : List Int) (dn sp : List Nat) (i R : Nat) (P : List Nat → Prop) (st : Bool × List Nat) : Prop where
  len : st.2.length = 8
  sub : SubD st.2 dn
  one : st.1 = true ↔ ∃ l, OutOf vars dn l ∧ Uncov br vars.length i R l ∧ P l
  two : ∀ q v, (st.2.getD q 0).testBit v = true ↔ (sp.getD q 0).testBit v = true ∨ ∃ l k, OutOf vars dn l ∧ Uncov br vars.length i R l ∧ P l ∧ i ≤ k ∧ k < vars.length ∧ (vars.getD k 0).toNat = q ∧ l.getD k 0 = v
theorem Uncov.set {br : List Nat} {n i R v : Nat} {l : List Nat} (h : Uncov br n (i + 1) R l) : Uncov br n (i + 1) R (l.set i v) := by
  intro j hj
  obtain ⟨k, h1, h2, h3⟩ := h j hj
  refine ⟨k, h1, h2, ?_⟩
  have e : (l.set i v).getD k 0 = l.getD k 0 := by
    have : i ≠ k := by omega
    simp [List.getD, this]
  rw [e]
  exact h3
theorem uncov_step {br : List Nat} {n i R v : Nat} {l : List Nat} (hi : i < n) (hv : l.getD i 0 = v) : Uncov br n i R l ↔ Uncov br n (i + 1) (R &&& br.getD (6 * i + v) 0) l := by
  constructor
  · intro h j hj
    rw [Nat.testBit_and, Bool.and_eq_true] at hj
    obtain ⟨k, h1, h2, h3⟩ := h j hj.1
    refine ⟨k, ?_, h2, h3⟩
    by_cases hk : k = i
    · subst hk
      rw [hv, hj.2] at h3
      cases h3
    · omega
  · intro h j hj
    cases hb : (br.getD (6 * i + v) 0).testBit j with
    | false => exact ⟨i, Nat.le_refl _, hi, by rw [hv]; exact hb⟩
    | true =>
      obtain ⟨k, h1, h2, h3⟩ := h j (by rw [Nat.testBit_and, hj, hb]; rfl)
      exact ⟨k, by omega, h2, h3⟩
theorem set_getD {l : List Nat} {i n v : Nat} (h : l.length = n) (hi : i < n) : (l.set i v).getD i 0 = v := by simp [List.getD, h, hi]
theorem set_getD_ne {l : List Nat} {i k v : Nat} (h : i ≠ k) : (l.set i v).getD k 0 = l.getD k 0 := by simp [List.getD, h]
theorem unc_sem (br : List Nat) (vars : List Int) (dn : List Nat) (hV : VarsOk vars) (hd : ∀ q, dn.getD q 0 < 64) (hne : ∃ l, OutOf vars dn l) : ∀ (m i R : Nat) (sp : List Nat), m + i = vars.length → sp.length = 8 → SubD sp dn → UncSem br vars dn sp i R (fun _ => True) (unc br vars dn m i R sp) := by
  have zero : ∀ (i : Nat) (sp : List Nat), i ≤ vars.length → sp.length = 8 → SubD sp dn → UncSem br vars dn sp i 0 (fun _ => True) (true, fillFrom vars dn sp i (vars.length - i)) := by
    intro i sp hi h8 hs
    have hg := fun q => fillFrom_get vars dn sp hV h8 i q (vars.length - i) (by omega)
    have hu : ∀ l, Uncov br vars.length i 0 l := fun l j hj => by simp at hj
    obtain ⟨l0, hl0⟩ := hne
    refine ⟨by rw [fillFrom_length]; exact h8, fun q v h => ?_, ⟨fun _ => ⟨l0, hl0, hu l0, trivial⟩, fun _ => rfl⟩, fun q v => ?_⟩
    · have h' : ((fillFrom vars dn sp i (vars.length - i)).getD q 0).testBit v = true := h
      rw [hg q] at h'
      split at h'
      · exact h'
      · exact hs q v h'
    · show ((fillFrom vars dn sp i (vars.length - i)).getD q 0).testBit v = true ↔ _
      rw [hg q]
      constructor
      · intro h
        split at h
        · rename_i hk
          obtain ⟨k, h2, h1, e⟩ := hk
          subst e
          exact .inr ⟨l0.set k v, k, hl0.set k v h, hu _, trivial, h1, by omega, rfl, set_getD hl0.1 (by omega)⟩
        · exact .inl h
      · rintro (h | ⟨l, k, hl, _, _, h1, h2, e, e2⟩)
        · split
          · exact hs q v h
          · exact h
        · rw [if_pos ⟨k, by omega, h1, e⟩]
          subst e e2
          exact hl.2 k h2
  intro m
  induction m with
  | zero =>
    intro i R sp hm h8 hs
    unfold unc
    split
    · rename_i h0
      subst h0
      exact zero i sp (by omega) h8 hs
    · rename_i h0
      obtain ⟨j, hj⟩ := ne_zero_bit h0
      have hno : ∀ l, ¬ Uncov br vars.length i R l := fun l h => by
        obtain ⟨k, h1, h2, _⟩ := h j hj
        omega
      refine ⟨h8, hs, ⟨fun h => (by cases h), fun ⟨l, _, h, _⟩ => absurd h (hno l)⟩, fun q v => ⟨fun h => .inl h, ?_⟩⟩
      rintro (h | ⟨l, k, _, h, _⟩)
      · exact h
      · exact absurd h (hno l)
  | succ m ih =>
    intro i R sp hm h8 hs
    unfold unc
    split
    · rename_i h0
      subst h0
      exact zero i sp (by omega) h8 hs
    · have hin : i < vars.length := by omega
      have key := foldl_pre (fun (pre : List Nat) (st : Bool × List Nat) => UncSem br vars dn sp i R (fun l => l.getD i 0 ∈ pre) st) (uncStep (unc br vars dn m (i + 1)) br i R (vars.getD i 0).toNat) (vals (dn.getD (vars.getD i 0).toNat 0)) [] (false, sp)
        ⟨h8, hs, ⟨fun h => (by cases h), fun ⟨l, _, _, h⟩ => (by cases h)⟩, fun q v => ⟨fun h => .inl h, fun h => by
          rcases h with h | ⟨l, k, _, _, h, _⟩
          · exact h
          · cases h⟩⟩
        (fun p a st ha hst => by
          have hab := (vals_mem (hd _)).1 ha
          have h1 := ih (i + 1) (R &&& br.getD (6 * i + a) 0) st.2 (by omega) hst.len hst.sub
          have hq8 := hV.lt hin
          unfold uncStep
          generalize unc br vars dn m (i + 1) (R &&& br.getD (6 * i + a) 0) st.2 = X at h1
          have mem : ∀ l : List Nat, l.getD i 0 ∈ p ++ [a] ↔ l.getD i 0 ∈ p ∨ l.getD i 0 = a := fun l => by simp
          cases hX : X.1 with
          | true =>
            obtain ⟨l1, hl1, hu1, _⟩ := h1.one.1 hX
            have hl1' := hl1.set i a hab
            have hu1' : Uncov br vars.length i R (l1.set i a) := (uncov_step hin (set_getD hl1.1 hin)).2 hu1.set
            rw [if_pos rfl]
            have hg : ∀ q, (X.2.set (vars.getD i 0).toNat (X.2.getD (vars.getD i 0).toNat 0 ||| 2 ^ a)).getD q 0 = if (vars.getD i 0).toNat = q then X.2.getD (vars.getD i 0).toNat 0 ||| 2 ^ a else X.2.getD q 0 := fun q => getD_set8 _ _ _ _ (by rw [h1.len]; exact hq8)
            have two : ∀ q v, ((X.2.set (vars.getD i 0).toNat (X.2.getD (vars.getD i 0).toNat 0 ||| 2 ^ a)).getD q 0).testBit v = true ↔ (X.2.getD q 0).testBit v = true ∨ ((vars.getD i 0).toNat = q ∧ a = v) := by
              intro q v
              rw [hg q]
              split
              · rename_i e
                rw [Nat.testBit_or, Bool.or_eq_true, Nat.testBit_two_pow, decide_eq_true_eq, e]
                exact ⟨fun h => h.elim .inl (fun h => .inr ⟨rfl, h⟩), fun h => h.elim .inl (fun h => .inr h.2)⟩
              · rename_i e
                exact ⟨.inl, fun h => h.elim id (fun h => absurd h.1 e)⟩
            refine ⟨by simp [h1.len], fun q v h => ?_, ⟨fun _ => ⟨_, hl1', hu1', (mem _).2 (.inr (set_getD hl1.1 hin))⟩, fun _ => rfl⟩, fun q v => ?_⟩
            · rcases (two q v).1 h with h | ⟨rfl, rfl⟩
              · exact h1.sub q v h
              · exact hab
            · rw [two q v, h1.two q v, hst.two q v]
              constructor
              · rintro (((h | ⟨l, k, a1, a2, a3, a4⟩) | ⟨l, k, a1, a2, _, a4, a5, a6, a7⟩) | ⟨rfl, rfl⟩)
                · exact .inl h
                · exact .inr ⟨l, k, a1, a2, (mem l).2 (.inl a3), a4⟩
                · exact .inr ⟨l.set i a, k, a1.set i a hab, (uncov_step hin (set_getD a1.1 hin)).2 a2.set, (mem _).2 (.inr (set_getD a1.1 hin)), by omega, a5, a6, by rw [set_getD_ne (by omega)]; exact a7⟩
                · exact .inr ⟨_, i, hl1', hu1', (mem _).2 (.inr (set_getD hl1.1 hin)), Nat.le_refl _, hin, rfl, set_getD hl1.1 hin⟩
              · rintro (h | ⟨l, k, a1, a2, a3, a4, a5, a6, a7⟩)
                · exact .inl (.inl (.inl h))
                · rcases (mem l).1 a3 with a3 | a3
                  · exact .inl (.inl (.inr ⟨l, k, a1, a2, a3, a4, a5, a6, a7⟩))
                  · by_cases hk : k = i
                    · subst hk
                      exact .inr ⟨a6, by rw [← a3]; exact a7⟩
                    · exact .inl (.inr ⟨l, k, a1, (uncov_step hin a3).1 a2, trivial, by omega, a5, a6, a7⟩)
          | false =>
            have hno : ∀ l, OutOf vars dn l → l.getD i 0 = a → ¬ Uncov br vars.length i R l := fun l hl e h => by
              have := h1.one.2 ⟨l, hl, (uncov_step hin e).1 h, trivial⟩
              rw [hX] at this
              cases this
            have hno2 : ∀ l, OutOf vars dn l → ¬ Uncov br vars.length (i + 1) (R &&& br.getD (6 * i + a) 0) l := fun l hl h => by
              have := h1.one.2 ⟨l, hl, h, trivial⟩
              rw [hX] at this
              cases this
            rw [if_neg (by simp)]
            refine ⟨h1.len, h1.sub, ?_, fun q v => ?_⟩
            · show st.1 = true ↔ _
              rw [hst.one]
              constructor
              · rintro ⟨l, a1, a2, a3⟩
                exact ⟨l, a1, a2, (mem l).2 (.inl a3)⟩
              · rintro ⟨l, a1, a2, a3⟩
                rcases (mem l).1 a3 with a3 | a3
                · exact ⟨l, a1, a2, a3⟩
                · exact absurd a2 (hno l a1 a3)
            · show (X.2.getD q 0).testBit v = true ↔ _
              rw [h1.two q v, hst.two q v]
              constructor
              · rintro ((h | ⟨l, k, a1, a2, a3, a4⟩) | ⟨l, k, a1, a2, _⟩)
                · exact .inl h
                · exact .inr ⟨l, k, a1, a2, (mem l).2 (.inl a3), a4⟩
                · exact absurd a2 (hno2 l a1)
              · rintro (h | ⟨l, k, a1, a2, a3, a4⟩)
                · exact .inl (.inl h)
                · rcases (mem l).1 a3 with a3 | a3
                  · exact .inl (.inr ⟨l, k, a1, a2, a3, a4⟩)
                  · exact absurd a2 (hno l a1 a3))
      rw [List.nil_append] at key
      refine ⟨key.len, key.sub, ?_, fun q v => ?_⟩
      · rw [key.one]
        exact ⟨fun ⟨l, a1, a2, _⟩ => ⟨l, a1, a2, trivial⟩, fun ⟨l, a1, a2, _⟩ => ⟨l, a1, a2, (vals_mem (hd _)).2 (a1.2 i hin)⟩⟩
      · rw [key.two q v]
        constructor
        · rintro (h | ⟨l, k, a1, a2, _, a4⟩)
          · exact .inl h
          · exact .inr ⟨l, k, a1, a2, trivial, a4⟩
        · rintro (h | ⟨l, k, a1, a2, _, a4⟩)
          · exact .inl h
          · exact .inr ⟨l, k, a1, a2, (vals_mem (hd _)).2 (a1.2 i hin), a4⟩
theorem zero8_get (q : Nat) : zero8.getD q 0 = 0 := by
  rcases q with _ | _ | _ | _ | _ | _ | _ | _ | q <;> rfl
/-- Way 1, Not: what Narrow leaves are the supported values. -/
theorem nDomN_sem (vars : List Int) (rows : List (List Int)) (dn : List Nat) (live : Nat) (h8 : dn.length = 8) (hV : VarsOk vars) (hd : ∀ q, dn.getD q 0 < 64) (hrow : ∀ j, j < rows.length → (rows.getD j []).length = vars.length) (hR : RsRep vars rows dn live)
    (hne : ∃ l, OutOf vars dn l) (i v : Nat) (hi : i < vars.length) : ((nDomN (brTo rows rows.length) live vars dn).getD (vars.getD i 0).toNat 0).testBit v = true ↔ Supp vars rows true dn i v := by
  unfold nDomN
  rw [replTo_get vars dn _ (fun k hk => by rw [h8]; exact hV.lt hk) _ _ (Nat.le_refl _), if_pos ⟨i, hi, rfl⟩]
  have h := unc_sem (brTo rows rows.length) vars dn hV hd hne vars.length 0 (nLive (brTo rows rows.length) live vars dn) zero8 rfl rfl (fun q v h => by rw [zero8_get] at h; simp at h)
  rw [h.two, zero8_get]
  have hu : ∀ l, OutOf vars dn l → (Uncov (brTo rows rows.length) vars.length 0 (nLive (brTo rows rows.length) live vars dn) l ↔ Allow rows true l) := by
    intro l hl
    have h4 := hV.four
    constructor
    · intro hu j hj hc
      obtain ⟨k, _, hk, hb⟩ := hu j ((nLive_bit vars rows dn live hV.four hd hrow hR j).2 ⟨hj, l, hl, hc⟩)
      have := (brTo_bit rows k _ (by omega) (bit_lt6 (hd _) (hl.2 k hk)) rows.length j).2 ⟨hj, by rw [hrow j hj]; exact hk, hc k (by rw [hl.1]; exact hk)⟩
      rw [hb] at this
      cases this
    · intro ha j hj
      have hj' := ((nLive_bit vars rows dn live hV.four hd hrow hR j).1 hj).1
      refine Classical.byContradiction fun hc => ha j hj' ?_
      intro k hk
      rw [hl.1] at hk
      cases hb : ((brTo rows rows.length).getD (6 * k + l.getD k 0) 0).testBit j with
      | false => exact absurd ⟨k, Nat.zero_le _, hk, hb⟩ hc
      | true => exact ((brTo_bit rows k _ (by omega) (bit_lt6 (hd _) (hl.2 k hk)) rows.length j).1 hb).2.2
  constructor
  · rintro (h0 | ⟨l, k, a1, a2, _, _, a5, a6, a7⟩)
    · simp at h0
    · have e := hV.nat a5 hi a6
      subst e
      exact ⟨l, a1, a7, (hu l a1).1 a2⟩
  · rintro ⟨l, a1, a2, a3⟩
    exact .inr ⟨l, i, a1, (hu l a1).2 a3, trivial, Nat.zero_le _, hi, rfl, a2⟩
end Go.Proofs.Ytkjfpdfkcfgfkaa
