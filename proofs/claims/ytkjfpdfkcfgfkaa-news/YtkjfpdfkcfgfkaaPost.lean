/- Contract of Post where it is the first table, of Way 1 and not Not, and no domain comes out empty. -/
import Derived.Test.YtkjfpdfkcfgfkaaRestr
namespace Go.Proofs.Ytkjfpdfkcfgfkaa
open Go.RowKit

theorem Row.ints' {w : World} {ao : Option Addr} {cap : Nat} {zs : List Int} (h : Row w (.slice ao zs.length cap) 3 (zs.map (Value.int .i64))) : IntsAt w ao zs := fun i hi => by
  obtain ⟨g, c, he, hb, hc, _⟩ := h.cell i (by simpa using hi)
  obtain ⟨rfl, _⟩ : ao = some ⟨g, 0, none⟩ ∧ cap = c := by
    injection he with h1 h2 h3
    exact ⟨h1, h3⟩
  refine ⟨g, 0, rfl, h.lt rfl, ?_⟩
  rw [Nat.zero_add, hc]
  simp [hi]
theorem RowsAt.drew {w : World} {ao : Option Addr} {rows : List (List Int)} (h : RowsAt w ao rows) : RowsAt w.drew ao rows := h.nw ((Fr.refl _ w).drew)
theorem IntsAt.drew {w : World} {ao : Option Addr} {zs : List Int} (h : IntsAt w ao zs) : IntsAt w.drew ao zs := h.nw ((Fr.refl _ w).drew)

theorem workCells_setTabs (szv : Value) (d : List Nat) (tv tv' : Value) (l : Rest) (h8 : d.length = 8) : (workCells szv d tv l).setIfInBounds 9 tv' = workCells szv d tv' l := by
  simp [workCells, h8]
theorem Try.infoTable : (Try.prog.info? 93).map (fun i => (i.zero, i.size, i.bytes)) = some (some .nilIface, 1, 16) := by kernel_rfl

set_option maxHeartbeats 3200000 in
set_option maxRecDepth 1000000 in
theorem post_one (X b o : Nat) (ro : Option Addr) (vcap rcap : Nat) (szv : Value) (zs : List Int) (d : List Nat) (l : Rest) (so : Option Addr) (sc : Nat) (vars : List Int) (rows : List (List Int)) (w : World)
    (hX : Blk w X (workCells szv d (.slice none 0 0) l) 82) (hsz : Row w szv 3 (zs.map (Value.int .i64))) (hzl : zs.length ≤ 8) (hd8 : d.length = 8) (hl : l.starts = .slice so 0 sc) (hd6 : ∀ x ∈ d, x < 64)
    (hbz : l.busy = false) (hdead : (d.getD 0 0 == 0) = false) (hvcap : vars.length ≤ vcap) (hvs : IntsAt w (some ⟨b, o, none⟩) vars) (hrs : RowsAt w ro rows) (hok : okTable zs vars rows 1 = true)
    (hv0 : 0 < vars.length) (h4 : vars.length ≤ 4) (hrl : rows.length ≤ 60) (hrow : ∀ i, i < rows.length → (rows.getD i []).length ≤ 4)
    (hv : ∀ i, i < vars.length → 0 ≤ vars.getD i 0 ∧ vars.getD i 0 < 8) (hd64 : ∀ q, d.getD q 0 < 64)
    (hn64 : ∀ nd, nDom (brTo rows rows.length) (2 ^ rows.length - 1) vars d = nd → ∀ x ∈ nd, x < 64)
    (he1 : emptyB zs.length d = false) (he2 : emptyB zs.length (nDom (brTo rows rows.length) (2 ^ rows.length - 1) vars d) = false) :
    Calls Try.prog 31 #[.pointer (some ⟨X, 0, none⟩), .agg #[.slice (some ⟨b, o, none⟩) vars.length vcap, .slice ro rows.length rcap, .bool false, .int .i64 1]] w fun e w' => e = .returned (.int .i64 0) ∧
      ∃ tb tcap G g cap, w.heap.size ≤ G ∧ Fr (fun k => k = X) w w' ∧ Blk w' X (workCells szv (nDom (brTo rows rows.length) (2 ^ rows.length - 1) vars d) (.slice (some ⟨tb, 0, none⟩) 1 tcap) l) 82 ∧
        Row w' (.slice (some ⟨tb, 0, none⟩) 1 tcap) 93 [.iface 115 (.pointer (some ⟨G, 0, none⟩))] ∧
        Blk w' G (rsCells (.slice (some ⟨g, 0, none⟩) vars.length cap) false (brTo rows rows.length) (nLive (brTo rows rows.length) (2 ^ rows.length - 1) vars d)) 142 ∧
        Row w' (.slice (some ⟨g, 0, none⟩) vars.length cap) 3 (vars.map (Value.int .i64)) := by
  obtain ⟨sa, scap, hszv, _⟩ := hsz.form
  simp only [List.length_map] at hszv
  subst hszv
  obtain ⟨v0, v1, v2, v3, v4, v5, v6, v7, hdv⟩ := domV8 hd8
  obtain ⟨⟨x0, rfl⟩, ⟨x1, rfl⟩, ⟨x2, rfl⟩, ⟨x3, rfl⟩, ⟨x4, rfl⟩, ⟨x5, rfl⟩, ⟨x6, rfl⟩, ⟨x7, rfl⟩⟩ := domV_one d hdv
  have hXlt := hX.lt
  have hp64 : 2 ^ rows.length ≤ 18446744073709551616 := Nat.le_trans (Nat.pow_le_pow_right (by omega) (show rows.length ≤ 64 by omega)) (by decide)
  obtain ⟨W, hW⟩ : ∃ W, W = w.alloc (.cells #[.slice (some ⟨b, o, none⟩) vars.length vcap, .slice ro rows.length rcap, .bool false, .int .i64 1] 58) := ⟨_, rfl⟩
  have hfW : Nw w W := by rw [hW]; exact (Fr.refl _ w).alloc _
  have hbT : Blk W w.heap.size #[.slice (some ⟨b, o, none⟩) vars.length vcap, .slice ro rows.length rcap, .bool false, .int .i64 1] 58 := by rw [hW]; exact Blk.new _ _ _
  have t0 : W.cell? ⟨w.heap.size, 0, none⟩ = some (.slice (some ⟨b, o, none⟩) vars.length vcap) := hbT.cell 0
  have t1 : W.cell? ⟨w.heap.size, 1, none⟩ = some (.slice ro rows.length rcap) := hbT.cell 1
  have t2 : W.cell? ⟨w.heap.size, 2, none⟩ = some (.bool false) := hbT.cell 2
  have t3 : W.cell? ⟨w.heap.size, 3, none⟩ = some (.int .i64 1) := hbT.cell 3
  have hcs : W.cell? ⟨X, 0, none⟩ = some (.slice sa zs.length scap) := ((hX.nw hfW).cell 0).trans (workCells_sz ..)
  have hcb : W.cell? ⟨X, 12, none⟩ = some (.bool false) := ((hX.nw hfW).cell 12).trans ((workCells_busy _ _ _ _ hd8).trans (by rw [hbz]))
  have HX := hd (hX.nw hfW)
  have Hs := hd (hsz.nw hfW)
  have Hvs := hd (hvs.nw hfW)
  have Hrs := hd (hrs.nw hfW)
  have HbT := hd hbT
  have Hdv := hd hdv
  have HW := hd hW
  clear hX hsz hvs hrs hbT hdv hW
  go_enter Try.func31, Try.ntmps31
  go_upto_region 1 with fail
  rw [← HW.out]
  go_upto_region 2 with fail
  go_still_tail 5, (by kernel_rfl)
  go_wp2_with fail
  refine (valid_any _ ro sa vcap rcap scap vars rows false 1 zs _ (by omega) (by omega) hvcap Hvs.out.drew Hrs.out.drew (Hs.out.drew.ints')).mono ?_
  rw [hok]
  rintro e w1 ⟨rfl, hf1⟩
  have hf1' : Nw W w1 := hf1.of_drew
  have hX1 := HX.out.nw hf1'
  have hct : w1.cell? ⟨X, 9, none⟩ = some (.slice none 0 0) := (hX1.cell 9).trans (workCells_tabs _ _ _ _ hd8)
  have hcl : w1.cell? ⟨X, 11, none⟩ = some (.slice so 0 sc) := (hX1.cell 11).trans ((workCells_starts _ _ _ _ hd8).trans (by rw [hl]))
  have HX1 := hd hX1
  have Hs1 := hd (Hs.out.nw hf1')
  have Hvs1 := hd (Hvs.out.nw hf1')
  have Hrs1 := hd (Hrs.out.nw hf1')
  have HbT1 := hd (HbT.out.nw hf1')
  have hs1 : w.heap.size + 1 ≤ w1.heap.size := by have := HbT1.out.lt; omega
  have Hf1 : Hid (Nw w w1) := hfW.trans hf1' (fun i h => h.elim)
  clear hf1 hf1' hX1 HX Hs Hvs Hrs HbT t0 t1 t2 t3 hcs hcb hfW HW
  go_upto_region 12 with (first
    | (go_at_call 36; refine (level_any X so 0 sc _ hcl).mono ?_; rintro e w' ⟨rfl, rfl⟩)
    | (go_at_call 37; refine (dead_any X _ d _ l _ HX1.out hd8).mono ?_; rw [hdead]; rintro e w' ⟨rfl, rfl⟩))
  obtain ⟨V, hV⟩ : ∃ V, V = w'.alloc (.cells (mkV false) 91) := ⟨_, rfl⟩
  have hfV : Nw w' V := by rw [hV]; exact (Fr.refl _ w').alloc _
  have hbM : Blk V w'.heap.size (mkV false) 91 := by rw [hV]; exact Blk.new _ _ _
  rw [show w'.alloc (Obj.cells #[Value.bool false, Value.bool false, Value.bool false, Value.bool false, Value.bool false, Value.bool false, Value.bool false, Value.bool false, Value.bool false, Value.bool false, Value.bool false, Value.bool false] 91) = V from hV.symm]
  clear hV hct hcl
  have hct : V.cell? ⟨X, 9, none⟩ = some (.slice none 0 0) := ((HX1.out.nw hfV).cell 9).trans (workCells_tabs _ _ _ _ hd8)
  have hcM : V.cell? ⟨w'.heap.size, 0, none⟩ = some (.bool false) := hbM.cell 0
  have hfM := hbM.free 0
  have HbM := hd hbM
  clear hbM
  go_upto_region 13 with fail
  obtain ⟨U, hU⟩ : ∃ U, U = V.setCell ⟨w'.heap.size, 0, none⟩ (.bool true) := ⟨_, rfl⟩
  have hfU : Nw w' U := by rw [hU]; exact hfV.setCell _ _ (.inr (Nat.le_refl _))
  have hbM : Blk U w'.heap.size (mkV true) 91 := by rw [hU]; exact HbM.out.set 0 (.bool true)
  rw [← hU]
  have hMl := hbM.lt
  have hXl1 := HX1.out.lt
  clear hU hct hcM hfM HbM hfV
  have hXU := HX1.out.nw hfU
  have hTU := HbT1.out.nw hfU
  have HfU : Hid (Nw w U) := Hf1.out.trans hfU (fun i h => h.elim)
  have HsU := hd (Hs1.out.nw hfU)
  have HvU := hd (Hvs1.out.nw hfU)
  have HrU := hd (Hrs1.out.nw hfU)
  have HbM := hd hbM
  clear hbM Hs1 Hvs1 Hrs1 HX1 HbT1 Hf1 hfU
  have hK0 : Blk U.drew X (workCells (.slice sa zs.length scap) d (.slice none 0 0) l) 82 ∧ Blk U.drew w.heap.size #[.slice (some ⟨b, o, none⟩) vars.length vcap, .slice ro rows.length rcap, .bool false, .int .i64 1] 58 := ⟨hXU.drew, hTU.drew⟩
  refine region_U (S := fun w'' => Blk w'' X (workCells (.slice sa zs.length scap) d (.slice none 0 0) l) 82 ∧ Blk w'' w.heap.size #[.slice (some ⟨b, o, none⟩) vars.length vcap, .slice ro rows.length rcap, .bool false, .int .i64 1] 58) 15 (by kernel_rfl) ?_
  refine anyU_take (i := 0) (v := .pointer (some ⟨X, 0, none⟩)) (by kernel_rfl) rfl (by kernel_rfl) (by kernel_rfl) (by kernel_rfl) (fun _ _ _ h => h) (.inl ⟨by kernel_rfl, fun w'' hS => by kernel_rfl⟩) hK0 ?_
  refine anyU_take (i := 1) (v := .pointer (some ⟨X, 0, none⟩)) (by kernel_rfl) rfl (by kernel_rfl) (by kernel_rfl) (by kernel_rfl) (fun _ _ _ h => h) (.inl ⟨by kernel_rfl, fun w'' hS => by kernel_rfl⟩) hK0 ?_
  refine anyU_take (i := 2) (v := .pointer (some ⟨X, 0, none⟩)) (by kernel_rfl) rfl (by kernel_rfl) (by kernel_rfl) (by kernel_rfl) (fun _ _ _ h => h) (.inl ⟨by kernel_rfl, fun w'' hS => by kernel_rfl⟩) hK0 ?_
  refine anyU_take (i := 3) (v := .pointer (some ⟨X, 9, none⟩)) (by kernel_rfl) rfl (by kernel_rfl) (by kernel_rfl) (by kernel_rfl) (fun _ _ _ h => h) (.inl ⟨by kernel_rfl, fun w'' hS => by kernel_rfl⟩) hK0 ?_
  refine anyU_take (i := 4) (v := .slice none 0 0) (by kernel_rfl) rfl (by kernel_rfl) (by kernel_rfl) (by kernel_rfl) (fun _ _ _ h => h) (.inl ⟨by kernel_rfl, fun w'' hS => ?_⟩) hK0 ?_
  · have hc := (hS.1.cell 9).trans (workCells_tabs _ _ _ _ hd8)
    clear hS hK0 hn64 he1 he2 hd64 hd6 hv hl h4 hrl hrow hok hdead hvcap hv0 hXU hTU
    simp only [Act.put, List.setIfInBounds_toArray, List.set_cons_zero, List.set_cons_succ, List.getElem_toArray, List.getElem_cons_zero, List.getElem_cons_succ]
    go_simp
  refine anyU_take (i := 5) (v := .agg #[.slice (some ⟨b, o, none⟩) vars.length vcap, .slice ro rows.length rcap, .bool false, .int .i64 1]) (by kernel_rfl) rfl (by kernel_rfl) (by kernel_rfl) (by kernel_rfl) (fun _ _ _ h => h) (.inl ⟨by kernel_rfl, fun w'' hS => ?_⟩) hK0 ?_
  · have q0 : w''.cell? ⟨w.heap.size, 0, none⟩ = some (.slice (some ⟨b, o, none⟩) vars.length vcap) := hS.2.cell 0
    have q1 : w''.cell? ⟨w.heap.size, 1, none⟩ = some (.slice ro rows.length rcap) := hS.2.cell 1
    have q2 : w''.cell? ⟨w.heap.size, 2, none⟩ = some (.bool false) := hS.2.cell 2
    have q3 : w''.cell? ⟨w.heap.size, 3, none⟩ = some (.int .i64 1) := hS.2.cell 3
    clear hS hK0 hn64 he1 he2 hd64 hd6 hv hl h4 hrl hrow hok hdead hvcap hv0 hXU hTU
    simp only [Act.put, List.setIfInBounds_toArray, List.set_cons_zero, List.set_cons_succ, List.getElem_toArray, List.getElem_cons_zero, List.getElem_cons_succ]
    go_simp
  refine anyU_take (i := 6) (v := .pointer (some ⟨X, 0, none⟩)) (by kernel_rfl) rfl (by kernel_rfl) (by kernel_rfl) (by kernel_rfl) (fun _ _ _ h => h) (.inl ⟨by kernel_rfl, fun w'' hS => by kernel_rfl⟩) hK0 ?_
  refine anyU_take (i := 7) (v := .pointer (some ⟨X, 0, none⟩)) (by kernel_rfl) rfl (by kernel_rfl) (by kernel_rfl) (by kernel_rfl) (fun _ _ _ h => h) (.inl ⟨by kernel_rfl, fun w'' hS => by kernel_rfl⟩) hK0 ?_
  refine anyU_take (i := 8) (v := .pointer (some ⟨X, 1, none⟩)) (by kernel_rfl) rfl (by kernel_rfl) (by kernel_rfl) (by kernel_rfl) (fun _ _ _ h => h) (.inl ⟨by kernel_rfl, fun w'' hS => by kernel_rfl⟩) hK0 ?_
  refine anyU_take (i := 9) (v := .agg (domV d)) (by kernel_rfl) rfl (by kernel_rfl) (by kernel_rfl) (by kernel_rfl) (fun _ _ _ h => h) (.inl ⟨by kernel_rfl, fun w'' hS => ?_⟩) hK0 ?_
  · obtain ⟨k0, k1, k2, k3, k4, k5, k6, k7⟩ := work8 hS.1 Hdv.out
    clear hS hK0 hn64 he1 he2 hd64 hd6 hv hl h4 hrl hrow hok hdead hvcap hv0 hXU hTU
    rw [Hdv.out]
    simp only [Act.put, List.setIfInBounds_toArray, List.set_cons_zero, List.set_cons_succ, List.getElem_toArray, List.getElem_cons_zero, List.getElem_cons_succ]
    go_simp
  refine anyU_one (i := 10) (by kernel_rfl) ?_
  refine op_enter (f := 52) (args := #[.agg #[.slice (some ⟨b, o, none⟩) vars.length vcap, .slice ro rows.length rcap, .bool false, .int .i64 1], .agg (domV d)]) (w' := U.drew) rfl (by kernel_rfl) (by kernel_rfl) ?_
  refine (make1_any b o ro vcap rcap vars rows false (domV d) _ hv0 h4 hrl hrow HvU.out.drew HrU.out.drew).mono ?_
  rintro e w2 ⟨G, g, cap, rfl, hf2, hG2, hv2, hGl, hgl⟩
  have hf2' : Nw U w2 := hf2.of_drew
  refine ⟨_, rfl, fun _ => ⟨hXU.nw hf2', hTU.nw hf2'⟩, ?_⟩
  refine anyU_one (i := 11) (by kernel_rfl) ?_
  refine op_value (v := .slice (some ⟨w2.heap.size, 0, none⟩) 1 1) (w' := w2.alloc (.cells #[.iface 115 (.pointer (some ⟨G, 0, none⟩))] 93)) rfl (by kernel_rfl) ?_ ⟨fun _ => ⟨(hXU.nw hf2').alloc _, (hTU.nw hf2').alloc _⟩, ?_⟩
  · kernel_rfl
  obtain ⟨i0, hi0, hz0, hz1, hz2⟩ := info_parts Try.infoTable
  obtain ⟨v', w3, hr, hown, hgrow, _, hat⟩ := run_append_own_at (P := Try.prog) (w2.alloc (.cells #[.iface 115 (.pointer (some ⟨G, 0, none⟩))] 93)) 0 77 77 93 i0 .nilIface 1 16 Try.underlying77 hi0 hz0 hz1 hz2 rfl (by decide) (.slice none 0 0) 0 [] (World.ownsRow_nil _ _ _ _) ⟨w2.heap.size, 0, none⟩ 1 1 [.iface 115 (.pointer (some ⟨G, 0, none⟩))] rfl (cell_one_new _ _ _) (by simp [Value.oneCell']) (by unfold maxLen; omega) (by omega) (Nat.zero_le _)
  obtain ⟨tb, tcap, rfl, hr3, hf3, ha3, hlt3⟩ := app1 hown hgrow hat
  clear hown hgrow hat
  have hf3' : Nw w2 w3 := hf3.mono (fun i h => by cases h)
  have hfU3 : Nw U w3 := hf2'.trans hf3' (fun i h => h.elim)
  refine anyU_one (i := 12) (by kernel_rfl) ?_
  refine op_value (v := .slice (some ⟨tb, 0, none⟩) 1 tcap) (w' := w3) rfl (by kernel_rfl) ?_ ⟨fun _ => ⟨?_, ?_⟩, ?_⟩
  · simp only [Act.put, List.setIfInBounds_toArray, List.set_cons_zero, List.set_cons_succ, List.getElem_toArray, List.getElem_cons_zero, List.getElem_cons_succ]
    unfold execOp
    simp only [resolve, invoke, builtin, Sem.run_bind, Sem.run_pure, Result.andThen_ok, List.map_toArray, List.map_cons, List.map_nil, Act.eval]
    erw [hr]
    rfl
  · exact hXU.nw hfU3
  · exact hTU.nw hfU3
  refine anyU_one (i := 13) (by kernel_rfl) ?_
  refine op_value (v := .pointer (some ⟨X, 0, none⟩)) (w' := w3) rfl (by kernel_rfl) (by kernel_rfl) ⟨fun _ => ⟨hXU.nw hfU3, hTU.nw hfU3⟩, ?_⟩
  refine anyU_one (i := 14) (by kernel_rfl) ?_
  refine op_value (v := .pointer (some ⟨X, 9, none⟩)) (w' := w3) rfl (by kernel_rfl) (by kernel_rfl) ⟨fun _ => ⟨hXU.nw hfU3, hTU.nw hfU3⟩, ?_⟩
  refine anyU_one (i := 15) (by kernel_rfl) ?_
  have hX3 := hXU.nw hfU3
  have hc9 := (hX3.cell 9).trans (workCells_tabs _ _ _ _ hd8)
  have hf9 := hX3.free 9
  refine op_skip (w' := w3.setCell ⟨X, 9, none⟩ (.slice (some ⟨tb, 0, none⟩) 1 tcap)) rfl (by kernel_rfl) ?_ ⟨fun h => absurd rfl h, anyU_done (by kernel_rfl) ?_ _⟩
  · clear hK0 hn64 he1 he2 hd64 hd6 hv hl h4 hrl hrow hok hdead hvcap hv0 hXU hTU hX3 hfU3 hf3 hf3' hr hr3 hf2 hf2' hG2 hv2
    simp only [Act.put, List.setIfInBounds_toArray, List.set_cons_zero, List.set_cons_succ, List.getElem_toArray, List.getElem_cons_zero, List.getElem_cons_succ]
    go_simp
  simp only [Act.put, List.setIfInBounds_toArray, List.set_cons_zero, List.set_cons_succ, List.getElem_toArray, List.getElem_cons_zero, List.getElem_cons_succ]
  have hne : tb ≠ X := fun e => by subst e; exact hr3.ne hX3 (by decide) rfl
  have hs3 := hfU3.size
  obtain ⟨Z, hZ⟩ : ∃ Z, Z = w3.setCell ⟨X, 9, none⟩ (.slice (some ⟨tb, 0, none⟩) 1 tcap) := ⟨_, rfl⟩
  have hfZ : Fr (fun k => k = X) w3 Z := by rw [hZ]; exact (Fr.refl _ w3).setCell _ _ (.inl rfl)
  have hXZ : Blk Z X (workCells (.slice sa zs.length scap) d (.slice (some ⟨tb, 0, none⟩) 1 tcap) l) 82 := by
    rw [hZ, ← workCells_setTabs _ _ _ _ _ hd8]
    exact hX3.set 9 _
  rw [← hZ]
  have hGl2 : U.heap.size ≤ G := hGl
  have hgl2 : U.heap.size ≤ g := hgl
  have hXlU := hXU.lt
  have HXZ := hd hXZ
  have HtZ := hd (hr3.fr hfZ (fun k hk e => hne (by cases hk; exact e)))
  have HGZ := hd ((hG2.nw hf3').fr hfZ (by omega))
  have HvZ := hd ((hv2.nw hf3').fr hfZ (fun k hk e => by
    have e2 : g = k := by cases hk; rfl
    have e3 : k = X := e
    omega))
  have HsZ := hd ((HsU.out.nw hfU3).fr hfZ (fun k hk e => by subst e; exact (HsU.out.nw hfU3).ne hX3 (by decide) hk))
  have hMZ := (HbM.out.nw hfU3).fr hfZ (by omega)
  have HMZ := hd hMZ
  have HFZ : Hid (Fr (fun k => k = X) w Z) := ((HfU.out.trans hfU3 (fun i h => h.elim)).mono (fun i h => h.elim)).trans hfZ (fun i h => .inl h)
  obtain ⟨c0, c1, c2, c3, c4, c5, c6, c7⟩ := work8 hXZ Hdv.out
  have r0 : Z.cell? ⟨w'.heap.size, 0, none⟩ = some (.bool true) := hMZ.cell 0
  have r1 : Z.cell? ⟨w'.heap.size, 1, none⟩ = some (.bool false) := hMZ.cell 1
  have r2 : Z.cell? ⟨w'.heap.size, 2, none⟩ = some (.bool false) := hMZ.cell 2
  have r3 : Z.cell? ⟨w'.heap.size, 3, none⟩ = some (.bool false) := hMZ.cell 3
  have r4 : Z.cell? ⟨w'.heap.size, 4, none⟩ = some (.bool false) := hMZ.cell 4
  have r5 : Z.cell? ⟨w'.heap.size, 5, none⟩ = some (.bool false) := hMZ.cell 5
  have r6 : Z.cell? ⟨w'.heap.size, 6, none⟩ = some (.bool false) := hMZ.cell 6
  have r7 : Z.cell? ⟨w'.heap.size, 7, none⟩ = some (.bool false) := hMZ.cell 7
  have r8 : Z.cell? ⟨w'.heap.size, 8, none⟩ = some (.bool false) := hMZ.cell 8
  have r9 : Z.cell? ⟨w'.heap.size, 9, none⟩ = some (.bool false) := hMZ.cell 9
  have r10 : Z.cell? ⟨w'.heap.size, 10, none⟩ = some (.bool false) := hMZ.cell 10
  have r11 : Z.cell? ⟨w'.heap.size, 11, none⟩ = some (.bool false) := hMZ.cell 11
  clear hXZ hMZ hZ hfZ hX3 hc9 hf9 hr hr3 hf3 hf3' hfU3 hG2 hv2 hf2 hf2' hXU hTU hK0 HsU HvU HrU HbM HfU
  simp only [Exit.then]
  go_upto_region 14 with fail
  go_still_tail 6, (by kernel_rfl)
  go_wp2_with fail
  rw [← Hdv.out]
  refine (settle_one X tb tcap G g cap _ zs d l so sc (brTo rows rows.length) (2 ^ rows.length - 1) vars d _ HXZ.out.drew HsZ.out.drew hzl hd8 hl hd6 HtZ.out.drew HGZ.out.drew HvZ.out.drew hd8 (brTo_length _ _) (fun j => Nat.lt_of_lt_of_le (brTo_lt rows rows.length j) hp64) (by omega) h4 hv hd64 hn64 he1 he2).mono ?_
  rintro e w4 ⟨rfl, hf4, hX4, hG4⟩
  have hf4' : Fr (fun k => k = X ∨ k = G) Z w4 := hf4.of_drew
  have ht4 := HtZ.out.fr hf4' (fun k hk e => by
    rcases e with e | e
    · exact hne (by cases hk; exact e)
    · subst e; exact HtZ.out.ne HGZ.out (by decide) hk)
  have hv4 := HvZ.out.fr hf4' (fun k hk e => by
    rcases e with e | e
    · subst e; exact HvZ.out.ne HXZ.out (by decide) hk
    · subst e; exact HvZ.out.ne HGZ.out (by decide) hk)
  have hF4 := HFZ.out.trans hf4' (fun i h => h.elim .inl (fun e => .inr (by omega)))
  clear c0 c1 c2 c3 c4 c5 c6 c7 r0 r1 r2 r3 r4 r5 r6 r7 r8 r9 r10 r11
  go_wp2_with fail
  go_ret
  exact ⟨rfl, tb, tcap, G, g, cap, by omega, hF4, hX4, ht4, hG4, hv4⟩
end Go.Proofs.Ytkjfpdfkcfgfkaa
