/- Contract of settle where there is one table, of Way 1, that waits, and no domain comes out empty. -/
import Derived.Test.YtkjfpdfkcfgfkaaHeld
import Derived.Deep.DeepCutAuto
namespace Go.Proofs.Ytkjfpdfkcfgfkaa
open Go.RowKit

theorem Blk.put8 {b : World} {g : Nat} {e : TypeId} {n : List Nat} {v0 v1 v2 v3 v4 v5 v6 v7 : Value} (h : Blk b g (domV zero8) e) (hn : domV n = #[v0, v1, v2, v3, v4, v5, v6, v7]) :
    Blk ((((((((b.setCell ⟨g, 0, none⟩ v0).setCell ⟨g, 1, none⟩ v1).setCell ⟨g, 2, none⟩ v2).setCell ⟨g, 3, none⟩ v3).setCell ⟨g, 4, none⟩ v4).setCell ⟨g, 5, none⟩ v5).setCell ⟨g, 6, none⟩ v6).setCell ⟨g, 7, none⟩ v7) g (domV n) e := by
  have h1 := Blk.set8 (cur := #[Value.int .u8 0, Value.int .u8 0, Value.int .u8 0, Value.int .u8 0, Value.int .u8 0, Value.int .u8 0, Value.int .u8 0, Value.int .u8 0]) h 0 1 2 3 4 5 6 7 v0 v1 v2 v3 v4 v5 v6 v7
  rw [arr8] at h1
  rw [hn]
  exact h1
theorem Try.arrMarks : Try.prog.underlying 91 = some (.array 12 4) := by kernel_rfl
theorem slice_marks (b : Nat) (W : World) : (Instr.sliceAt 91 (.pointer (some ⟨b, 0, none⟩)) none none none).run Try.prog W = .ok (.slice (some ⟨b, 0, none⟩) 12 12) W := by
  have h1 : Try.prog.arrayLen 91 = 12 := by kernel_rfl
  have h2 : Try.prog.elem 91 = 4 := by kernel_rfl
  rw [run_sliceAt_array_all W 91 ⟨b, 0, none⟩ (by rw [h1, h2]; exact Try.arrMarks), h1, h2]
  simp [go_sem, slicedAt]

/-- Index over the twelve marks. -/
theorem index_marks (b : Nat) (mk : Bool) (w : World) (h : Blk w b (mkV mk) 91) :
    Calls Try.prog 66 #[.slice (some ⟨b, 0, none⟩) 12 12, .bool true] w fun e w' => e = .returned (.int .i64 (if mk then 0 else -1)) ∧ w' = w := by
  have hc := indexBool_any b 0 12 [mk, false, false, false, false, false, false, false, false, false, false, false] w (by simp) (fun i hi => by
    rw [Nat.zero_add, h.cell i]
    simp only [List.length_cons, List.length_nil] at hi
    rcases i with _ | _ | _ | _ | _ | _ | _ | _ | _ | _ | _ | _ | i <;> first | rfl | omega)
  have e : firstAt true [mk, false, false, false, false, false, false, false, false, false, false, false] 0 = if mk then 0 else -1 := by cases mk <;> rfl
  rw [e] at hc
  exact hc

set_option maxHeartbeats 3200000 in
set_option maxRecDepth 1000000 in
theorem settle_one (X tb tcap G g cap : Nat) (szv : Value) (zs : List Int) (d : List Nat) (l : Rest) (so : Option Addr) (sc : Nat) (br : List Nat) (live : Nat) (vars : List Int) (dn : List Nat) (w : World)
    (hX : Blk w X (workCells szv d (.slice (some ⟨tb, 0, none⟩) 1 tcap) l) 82) (hsz : Row w szv 3 (zs.map (Value.int .i64))) (hzl : zs.length ≤ 8) (hd8 : d.length = 8) (hl : l.starts = .slice so 0 sc) (hd6 : ∀ x ∈ d, x < 64)
    (ht : Row w (.slice (some ⟨tb, 0, none⟩) 1 tcap) 93 [.iface 115 (.pointer (some ⟨G, 0, none⟩))])
    (hG : Blk w G (rsCells (.slice (some ⟨g, 0, none⟩) vars.length cap) false br live) 142) (hvs : Row w (.slice (some ⟨g, 0, none⟩) vars.length cap) 3 (vars.map (Value.int .i64)))
    (h8 : dn.length = 8) (h24 : br.length = 24) (hbr : ∀ j, br.getD j 0 < 18446744073709551616) (hlive : live < 18446744073709551616)
    (h4 : vars.length ≤ 4) (hv : ∀ i, i < vars.length → 0 ≤ vars.getD i 0 ∧ vars.getD i 0 < 8) (hd64 : ∀ q, dn.getD q 0 < 64)
    (hn64 : ∀ nd, nDom br live vars dn = nd → ∀ x ∈ nd, x < 64) (he1 : emptyB zs.length dn = false) (he2 : emptyB zs.length (nDom br live vars dn) = false) :
    Calls Try.prog 53 #[.pointer (some ⟨X, 0, none⟩), .agg (domV dn), .agg (mkV true)] w fun e w' => e = .returned (.tuple #[]) ∧ Fr (fun k => k = X ∨ k = G) w w' ∧
      Blk w' X (workCells szv (nDom br live vars dn) (.slice (some ⟨tb, 0, none⟩) 1 tcap) l) 82 ∧
      Blk w' G (rsCells (.slice (some ⟨g, 0, none⟩) vars.length cap) false br (nLive br live vars dn)) 142 := by
  obtain ⟨v0, v1, v2, v3, v4, v5, v6, v7, hdv⟩ := domV8 h8
  obtain ⟨nd, hnd⟩ : ∃ nd, nDom br live vars dn = nd := ⟨_, rfl⟩
  have hn8 : nd.length = 8 := by rw [← hnd]; simp only [nDom, replTo_length]; exact h8
  have hn6 : ∀ x ∈ nd, x < 64 := hn64 nd hnd
  obtain ⟨n0, n1, n2, n3, n4, n5, n6, n7, hnv⟩ := domV8 hn8
  obtain ⟨⟨y0, rfl⟩, ⟨y1, rfl⟩, ⟨y2, rfl⟩, ⟨y3, rfl⟩, ⟨y4, rfl⟩, ⟨y5, rfl⟩, ⟨y6, rfl⟩, ⟨y7, rfl⟩⟩ := domV_one nd hnv
  obtain ⟨⟨x0, rfl⟩, ⟨x1, rfl⟩, ⟨x2, rfl⟩, ⟨x3, rfl⟩, ⟨x4, rfl⟩, ⟨x5, rfl⟩, ⟨x6, rfl⟩, ⟨x7, rfl⟩⟩ := domV_one dn hdv
  rw [hnd] at he2 ⊢
  have hXlt := hX.lt
  have hGlt := hG.lt
  have hglt : g < w.heap.size := hvs.lt rfl
  have htlt : tb < w.heap.size := ht.lt rfl
  have hgG : g ≠ G := fun e => by subst e; exact hvs.ne hG (by decide) rfl
  have hXG : X ≠ G := fun e => by subst e; have := (hX.inj hG).2; revert this; decide
  have hgX : g ≠ X := fun e => by subst e; exact hvs.ne hX (by decide) rfl
  have htG : tb ≠ G := fun e => by subst e; exact ht.ne hG (by decide) rfl
  have htX : tb ≠ X := fun e => by subst e; exact ht.ne hX (by decide) rfl
  have hszG : ∀ k, szv.ownBlock = some k → k ≠ G := fun k hk e => by subst e; exact hsz.ne hG (by decide) hk
  obtain ⟨W, hW⟩ : ∃ W, W = (w.alloc (.cells (domV dn) 76)).alloc (.cells (mkV true) 91) := ⟨_, rfl⟩
  have hfW : Nw w W := by rw [hW]; exact ((Fr.refl _ w).alloc _).alloc _
  have hbN : Blk W w.heap.size (domV dn) 76 := by rw [hW]; exact (Blk.new _ _ _).alloc _
  have hbM : Blk W (w.heap.size + 1) (mkV true) 91 := by
    rw [hW]
    have := Blk.new (w.alloc (.cells (domV dn) 76)) (mkV true) 91
    simpa using this
  have hsW : W.heap.size = w.heap.size + 2 := by rw [hW]; simp
  obtain ⟨c0, c1, c2, c3, c4, c5, c6, c7⟩ := cells8 (hdv ▸ hbN)
  have hsm := slice_marks (w.heap.size + 1)
  have HX := hd (hX.nw hfW)
  have Hsz := hd (hsz.nw hfW)
  have Ht := hd (ht.nw hfW)
  have HG := hd (hG.nw hfW)
  have Hvs := hd (hvs.nw hfW)
  have HbN := hd hbN
  have HbM := hd hbM
  have HW := hd hW
  have HsW := hd hsW
  have Hdv := hd hdv
  have Hnv := hd hnv
  have Hnd := hd hnd
  have HszG := hd hszG
  have Hn6 := hd hn6
  have HszM : Hid (∀ k, szv.ownBlock = some k → k < w.heap.size) := fun k hk => hsz.lt hk
  have He1 := hd he1
  have He2 := hd he2
  clear hX hsz ht hG hvs hbN hbM hW hsW hdv hnv hnd he1 he2 hszG hn6 hn64
  go_enter Try.func53, Try.ntmps53
  go_wp2_with fail
  rw [← HW.out]
  refine wp_loop_rounds 2 ?_
  rw [rounds_succ]
  go_wp2_with fail
  rw [← Hdv.out]
  refine (emptied_any X szv d _ l zs dn _ HX.out Hsz.out hzl h8).mono ?_
  rw [He1.out]
  rintro e w1 ⟨rfl, hf1⟩
  have hM1 := HbM.out.nw hf1
  have HM1 := hd hM1
  clear hM1 c0 c1 c2 c3 c4 c5 c6 c7
  go_wp2_with (go_at_call 66; refine (index_marks (w.heap.size + 1) true _ HM1.out).mono ?_; rintro e w2 ⟨rfl, rfl⟩)
  have hXw := HX.out.nw hf1
  have hcT : w2.cell? ⟨X, 9, none⟩ = some (.slice (some ⟨tb, 0, none⟩) 1 tcap) := (hXw.cell 9).trans (workCells_tabs _ _ _ _ hd8)
  have hcI : w2.cell? ⟨tb, 0, none⟩ = some (.iface 115 (.pointer (some ⟨G, 0, none⟩))) := ((Ht.out.nw hf1).at_ 0 (by simp)).1
  obtain ⟨c0, c1, c2, c3, c4, c5, c6, c7⟩ := cells8 (Hdv.out ▸ (HbN.out.nw hf1))
  have HX2 := hd hXw
  have HbN2 := hd (HbN.out.nw hf1)
  have HG2 := hd (HG.out.nw hf1)
  have Hvs2 := hd (Hvs.out.nw hf1)
  have Ht2 := hd (Ht.out.nw hf1)
  have Hsz2 := hd (Hsz.out.nw hf1)
  have hs2 : w.heap.size + 2 ≤ w2.heap.size := by have := hf1.size; have := HsW.out; omega
  have Hf2 : Hid (Nw w w2) := hfW.trans hf1 (fun i h => h.elim)
  clear hXw hf1 HX Hsz Ht HG Hvs HbN HbM hfW
  have HM2 := HM1
  go_cut [7] (fun p wx => ∃ N, p = .pointer (some ⟨N, 0, none⟩) ∧ Hid (Blk wx N (domV nd) 76) ∧ Hid (Blk wx G (rsCells (.slice (some ⟨g, 0, none⟩) vars.length cap) false br (nLive br live vars dn)) 142) ∧ Fr (fun k => k = G) w2 wx ∧ w2.heap.size ≤ N)
  case first =>
    have hK0 : Blk w2.drew X (workCells szv d (.slice (some ⟨tb, 0, none⟩) 1 tcap) l) 82 ∧ w2.drew.cell? ⟨tb, 0, none⟩ = some (.iface 115 (.pointer (some ⟨G, 0, none⟩))) ∧ Blk w2.drew w.heap.size (domV dn) 76 :=
      ⟨HX2.out.drew, hcI, HbN2.out.drew⟩
    refine wp_region_held (S := fun w' => Blk w' X (workCells szv d (.slice (some ⟨tb, 0, none⟩) 1 tcap) l) 82 ∧ w'.cell? ⟨tb, 0, none⟩ = some (.iface 115 (.pointer (some ⟨G, 0, none⟩))) ∧ Blk w' w.heap.size (domV dn) 76) (by kernel_rfl) ?_
    refine wpAnyH_take (i := 0) (v := .pointer (some ⟨X, 0, none⟩)) rfl (by kernel_rfl) (by kernel_rfl) (by kernel_rfl) (fun _ _ _ h => h) (.inl ⟨by kernel_rfl, fun w' _ => rfl⟩) hK0 ?_
    refine wpAnyH_take (i := 1) (v := .pointer (some ⟨X, 0, none⟩)) rfl (by kernel_rfl) (by kernel_rfl) (by kernel_rfl) (fun _ _ _ h => h) (.inl ⟨by kernel_rfl, fun w' _ => rfl⟩) hK0 ?_
    refine wpAnyH_take (i := 2) (v := .pointer (some ⟨X, 0, none⟩)) rfl (by kernel_rfl) (by kernel_rfl) (by kernel_rfl) (fun _ _ _ h => h) (.inl ⟨by kernel_rfl, fun w' hS => by kernel_rfl⟩) hK0 ?_
    refine wpAnyH_take (i := 3) (v := .pointer (some ⟨X, 9, none⟩)) rfl (by kernel_rfl) (by kernel_rfl) (by kernel_rfl) (fun _ _ _ h => h) (.inl ⟨by kernel_rfl, fun w' hS => by kernel_rfl⟩) hK0 ?_
    refine wpAnyH_take (i := 4) (v := .slice (some ⟨tb, 0, none⟩) 1 tcap) rfl (by kernel_rfl) (by kernel_rfl) (by kernel_rfl) (fun _ _ _ h => h) (.inl ⟨by kernel_rfl, fun w' hS => ?_⟩) hK0 ?_
    · have hc := (hS.1.cell 9).trans (workCells_tabs _ _ _ _ hd8)
      clear hS hK0
      go_simp
    refine wpAnyH_take (i := 5) (v := .int .i64 0) rfl (by kernel_rfl) (by kernel_rfl) (by kernel_rfl) (fun _ _ _ h => h) (.inl ⟨by kernel_rfl, fun w' hS => rfl⟩) hK0 ?_
    refine wpAnyH_take (i := 6) (v := .pointer (some ⟨tb, 0, none⟩)) rfl (by kernel_rfl) (by kernel_rfl) (by kernel_rfl) (fun _ _ _ h => h) (.inl ⟨by kernel_rfl, fun w' hS => by kernel_rfl⟩) hK0 ?_
    refine wpAnyH_take (i := 7) (v := .iface 115 (.pointer (some ⟨G, 0, none⟩))) rfl (by kernel_rfl) (by kernel_rfl) (by kernel_rfl) (fun _ _ _ h => h) (.inl ⟨by kernel_rfl, fun w' hS => ?_⟩) hK0 ?_
    · have hc := hS.2.1
      clear hS hK0
      go_simp
    refine wpAnyH_take (i := 8) (v := .agg (domV dn)) rfl (by kernel_rfl) (by kernel_rfl) (by kernel_rfl) (fun _ _ _ h => h) (.inl ⟨by kernel_rfl, fun w' hS => ?_⟩) hK0 ?_
    · obtain ⟨k0, k1, k2, k3, k4, k5, k6, k7⟩ := cells8 (Hdv.out ▸ hS.2.2)
      clear hS hK0
      rw [Hdv.out]
      go_simp
    refine wpAnyH_all (rs := [9, 10]) (by kernel_rfl) (by simp) (fun i hi => ?_)
    rcases List.mem_cons.1 hi with rfl | hi
    · refine op_enter (f := 68) (args := #[.pointer (some ⟨X, 0, none⟩), .iface 115 (.pointer (some ⟨G, 0, none⟩)), .agg (domV dn)]) (w' := w2.drew) rfl (by kernel_rfl) (by kernel_rfl) ?_
      refine (narrow1_any X G g cap szv d _ l so sc br live vars dn _ HX2.out.drew hd8 hl HG2.out.drew Hvs2.out.drew h8 h24 hbr hlive h4 hv hd64).mono ?_
      rw [Hnd.out]
      rintro e w3 ⟨rfl, hf3, hG3⟩
      have hf3' : Fr (fun k => k = G) w2 w3 := hf3.of_drew
      have hK1 : Blk w3 X (workCells szv d (.slice (some ⟨tb, 0, none⟩) 1 tcap) l) 82 ∧ w3.cell? ⟨tb, 0, none⟩ = some (.iface 115 (.pointer (some ⟨G, 0, none⟩))) ∧ Blk w3 w.heap.size (domV dn) 76 :=
        ⟨HX2.out.fr hf3' (fun e => hXG e), ((Ht2.out.fr hf3' (fun k hk e => htG (by cases hk; exact e))).at_ 0 (by simp)).1, HbN2.out.fr hf3' (by omega)⟩
      refine ⟨_, rfl, hK1, ?_⟩
      refine wpAnyH_all (rs := [10]) (by kernel_rfl) (by simp) (fun i hi => ?_)
      rcases List.mem_cons.1 hi with rfl | hi
      · have hs3 : w2.heap.size ≤ w3.heap.size := hf3'.size
        have htl3 : tb < w3.heap.size := by omega
        obtain ⟨Y, hY⟩ : ∃ Y, Y = w3.alloc (.cells (domV zero8) 76) := ⟨_, rfl⟩
        have hfY : Nw w3 Y := by rw [hY]; exact (Fr.refl _ w3).alloc _
        have hZ : Blk Y w3.heap.size (domV zero8) 76 := by rw [hY]; exact Blk.new _ _ _
        have hKY : Blk Y X (workCells szv d (.slice (some ⟨tb, 0, none⟩) 1 tcap) l) 82 ∧ Y.cell? ⟨tb, 0, none⟩ = some (.iface 115 (.pointer (some ⟨G, 0, none⟩))) ∧ Blk Y w.heap.size (domV dn) 76 :=
          ⟨hK1.1.nw hfY, (hfY.cell htl3 (fun h => h)).trans hK1.2.1, hK1.2.2.nw hfY⟩
        refine op_value (v := .pointer (some ⟨w3.heap.size, 0, none⟩)) (w' := Y) rfl (by kernel_rfl) ?_ ⟨hKY, ?_⟩
        · rw [hY]
          kernel_rfl
        · refine wpAnyH_all (rs := [11]) (by kernel_rfl) (by simp) (fun i hi => ?_)
          rcases List.mem_cons.1 hi with rfl | hi
          · have hF8 := (Fr.refl (fun k => k = w3.heap.size) Y).set8 w3.heap.size 0 1 2 3 4 5 6 7 (.int .u8 y0) (.int .u8 y1) (.int .u8 y2) (.int .u8 y3) (.int .u8 y4) (.int .u8 y5) (.int .u8 y6) (.int .u8 y7) (.inl rfl)
            have hB8 := hZ.put8 Hnv.out
            obtain ⟨q0, q1, q2, q3, q4, q5, q6, q7⟩ := cells8 hZ
            have hfz := hZ.free
            clear hY
            refine op_skip (w' := _) rfl (by kernel_rfl) ?_ ⟨⟨hKY.1.fr hF8 (by omega), (hF8.cell (by have := hfY.size; omega) (by omega)).trans hKY.2.1, hKY.2.2.fr hF8 (by omega)⟩, wpAnyH_done (by kernel_rfl) ?_ _⟩
            · clear hK1 hK0 hKY hG3 hf3 hf3' hF8 hB8
              rw [Hnv.out]
              go_simp
            · simp only [Act.put, List.setIfInBounds_toArray, List.set_cons_zero, List.set_cons_succ, List.getElem_toArray, List.getElem_cons_zero, List.getElem_cons_succ]
              go_wp2_with fail
              go_meet
              case rel =>
                refine ⟨w3.heap.size, rfl, ?_, ?_, ?_, hs3⟩
                · exact hB8
                · exact (hG3.nw hfY).fr hF8 (by omega)
                · exact (hf3'.trans hfY (fun i h => h.elim)).trans hF8 (fun i h => .inr (by omega))
          · simp at hi
      · simp at hi
    · rcases List.mem_cons.1 hi with rfl | hi
      · obtain ⟨Y, hY⟩ : ∃ Y, Y = w2.drew.alloc (.cells (domV zero8) 76) := ⟨_, rfl⟩
        have hfY : Nw w2 Y := by rw [hY]; exact ((Fr.refl _ w2).drew).alloc _
        have hZ : Blk Y w2.heap.size (domV zero8) 76 := by rw [hY]; exact Blk.new _ _ _
        have hsY := hZ.lt
        have hKY : Blk Y X (workCells szv d (.slice (some ⟨tb, 0, none⟩) 1 tcap) l) 82 ∧ Y.cell? ⟨tb, 0, none⟩ = some (.iface 115 (.pointer (some ⟨G, 0, none⟩))) ∧ Blk Y w.heap.size (domV dn) 76 :=
          ⟨HX2.out.nw hfY, (hfY.cell (by omega) (fun h => h)).trans hcI, HbN2.out.nw hfY⟩
        refine op_value (v := .pointer (some ⟨w2.heap.size, 0, none⟩)) (w' := Y) rfl (by kernel_rfl) ?_ ⟨hKY, ?_⟩
        · rw [hY]
          kernel_rfl
        · refine wpAnyH_all (rs := [9]) (by kernel_rfl) (by simp) (fun i hi => ?_)
          rcases List.mem_cons.1 hi with rfl | hi
          · refine op_enter (f := 68) (args := #[.pointer (some ⟨X, 0, none⟩), .iface 115 (.pointer (some ⟨G, 0, none⟩)), .agg (domV dn)]) (w' := Y) rfl (by kernel_rfl) (by kernel_rfl) ?_
            refine (narrow1_any X G g cap szv d _ l so sc br live vars dn _ hKY.1 hd8 hl (HG2.out.nw hfY) (Hvs2.out.nw hfY) h8 h24 hbr hlive h4 hv hd64).mono ?_
            rw [Hnd.out]
            rintro e w3 ⟨rfl, hf3, hG3⟩
            have hs3 := hf3.size
            have hK1 : Blk w3 X (workCells szv d (.slice (some ⟨tb, 0, none⟩) 1 tcap) l) 82 ∧ w3.cell? ⟨tb, 0, none⟩ = some (.iface 115 (.pointer (some ⟨G, 0, none⟩))) ∧ Blk w3 w.heap.size (domV dn) 76 :=
              ⟨hKY.1.fr hf3 (fun e => hXG e), (hf3.cell (by omega) (fun e => htG e)).trans hKY.2.1, hKY.2.2.fr hf3 (by omega)⟩
            refine ⟨_, rfl, hK1, ?_⟩
            refine wpAnyH_all (rs := [11]) (by kernel_rfl) (by simp) (fun i hi => ?_)
            rcases List.mem_cons.1 hi with rfl | hi
            · have hZ3 := hZ.fr hf3 (by omega)
              have hF8 := (Fr.refl (fun k => k = w2.heap.size) w3).set8 w2.heap.size 0 1 2 3 4 5 6 7 (.int .u8 y0) (.int .u8 y1) (.int .u8 y2) (.int .u8 y3) (.int .u8 y4) (.int .u8 y5) (.int .u8 y6) (.int .u8 y7) (.inl rfl)
              have hB8 := hZ3.put8 Hnv.out
              obtain ⟨q0, q1, q2, q3, q4, q5, q6, q7⟩ := cells8 hZ3
              have hfz := hZ3.free
              clear hY
              refine op_skip (w' := _) rfl (by kernel_rfl) ?_ ⟨⟨hK1.1.fr hF8 (by omega), (hF8.cell (by omega) (by omega)).trans hK1.2.1, hK1.2.2.fr hF8 (by omega)⟩, wpAnyH_done (by kernel_rfl) ?_ _⟩
              · clear hK1 hK0 hKY hG3 hf3 hF8 hB8 hZ hZ3
                rw [Hnv.out]
                go_simp
              · simp only [Act.put, List.setIfInBounds_toArray, List.set_cons_zero, List.set_cons_succ, List.getElem_toArray, List.getElem_cons_zero, List.getElem_cons_succ]
                go_wp2_with fail
                go_meet
                case rel =>
                  refine ⟨w2.heap.size, rfl, ?_, ?_, ?_, Nat.le_refl _⟩
                  · exact hB8
                  · exact hG3.fr hF8 (by omega)
                  · exact ((hfY.mono (fun i h => h.elim)).trans hf3 (fun i h => .inl h)).trans hF8 (fun i h => .inr (by omega))
            · simp at hi
          · simp at hi
      · simp at hi
  case rest =>
    obtain ⟨N, rfl, hN, hG3, hf3, hNl⟩ := hcut
    clear c0 c1 c2 c3 c4 c5 c6 c7 hcT hcI
    have hX3 := HX2.out.fr hf3 (fun e => hXG e)
    have ht3 := Ht2.out.fr hf3 (fun k hk e => htG (by cases hk; exact e))
    have hvs3 := Hvs2.out.fr hf3 (fun k hk e => hgG (by cases hk; exact e))
    have hsz3 := Hsz2.out.fr hf3 (fun k hk e => HszG.out k hk e)
    have hD3 := HbN2.out.fr hf3 (by omega)
    have hM3 := HM2.out.fr hf3 (by omega)
    have hs3 := hf3.size
    obtain ⟨c0, c1, c2, c3, c4, c5, c6, c7⟩ := cells8 (Hdv.out ▸ hD3)
    obtain ⟨k0, k1, k2, k3, k4, k5, k6, k7⟩ := cells8 (Hnv.out ▸ hN.out)
    have HX3 := hd hX3
    have Ht3 := hd ht3
    have Hvs3 := hd hvs3
    have Hsz3 := hd hsz3
    have HD3 := hd hD3
    have HM3 := hd hM3
    have Hf3 : Hid (Fr (fun k => k = X ∨ k = G) w wc) := (Hf2.out.mono (fun i h => h.elim)).trans hf3 (fun i h => .inl (.inr h))
    clear hX3 ht3 hvs3 hsz3 hD3 hM3 HX2 Ht2 Hvs2 Hsz2 HbN2 HM2 HM1 HG2 Hf2 hf3
    go_wp2_with fail
    rw [← Hdv.out, ← Hnv.out]
    refine (wake_one X (w.heap.size + 1) tb tcap G g cap szv d l false br (nLive br live vars dn) vars dn nd true _ HX3.out hd8 Ht3.out hG3.out Hvs3.out h4 hv h8 hn8 HM3.out).mono ?_
    rintro e w4 ⟨rfl, hf4, hM4⟩
    rw [Bool.true_or] at hM4
    have hs4 := hf4.size
    have hD4 := HD3.out.fr hf4 (by omega)
    have hN4 := hN.out.fr hf4 (by omega)
    have HX4 := hd (HX3.out.fr hf4 (by omega))
    have HG4 := hd (hG3.out.fr hf4 (by omega))
    have Hsz4 := hd (Hsz3.out.fr hf4 (fun k hk e => by have := Hsz3.out.lt hk; have := HszM.out k hk; omega))
    have hcM4 : w4.cell? ⟨w.heap.size + 1, 0, none⟩ = some (.bool true) := hM4.cell 0
    have hfM4 := hM4.free 0
    have HM4 := hd hM4
    have HD4 := hd hD4
    have HN4 := hd hN4
    have Hf4 : Hid (Fr (fun k => k = X ∨ k = G) w w4) := Hf3.out.trans hf4 (fun i h => .inr (by omega))
    clear hD4 hN4 hM4 hf4 c0 c1 c2 c3 c4 c5 c6 c7 k0 k1 k2 k3 k4 k5 k6 k7
    go_upto_region 8 with fail
    obtain ⟨U, hU⟩ : ∃ U, U = w4.setCell ⟨w.heap.size + 1, 0, none⟩ (.bool false) := ⟨_, rfl⟩
    have hfU : Fr (fun k => k = w.heap.size + 1) w4 U := by rw [hU]; exact (Fr.refl _ w4).setCell _ _ (.inl rfl)
    have hMU : Blk U (w.heap.size + 1) (mkV false) 91 := by rw [hU]; exact HM4.out.set 0 (.bool false)
    rw [← hU]
    have hsU := hfU.size
    have hDU := HD4.out.fr hfU (by omega)
    have hNU := HN4.out.fr hfU (by omega)
    have HXU := hd (HX4.out.fr hfU (by omega))
    have HGU := hd (HG4.out.fr hfU (by omega))
    have HszU := hd (Hsz4.out.fr hfU (fun k hk e => by have := HszM.out k hk; omega))
    have HMU := hd hMU
    obtain ⟨c0, c1, c2, c3, c4, c5, c6, c7⟩ := cells8 (Hdv.out ▸ hDU)
    obtain ⟨k0, k1, k2, k3, k4, k5, k6, k7⟩ := cells8 (Hnv.out ▸ hNU)
    have hfz := hDU.free
    have hB8 := Blk.set8 (cur := #[Value.int .u8 x0, Value.int .u8 x1, Value.int .u8 x2, Value.int .u8 x3, Value.int .u8 x4, Value.int .u8 x5, Value.int .u8 x6, Value.int .u8 x7]) (Hdv.out ▸ hDU) 0 1 2 3 4 5 6 7 (.int .u8 y0) (.int .u8 y1) (.int .u8 y2) (.int .u8 y3) (.int .u8 y4) (.int .u8 y5) (.int .u8 y6) (.int .u8 y7)
    rw [arr8, ← Hnv.out] at hB8
    have HB8 := hd hB8
    have hF8 := (Fr.refl (fun k => k = w.heap.size) U).set8 w.heap.size 0 1 2 3 4 5 6 7 (.int .u8 y0) (.int .u8 y1) (.int .u8 y2) (.int .u8 y3) (.int .u8 y4) (.int .u8 y5) (.int .u8 y6) (.int .u8 y7) (.inl rfl)
    have HF8 := hd hF8
    have HfU : Hid (Fr (fun k => k = X ∨ k = G) w U) := Hf4.out.trans hfU (fun i h => .inr (by omega))
    clear hU hMU hDU hNU hB8 hF8 hfU hcM4 hfM4
    go_wp2_with fail
    generalize ((((((((U.setCell ⟨w.heap.size, 0, none⟩ (Value.int .u8 y0)).setCell ⟨w.heap.size, 1, none⟩ (Value.int .u8 y1)).setCell ⟨w.heap.size, 2, none⟩ (Value.int .u8 y2)).setCell ⟨w.heap.size, 3, none⟩ (Value.int .u8 y3)).setCell ⟨w.heap.size, 4, none⟩ (Value.int .u8 y4)).setCell ⟨w.heap.size, 5, none⟩ (Value.int .u8 y5)).setCell ⟨w.heap.size, 6, none⟩ (Value.int .u8 y6)).setCell ⟨w.heap.size, 7, none⟩ (Value.int .u8 y7)) = V at HB8 HF8 ⊢
    have hsV := HF8.out.size
    have HXV := hd (HXU.out.fr HF8.out (by omega))
    have HGV := hd (HGU.out.fr HF8.out (by omega))
    have HszV := hd (HszU.out.fr HF8.out (fun k hk e => by have := HszM.out k hk; omega))
    have HMV := hd (HMU.out.fr HF8.out (by omega))
    have HfV : Hid (Fr (fun k => k = X ∨ k = G) w V) := HfU.out.trans HF8.out (fun i h => .inr (by omega))
    clear c0 c1 c2 c3 c4 c5 c6 c7 k0 k1 k2 k3 k4 k5 k6 k7 hfz HXU HGU HszU HMU HfU HF8
    obtain ⟨c0, c1, c2, c3, c4, c5, c6, c7⟩ := cells8 (Hnv.out ▸ HB8.out)
    rw [rounds_succ]
    go_wp2_with fail
    rw [← Hnv.out]
    refine (emptied_any X szv d _ l zs nd _ HXV.out HszV.out hzl hn8).mono ?_
    rw [He2.out]
    rintro e w5 ⟨rfl, hf5⟩
    have HM5 := hd (HMV.out.nw hf5)
    have HX5 := hd (HXV.out.nw hf5)
    have HG5 := hd (HGV.out.nw hf5)
    have Hf5 : Hid (Fr (fun k => k = X ∨ k = G) w w5) := HfV.out.trans hf5 (fun i h => h.elim)
    have hb5 := HB8.out.nw hf5
    clear c0 c1 c2 c3 c4 c5 c6 c7 hf5
    obtain ⟨c0, c1, c2, c3, c4, c5, c6, c7⟩ := cells8 (Hnv.out ▸ hb5)
    clear hb5
    go_wp2_with (first
      | (go_at_call 66; refine (index_marks (w.heap.size + 1) false _ HM5.out).mono ?_; rintro e w2 ⟨rfl, rfl⟩)
      | (go_at_call 67; rw [← Hnv.out]; refine (replace_any X szv d _ l so sc nd _ HX5.out hd8 hl hn8 hd6 Hn6.out).mono ?_; rintro e w6 ⟨rfl, hf6, hX6⟩))
    exact bodyPost_ret (v := .tuple #[]) (results_none rfl _ _ _) rfl ⟨rfl, Hf5.out.trans hf6 (fun i h => .inl (.inl h)), hX6, HG5.out.fr hf6 (fun e => hXG e.symm)⟩
end Go.Proofs.Ytkjfpdfkcfgfkaa
