/- Contracts of restrict and Remove where there is one table, of Way 1, that the change wakes, and no domain comes out empty. -/
import Derived.Test.YtkjfpdfkcfgfkaaSettle
namespace Go.Proofs.Ytkjfpdfkcfgfkaa
open Go.RowKit

set_option maxHeartbeats 3200000 in
set_option maxRecDepth 1000000 in
theorem restrict_one (X tb tcap G g cap : Nat) (szv : Value) (zs : List Int) (d : List Nat) (l : Rest) (so : Option Addr) (sc : Nat) (br : List Nat) (live : Nat) (vars : List Int) (v x : Nat) (w : World)
    (hX : Blk w X (workCells szv d (.slice (some ⟨tb, 0, none⟩) 1 tcap) l) 82) (hsz : Row w szv 3 (zs.map (Value.int .i64))) (hzl : zs.length ≤ 8) (hd8 : d.length = 8) (hl : l.starts = .slice so 0 sc) (hd6 : ∀ x ∈ d, x < 64)
    (ht : Row w (.slice (some ⟨tb, 0, none⟩) 1 tcap) 93 [.iface 115 (.pointer (some ⟨G, 0, none⟩))])
    (hG : Blk w G (rsCells (.slice (some ⟨g, 0, none⟩) vars.length cap) false br live) 142) (hvs : Row w (.slice (some ⟨g, 0, none⟩) vars.length cap) 3 (vars.map (Value.int .i64)))
    (hv8 : v < 8) (h24 : br.length = 24) (hbr : ∀ j, br.getD j 0 < 18446744073709551616) (hlive : live < 18446744073709551616)
    (h4 : vars.length ≤ 4) (hv : ∀ i, i < vars.length → 0 ≤ vars.getD i 0 ∧ vars.getD i 0 < 8) (hd64 : ∀ q, (d.set v x).getD q 0 < 64)
    (hch : changedB vars d (d.set v x) vars.length = true) (hn64 : ∀ nd, nDom br live vars (d.set v x) = nd → ∀ x ∈ nd, x < 64)
    (he1 : emptyB zs.length (d.set v x) = false) (he2 : emptyB zs.length (nDom br live vars (d.set v x)) = false) :
    Calls Try.prog 40 #[.pointer (some ⟨X, 0, none⟩), .int .i64 v, .int .u8 x] w fun e w' => e = .returned (.tuple #[]) ∧ Fr (fun k => k = X ∨ k = G) w w' ∧
      Blk w' X (workCells szv (nDom br live vars (d.set v x)) (.slice (some ⟨tb, 0, none⟩) 1 tcap) l) 82 ∧
      Blk w' G (rsCells (.slice (some ⟨g, 0, none⟩) vars.length cap) false br (nLive br live vars (d.set v x))) 142 := by
  obtain ⟨v0, v1, v2, v3, v4, v5, v6, v7, hdv⟩ := domV8 hd8
  obtain ⟨⟨x0, rfl⟩, ⟨x1, rfl⟩, ⟨x2, rfl⟩, ⟨x3, rfl⟩, ⟨x4, rfl⟩, ⟨x5, rfl⟩, ⟨x6, rfl⟩, ⟨x7, rfl⟩⟩ := domV_one d hdv
  obtain ⟨dn, hdn⟩ : ∃ dn, d.set v x = dn := ⟨_, rfl⟩
  have h8 : dn.length = 8 := by rw [← hdn]; simpa using hd8
  rw [hdn] at hd64 hch hn64 he1 he2 ⊢
  obtain ⟨m0, m1, m2, m3, m4, m5, m6, m7, hnv⟩ := domV8 h8
  have hXlt := hX.lt
  have hGlt := hG.lt
  have HtL : Hid (∀ k, (Value.slice (some ⟨tb, 0, none⟩) 1 tcap).ownBlock = some k → k < w.heap.size) := fun k hk => ht.lt hk
  have HvL : Hid (∀ k, (Value.slice (some ⟨g, 0, none⟩) vars.length cap).ownBlock = some k → k < w.heap.size) := fun k hk => hvs.lt hk
  have HsL : Hid (∀ k, szv.ownBlock = some k → k < w.heap.size) := fun k hk => hsz.lt hk
  have hi8 : (v : Int) < 8 := by omega
  obtain ⟨c0, c1, c2, c3, c4, c5, c6, c7⟩ := work8 hX hdv
  have HX := hd hX
  have Hdv := hd hdv
  have Hnv := hd hnv
  have Hdn := hd hdn
  clear hX hdv hnv hdn
  go_enter Try.func40, Try.ntmps40
  go_upto_region 1 with fail
  obtain ⟨W, hW⟩ : ∃ W, W = w.alloc (.cells (domV d) 76) := ⟨_, rfl⟩
  have hfW : Nw w W := by rw [hW]; exact (Fr.refl _ w).alloc _
  have hbN : Blk W w.heap.size (domV d) 76 := by rw [hW]; exact Blk.new _ _ _
  rw [← Hdv.out]
  rw [← hW]
  clear hW c0 c1 c2 c3 c4 c5 c6 c7
  have hfz := hbN.free v
  obtain ⟨xv, hcv⟩ : ∃ xv, W.cell? ⟨w.heap.size, v, none⟩ = some xv := ⟨_, (hbN.cell _).trans (domV_get d v (by omega))⟩
  have HbN := hd hbN
  clear hbN
  go_upto_region 2 with fail
  obtain ⟨U, hU⟩ : ∃ U, U = W.setCell ⟨w.heap.size, v, none⟩ (.int .u8 (x : Int)) := ⟨_, rfl⟩
  have hbU : Blk U w.heap.size (domV dn) 76 := by rw [hU, ← Hdn.out, ← domV_set]; exact HbN.out.set v _
  have hfU : Nw w U := by rw [hU]; exact hfW.setCell _ _ (.inr (Nat.le_refl _))
  have hlU := hbU.lt
  rw [← hU]
  clear hU hfW hcv hfz HbN
  have HbU := hd hbU
  clear hbU
  go_upto_region 3 with fail
  obtain ⟨V, hV⟩ : ∃ V, V = U.alloc (.cells (mkV false) 91) := ⟨_, rfl⟩
  have hfV : Nw w V := by rw [hV]; exact hfU.alloc _
  have hbV : Blk V w.heap.size (domV dn) 76 := by rw [hV]; exact HbU.out.alloc _
  have hbM : Blk V U.heap.size (mkV false) 91 := by rw [hV]; exact Blk.new _ _ _
  rw [show U.alloc (Obj.cells #[Value.bool false, Value.bool false, Value.bool false, Value.bool false, Value.bool false, Value.bool false, Value.bool false, Value.bool false, Value.bool false, Value.bool false, Value.bool false, Value.bool false] 91) = V from hV.symm]
  clear hV
  have hlM := hbM.lt
  obtain ⟨c0, c1, c2, c3, c4, c5, c6, c7⟩ := work8 (HX.out.nw hfV) Hdv.out
  obtain ⟨e0, e1, e2, e3, e4, e5, e6, e7⟩ := cells8 (Hnv.out ▸ hbV)
  have HbV := hd hbV
  have HbM := hd hbM
  have HXV := hd (HX.out.nw hfV)
  have HtV := hd (ht.nw hfV)
  have HGV := hd (hG.nw hfV)
  have HvV := hd (hvs.nw hfV)
  have HsV := hd (hsz.nw hfV)
  have HfV := hd hfV
  clear hbV hbM hfV hfU HX ht hG hvs hsz HbU
  go_still_tail 6, (by kernel_rfl)
  go_wp2_with fail
  rw [← Hdv.out, ← Hnv.out]
  refine (wake_one X U.heap.size tb tcap G g cap szv d l false br live vars d dn false _ HXV.out.drew hd8 HtV.out.drew HGV.out.drew HvV.out.drew h4 hv hd8 h8 HbM.out.drew).mono ?_
  rw [hch]
  rintro e w1 ⟨rfl, hf1, hM1⟩
  rw [Bool.false_or] at hM1
  have hf1' : Fr (fun k => k = U.heap.size) V w1 := hf1.of_drew
  have hs1 := hf1'.size
  have hUl : ∀ k, k < w.heap.size → k ≠ U.heap.size := fun k hk => by omega
  have hb1 := HbV.out.fr hf1' (by omega)
  have hX1 := HXV.out.fr hf1' (hUl _ hXlt)
  have ht1 := HtV.out.fr hf1' (fun k hk => hUl k (HtL.out k hk))
  have hv1 := HvV.out.fr hf1' (fun k hk => hUl k (HvL.out k hk))
  have hs1' := HsV.out.fr hf1' (fun k hk => hUl k (HsL.out k hk))
  have hG1 := HGV.out.fr hf1' (hUl _ hGlt)
  clear c0 c1 c2 c3 c4 c5 c6 c7 e0 e1 e2 e3 e4 e5 e6 e7
  obtain ⟨e0, e1, e2, e3, e4, e5, e6, e7⟩ := cells8 (Hnv.out ▸ hb1)
  have r0 : w1.cell? ⟨U.heap.size, 0, none⟩ = some (.bool true) := hM1.cell 0
  have r1 : w1.cell? ⟨U.heap.size, 1, none⟩ = some (.bool false) := hM1.cell 1
  have r2 : w1.cell? ⟨U.heap.size, 2, none⟩ = some (.bool false) := hM1.cell 2
  have r3 : w1.cell? ⟨U.heap.size, 3, none⟩ = some (.bool false) := hM1.cell 3
  have r4 : w1.cell? ⟨U.heap.size, 4, none⟩ = some (.bool false) := hM1.cell 4
  have r5 : w1.cell? ⟨U.heap.size, 5, none⟩ = some (.bool false) := hM1.cell 5
  have r6 : w1.cell? ⟨U.heap.size, 6, none⟩ = some (.bool false) := hM1.cell 6
  have r7 : w1.cell? ⟨U.heap.size, 7, none⟩ = some (.bool false) := hM1.cell 7
  have r8 : w1.cell? ⟨U.heap.size, 8, none⟩ = some (.bool false) := hM1.cell 8
  have r9 : w1.cell? ⟨U.heap.size, 9, none⟩ = some (.bool false) := hM1.cell 9
  have r10 : w1.cell? ⟨U.heap.size, 10, none⟩ = some (.bool false) := hM1.cell 10
  have r11 : w1.cell? ⟨U.heap.size, 11, none⟩ = some (.bool false) := hM1.cell 11
  have HF1 : Hid (Fr (fun k => k = X ∨ k = G) w w1) := (HfV.out.mono (fun i h => h.elim)).trans hf1' (fun i h => .inr (by omega))
  have HX1 := hd hX1
  have Ht1 := hd ht1
  have Hv1 := hd hv1
  have Hs1 := hd hs1'
  have HG1 := hd hG1
  have Hch := hd hch
  clear hb1 hX1 ht1 hv1 hs1' hG1 hM1 hf1 hch hf1'
  go_wp2_with (go_at_call 53; rw [← Hnv.out]; refine (settle_one X tb tcap G g cap szv zs d l so sc br live vars dn _ HX1.out Hs1.out hzl hd8 hl hd6 Ht1.out HG1.out Hv1.out h8 h24 hbr hlive h4 hv hd64 hn64 he1 he2).mono ?_; rintro e w2 ⟨rfl, hf2, hX2, hG2⟩)
  go_end0
  exact ⟨rfl, HF1.out.trans hf2 (fun i h => .inl h), hX2, hG2⟩

set_option maxHeartbeats 3200000 in
set_option maxRecDepth 1000000 in
theorem remove_one (X tb tcap G g cap : Nat) (szv : Value) (zs : List Int) (d : List Nat) (l : Rest) (so : Option Addr) (sc : Nat) (br : List Nat) (live : Nat) (vars : List Int) (v value x : Nat) (w : World)
    (hX : Blk w X (workCells szv d (.slice (some ⟨tb, 0, none⟩) 1 tcap) l) 82) (hsz : Row w szv 3 (zs.map (Value.int .i64))) (hzl : zs.length ≤ 8) (hd8 : d.length = 8) (hl : l.starts = .slice so 0 sc) (hd6 : ∀ x ∈ d, x < 64)
    (ht : Row w (.slice (some ⟨tb, 0, none⟩) 1 tcap) 93 [.iface 115 (.pointer (some ⟨G, 0, none⟩))])
    (hG : Blk w G (rsCells (.slice (some ⟨g, 0, none⟩) vars.length cap) false br live) 142) (hvs : Row w (.slice (some ⟨g, 0, none⟩) vars.length cap) 3 (vars.map (Value.int .i64)))
    (hv8 : v < 8) (hval : value < 6) (hfault : faultOf zs d v value = 0) (hbz : l.busy = false) (hx : bits .andNot .u8 (d.getD v 0 : Nat) (2 ^ value : Nat) = (x : Int)) (h24 : br.length = 24) (hbr : ∀ j, br.getD j 0 < 18446744073709551616) (hlive : live < 18446744073709551616)
    (h4 : vars.length ≤ 4) (hv : ∀ i, i < vars.length → 0 ≤ vars.getD i 0 ∧ vars.getD i 0 < 8) (hd64 : ∀ q, (d.set v x).getD q 0 < 64)
    (hch : changedB vars d (d.set v x) vars.length = true) (hn64 : ∀ nd, nDom br live vars (d.set v x) = nd → ∀ x ∈ nd, x < 64)
    (he1 : emptyB zs.length (d.set v x) = false) (he2 : emptyB zs.length (nDom br live vars (d.set v x)) = false) :
    Calls Try.prog 19 #[.pointer (some ⟨X, 0, none⟩), .int .i64 v, .int .i64 value] w fun e w' => e = .returned (.int .i64 0) ∧ Fr (fun k => k = X ∨ k = G) w w' ∧
      Blk w' X (workCells szv (nDom br live vars (d.set v x)) (.slice (some ⟨tb, 0, none⟩) 1 tcap) l) 82 ∧
      Blk w' G (rsCells (.slice (some ⟨g, 0, none⟩) vars.length cap) false br (nLive br live vars (d.set v x))) 142 := by
  have hi8 : (v : Int) < 8 := by omega
  have hcd : w.cell? ⟨X, 1 + v, none⟩ = some (.int .u8 (d.getD v 0 : Nat)) := (hX.cell _).trans (workCells_dom _ _ _ _ _ (by omega))
  obtain ⟨y, hy⟩ : ∃ y, d.getD v 0 = y := ⟨_, rfl⟩
  rw [hy] at hcd
  have HX := hd hX
  have Hs := hd hsz
  have Ht := hd ht
  have HG := hd hG
  have Hv := hd hvs
  have Hy := hd hy
  clear hX hsz ht hG hvs hy
  go_enter Try.func19, Try.ntmps19
  go_upto_region 4 with (go_at_call 39; refine (fault_any X szv d _ l zs v value _ HX.out Hs.out hzl hd8 hbz).mono ?_; rw [hfault]; rintro e w' ⟨rfl, rfl⟩)
  go_still_tail 11, (by kernel_rfl)
  refine still_call (f := 41) (args := #[.int .i64 (value : Int)]) (.int .u8 (2 ^ value : Nat)) (by kernel_rfl) (by kernel_rfl) (one_any value _ (by omega)) ?_
  simp only [Act.put, List.setIfInBounds_toArray, List.set_cons_zero, List.set_cons_succ]
  refine still_value (.int .u8 (x : Int)) (by kernel_rfl) ?_ ?_
  · have hxx := hx
    rw [Hy.out] at hxx
    clear hn64 hch he1 he2 hd64 hfault hx hd6 hbr hlive hv hl h4 h24 hcd
    go_simp
    simpa using hxx
  refine wpStill_nil ?_
  simp only [Act.put, List.setIfInBounds_toArray, List.set_cons_zero, List.set_cons_succ]
  go_wp2_with (go_at_call 40; refine (restrict_one X tb tcap G g cap szv zs d l so sc br live vars v x _ HX.out.drew Hs.out.drew hzl hd8 hl hd6 Ht.out.drew HG.out.drew Hv.out.drew hv8 h24 hbr hlive h4 hv hd64 hch hn64 he1 he2).mono ?_; rintro e w2 ⟨rfl, hf2, hX2, hG2⟩)
  go_ret
  exact ⟨rfl, hf2.of_drew, hX2, hG2⟩
end Go.Proofs.Ytkjfpdfkcfgfkaa
