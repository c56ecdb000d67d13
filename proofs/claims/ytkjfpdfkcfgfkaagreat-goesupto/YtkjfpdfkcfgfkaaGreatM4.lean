/- Parts of the proof, number 4: contracts of the functions that the statement calls. -/
import Derived.Test.YtkjfpdfkcfgfkaaGreatM3
import Derived.Laws.AppendOwnNone

namespace Go.Proofs.YtkjfpdfkcfgfkaaGreat
open Go.RowKit

set_option maxHeartbeats 3200000 in
set_option maxRecDepth 1000000 in
theorem restrict_one (X tb tcap G g cap : Nat) (szv : Value) (zs : List Int) (d : List Nat) (l : Rest) (so : Option Addr) (sc : Nat) (br : List Nat) (live : Nat) (vars : List Int) (v x : Nat) (w : World)
  (hX : Blk w X (workCells szv d (.slice (some ⟨tb, 0, none⟩) 1 tcap) l) 66) (hsz : Row w szv 3 (zs.map (Value.int .i64))) (hzl : zs.length ≤ 8) (hd8 : d.length = 8) (hl : l.starts = .slice so 0 sc) (hd6 : ∀ x ∈ d, x < 64)
  (ht : Row w (.slice (some ⟨tb, 0, none⟩) 1 tcap) 73 [.iface 91 (.pointer (some ⟨G, 0, none⟩))])
  (hG : Blk w G (rsCells (.slice (some ⟨g, 0, none⟩) vars.length cap) false br live) 131) (hvs : Row w (.slice (some ⟨g, 0, none⟩) vars.length cap) 3 (vars.map (Value.int .i64)))
  (hv8 : v < 8) (h24 : br.length = 24) (hbr : ∀ j, br.getD j 0 < 18446744073709551616) (hlive : live < 18446744073709551616)
  (h4 : vars.length ≤ 4) (hv : ∀ i, i < vars.length → 0 ≤ vars.getD i 0 ∧ vars.getD i 0 < 8) (hd64 : ∀ q, (d.set v x).getD q 0 < 64)
  (hch : changedB vars d (d.set v x) vars.length = true) (hn64 : ∀ nd, nDom br live vars (d.set v x) = nd → ∀ x ∈ nd, x < 64)
  (he1 : emptyB zs.length (d.set v x) = false) (he2 : emptyB zs.length (nDom br live vars (d.set v x)) = false) :
  Calls Tryz.prog 31 #[.pointer (some ⟨X, 0, none⟩), .int .i64 v, .int .u8 x] w fun e w' => e = .returned (.tuple #[]) ∧ Fr (fun k => k = X ∨ k = G) w w' ∧
   Blk w' X (workCells szv (nDom br live vars (d.set v x)) (.slice (some ⟨tb, 0, none⟩) 1 tcap) l) 66 ∧
   Blk w' G (rsCells (.slice (some ⟨g, 0, none⟩) vars.length cap) false br (nLive br live vars (d.set v x))) 131 := by
 obtain ⟨v0, v1, v2, v3, v4, v5, v6, v7, hdv⟩ := domV8 hd8
 obtain ⟨⟨x0, rfl⟩, ⟨x1, rfl⟩, ⟨x2, rfl⟩, ⟨x3, rfl⟩, ⟨x4, rfl⟩, ⟨x5, rfl⟩, ⟨x6, rfl⟩, ⟨x7, rfl⟩⟩ := domV_one d hdv
 obtain ⟨dn, hdn⟩ : ∃ dn, d.set v x = dn := ⟨_, rfl⟩
 have h8 : dn.length = 8 := by rw [← hdn]; simpa using hd8
 rw [hdn] at hd64 hch hn64 he1 he2 ⊢
 obtain ⟨m0, m1, m2, m3, m4, m5, m6, m7, hnv⟩ := domV8 h8
 have hXlt := hX.lt
 have hGlt := hG.lt
 have HtL : Hid (∀ k, (Value.slice (some ⟨tb, 0, none⟩) 1 tcap).ownBlock = some k → k < w.heap.size) := fun k hk => ht.lt hk
 have HvL : Hid (∀ k, (Value.slice (some ⟨g, 0, none⟩) vars.length cap).ownBlock = some k → k < w.heap.size) := fun k hk => hvs.lt hk
 have HsL : Hid (∀ k, szv.ownBlock = some k → k < w.heap.size) := fun k hk => hsz.lt hk
 have hi8 : (v : Int) < 8 := by omega
 obtain ⟨c0, c1, c2, c3, c4, c5, c6, c7⟩ := work8 hX hdv
 have HX := hd hX
 have Hdv := hd hdv
 have Hnv := hd hnv
 have Hdn := hd hdn
 clear hX hdv hnv hdn
 go_enter Tryz.func31, Tryz.ntmps31
 go_upto_region 1 with fail
 obtain ⟨W, hW⟩ : ∃ W, W = w.alloc (.cells (domV d) 60) := ⟨_, rfl⟩
 have hfW : Nw w W := by rw [hW]; exact (Fr.refl _ w).alloc _
 have hbN : Blk W w.heap.size (domV d) 60 := by rw [hW]; exact Blk.new _ _ _
 rw [← Hdv.out]
 rw [← hW]
 clear hW c0 c1 c2 c3 c4 c5 c6 c7
 have hfz := hbN.free v
 obtain ⟨xv, hcv⟩ : ∃ xv, W.cell? ⟨w.heap.size, v, none⟩ = some xv := ⟨_, (hbN.cell _).trans (domV_get d v (by omega))⟩
 have HbN := hd hbN
 clear hbN
 go_upto_region 2 with fail
 obtain ⟨U, hU⟩ : ∃ U, U = W.setCell ⟨w.heap.size, v, none⟩ (.int .u8 (x : Int)) := ⟨_, rfl⟩
 have hbU : Blk U w.heap.size (domV dn) 60 := by rw [hU, ← Hdn.out, ← domV_set]; exact HbN.out.set v _
 have hfU : Nw w U := by rw [hU]; exact hfW.setCell _ _ (.inr (Nat.le_refl _))
 have hlU := hbU.lt
 rw [← hU]
 clear hU hfW hcv hfz HbN
 have HbU := hd hbU
 clear hbU
 go_upto_region 3 with fail
 obtain ⟨V, hV⟩ : ∃ V, V = U.alloc (.cells (mkV false) 71) := ⟨_, rfl⟩
 have hfV : Nw w V := by rw [hV]; exact hfU.alloc _
 have hbV : Blk V w.heap.size (domV dn) 60 := by rw [hV]; exact HbU.out.alloc _
 have hbM : Blk V U.heap.size (mkV false) 71 := by rw [hV]; exact Blk.new _ _ _
 rw [show U.alloc (Obj.cells #[Value.bool false, Value.bool false, Value.bool false, Value.bool false, Value.bool false, Value.bool false, Value.bool false, Value.bool false, Value.bool false, Value.bool false, Value.bool false, Value.bool false] 71) = V from hV.symm]
 clear hV
 have hlM := hbM.lt
 obtain ⟨c0, c1, c2, c3, c4, c5, c6, c7⟩ := work8 (HX.out.nw hfV) Hdv.out
 obtain ⟨e0, e1, e2, e3, e4, e5, e6, e7⟩ := cells8 (Hnv.out ▸ hbV)
 have HbV := hd hbV
 have HbM := hd hbM
 have HXV := hd (HX.out.nw hfV)
 have HtV := hd (ht.nw hfV)
 have HGV := hd (hG.nw hfV)
 have HvV := hd (hvs.nw hfV)
 have HsV := hd (hsz.nw hfV)
 have HfV := hd hfV
 clear hbV hbM hfV hfU HX ht hG hvs hsz HbU
 go_still_tail 6, (by kernel_rfl)
 go_wp2_with fail
 rw [← Hdv.out, ← Hnv.out]
 refine (wake_one X U.heap.size tb tcap G g cap szv d l false br live vars d dn false _ HXV.out.drew hd8 HtV.out.drew HGV.out.drew HvV.out.drew h4 hv hd8 h8 HbM.out.drew).mono ?_
 rw [hch]
 rintro e w1 ⟨rfl, hf1, hM1⟩
 rw [Bool.false_or] at hM1
 have hf1' : Fr (fun k => k = U.heap.size) V w1 := hf1.of_drew
 have hs1 := hf1'.size
 have hUl : ∀ k, k < w.heap.size → k ≠ U.heap.size := fun k hk => by omega
 have hb1 := HbV.out.fr hf1' (by omega)
 have hX1 := HXV.out.fr hf1' (hUl _ hXlt)
 have ht1 := HtV.out.fr hf1' (fun k hk => hUl k (HtL.out k hk))
 have hv1 := HvV.out.fr hf1' (fun k hk => hUl k (HvL.out k hk))
 have hs1' := HsV.out.fr hf1' (fun k hk => hUl k (HsL.out k hk))
 have hG1 := HGV.out.fr hf1' (hUl _ hGlt)
 clear c0 c1 c2 c3 c4 c5 c6 c7 e0 e1 e2 e3 e4 e5 e6 e7
 obtain ⟨e0, e1, e2, e3, e4, e5, e6, e7⟩ := cells8 (Hnv.out ▸ hb1)
 have r0 : w1.cell? ⟨U.heap.size, 0, none⟩ = some (.bool true) := hM1.cell 0
 have r1 : w1.cell? ⟨U.heap.size, 1, none⟩ = some (.bool false) := hM1.cell 1
 have r2 : w1.cell? ⟨U.heap.size, 2, none⟩ = some (.bool false) := hM1.cell 2
 have r3 : w1.cell? ⟨U.heap.size, 3, none⟩ = some (.bool false) := hM1.cell 3
 have r4 : w1.cell? ⟨U.heap.size, 4, none⟩ = some (.bool false) := hM1.cell 4
 have r5 : w1.cell? ⟨U.heap.size, 5, none⟩ = some (.bool false) := hM1.cell 5
 have r6 : w1.cell? ⟨U.heap.size, 6, none⟩ = some (.bool false) := hM1.cell 6
 have r7 : w1.cell? ⟨U.heap.size, 7, none⟩ = some (.bool false) := hM1.cell 7
 have r8 : w1.cell? ⟨U.heap.size, 8, none⟩ = some (.bool false) := hM1.cell 8
 have r9 : w1.cell? ⟨U.heap.size, 9, none⟩ = some (.bool false) := hM1.cell 9
 have r10 : w1.cell? ⟨U.heap.size, 10, none⟩ = some (.bool false) := hM1.cell 10
 have r11 : w1.cell? ⟨U.heap.size, 11, none⟩ = some (.bool false) := hM1.cell 11
 have HF1 : Hid (Fr (fun k => k = X ∨ k = G) w w1) := (HfV.out.mono (fun i h => h.elim)).trans hf1' (fun i h => .inr (by omega))
 have HX1 := hd hX1
 have Ht1 := hd ht1
 have Hv1 := hd hv1
 have Hs1 := hd hs1'
 have HG1 := hd hG1
 have Hch := hd hch
 clear hb1 hX1 ht1 hv1 hs1' hG1 hM1 hf1 hch hf1'
 go_wp2_with (go_at_call 27; rw [← Hnv.out]; refine (settle_one X tb tcap G g cap szv zs d l so sc br live vars dn _ HX1.out Hs1.out hzl hd8 hl hd6 Ht1.out HG1.out Hv1.out h8 h24 hbr hlive h4 hv hd64 hn64 he1 he2).mono ?_; rintro e w2 ⟨rfl, hf2, hX2, hG2⟩)
 go_end0
 exact ⟨rfl, HF1.out.trans hf2 (fun i h => .inl h), hX2, hG2⟩

set_option maxHeartbeats 3200000 in
set_option maxRecDepth 1000000 in
theorem remove_one (X tb tcap G g cap : Nat) (szv : Value) (zs : List Int) (d : List Nat) (l : Rest) (so : Option Addr) (sc : Nat) (br : List Nat) (live : Nat) (vars : List Int) (v value x : Nat) (w : World)
  (hX : Blk w X (workCells szv d (.slice (some ⟨tb, 0, none⟩) 1 tcap) l) 66) (hsz : Row w szv 3 (zs.map (Value.int .i64))) (hzl : zs.length ≤ 8) (hd8 : d.length = 8) (hl : l.starts = .slice so 0 sc) (hd6 : ∀ x ∈ d, x < 64)
  (ht : Row w (.slice (some ⟨tb, 0, none⟩) 1 tcap) 73 [.iface 91 (.pointer (some ⟨G, 0, none⟩))])
  (hG : Blk w G (rsCells (.slice (some ⟨g, 0, none⟩) vars.length cap) false br live) 131) (hvs : Row w (.slice (some ⟨g, 0, none⟩) vars.length cap) 3 (vars.map (Value.int .i64)))
  (hv8 : v < 8) (hval : value < 6) (hfault : faultOf zs d v value = 0) (hbz : l.busy = false) (hx : bits .andNot .u8 (d.getD v 0 : Nat) (2 ^ value : Nat) = (x : Int)) (h24 : br.length = 24) (hbr : ∀ j, br.getD j 0 < 18446744073709551616) (hlive : live < 18446744073709551616)
  (h4 : vars.length ≤ 4) (hv : ∀ i, i < vars.length → 0 ≤ vars.getD i 0 ∧ vars.getD i 0 < 8) (hd64 : ∀ q, (d.set v x).getD q 0 < 64)
  (hch : changedB vars d (d.set v x) vars.length = true) (hn64 : ∀ nd, nDom br live vars (d.set v x) = nd → ∀ x ∈ nd, x < 64)
  (he1 : emptyB zs.length (d.set v x) = false) (he2 : emptyB zs.length (nDom br live vars (d.set v x)) = false) :
  Calls Tryz.prog 13 #[.pointer (some ⟨X, 0, none⟩), .int .i64 v, .int .i64 value] w fun e w' => e = .returned (.int .i64 0) ∧ Fr (fun k => k = X ∨ k = G) w w' ∧
   Blk w' X (workCells szv (nDom br live vars (d.set v x)) (.slice (some ⟨tb, 0, none⟩) 1 tcap) l) 66 ∧
   Blk w' G (rsCells (.slice (some ⟨g, 0, none⟩) vars.length cap) false br (nLive br live vars (d.set v x))) 131 := by
 have hi8 : (v : Int) < 8 := by omega
 have hcd : w.cell? ⟨X, 1 + v, none⟩ = some (.int .u8 (d.getD v 0 : Nat)) := (hX.cell _).trans (workCells_dom _ _ _ _ _ (by omega))
 obtain ⟨y, hy⟩ : ∃ y, d.getD v 0 = y := ⟨_, rfl⟩
 rw [hy] at hcd
 have HX := hd hX
 have Hs := hd hsz
 have Ht := hd ht
 have HG := hd hG
 have Hv := hd hvs
 have Hy := hd hy
 clear hX hsz ht hG hvs hy
 go_enter Tryz.func13, Tryz.ntmps13
 go_upto_region 4 with (go_at_call 30; refine (fault_any X szv d _ l zs v value _ HX.out Hs.out hzl hd8 hbz).mono ?_; rw [hfault]; rintro e w' ⟨rfl, rfl⟩)
 go_still_tail 11, (by kernel_rfl)
 refine still_call (f := 32) (args := #[.int .i64 (value : Int)]) (.int .u8 (2 ^ value : Nat)) (by kernel_rfl) (by kernel_rfl) (one_any value _ (by omega)) ?_
 simp only [Act.put, List.setIfInBounds_toArray, List.set_cons_zero, List.set_cons_succ]
 refine still_value (.int .u8 (x : Int)) (by kernel_rfl) ?_ ?_
 ·have hxx := hx
  rw [Hy.out] at hxx
  clear hn64 hch he1 he2 hd64 hfault hx hd6 hbr hlive hv hl h4 h24 hcd
  go_simp
  simpa using hxx
 refine wpStill_nil ?_
 simp only [Act.put, List.setIfInBounds_toArray, List.set_cons_zero, List.set_cons_succ]
 go_wp2_with (go_at_call 31; refine (restrict_one X tb tcap G g cap szv zs d l so sc br live vars v x _ HX.out.drew Hs.out.drew hzl hd8 hl hd6 Ht.out.drew HG.out.drew Hv.out.drew hv8 h24 hbr hlive h4 hv hd64 hch hn64 he1 he2).mono ?_; rintro e w2 ⟨rfl, hf2, hX2, hG2⟩)
 go_ret
 exact ⟨rfl, hf2.of_drew, hX2, hG2⟩
end Go.Proofs.YtkjfpdfkcfgfkaaGreat

namespace Go.Proofs.YtkjfpdfkcfgfkaaGreat
open Go.RowKit

theorem Row.ints' {w : World} {ao : Option Addr} {cap : Nat} {zs : List Int} (h : Row w (.slice ao zs.length cap) 3 (zs.map (Value.int .i64))) : IntsAt w ao zs := fun i hi => by
 obtain ⟨g, c, he, hb, hc, _⟩ := h.cell i (by simpa using hi)
 obtain ⟨rfl, _⟩ : ao = some ⟨g, 0, none⟩ ∧ cap = c := by
  injection he with h1 h2 h3
  exact ⟨h1, h3⟩
 refine ⟨g, 0, rfl, h.lt rfl, ?_⟩
 rw [Nat.zero_add, hc]
 simp [hi]
theorem RowsAt.drew {w : World} {ao : Option Addr} {rows : List (List Int)} (h : RowsAt w ao rows) : RowsAt w.drew ao rows := h.nw ((Fr.refl _ w).drew)
theorem IntsAt.drew {w : World} {ao : Option Addr} {zs : List Int} (h : IntsAt w ao zs) : IntsAt w.drew ao zs := h.nw ((Fr.refl _ w).drew)

theorem workCells_setTabs (szv : Value) (d : List Nat) (tv tv' : Value) (l : Rest) (h8 : d.length = 8) : (workCells szv d tv l).setIfInBounds 9 tv' = workCells szv d tv' l := by
 simp [workCells, h8]
theorem Tryz.infoTable : (Tryz.prog.info? 73).map (fun i => (i.zero, i.size, i.bytes)) = some (some .nilIface, 1, 16) := by kernel_rfl

set_option maxHeartbeats 3200000 in
set_option maxRecDepth 1000000 in
theorem post_one (X b o : Nat) (ro : Option Addr) (vcap rcap : Nat) (szv : Value) (zs : List Int) (d : List Nat) (l : Rest) (so : Option Addr) (sc : Nat) (vars : List Int) (rows : List (List Int)) (w : World)
  (hX : Blk w X (workCells szv d (.slice none 0 0) l) 66) (hsz : Row w szv 3 (zs.map (Value.int .i64))) (hzl : zs.length ≤ 8) (hd8 : d.length = 8) (hl : l.starts = .slice so 0 sc) (hd6 : ∀ x ∈ d, x < 64)
  (hbz : l.busy = false) (hdead : (d.getD 0 0 == 0) = false) (hvcap : vars.length ≤ vcap) (hvs : IntsAt w (some ⟨b, o, none⟩) vars) (hrs : RowsAt w ro rows) (hok : okTable zs vars rows 1 = true)
  (hv0 : 0 < vars.length) (h4 : vars.length ≤ 4) (hrl : rows.length ≤ 60) (hrow : ∀ i, i < rows.length → (rows.getD i []).length ≤ 4)
  (hv : ∀ i, i < vars.length → 0 ≤ vars.getD i 0 ∧ vars.getD i 0 < 8) (hd64 : ∀ q, d.getD q 0 < 64)
  (hn64 : ∀ nd, nDom (brTo rows rows.length) (2 ^ rows.length - 1) vars d = nd → ∀ x ∈ nd, x < 64)
  (he1 : emptyB zs.length d = false) (he2 : emptyB zs.length (nDom (brTo rows rows.length) (2 ^ rows.length - 1) vars d) = false) :
  Calls Tryz.prog 11 #[.pointer (some ⟨X, 0, none⟩), .agg #[.slice (some ⟨b, o, none⟩) vars.length vcap, .slice ro rows.length rcap, .bool false, .int .i64 1]] w fun e w' => e = .returned (.int .i64 0) ∧
   ∃ tb tcap G g cap, w.heap.size ≤ G ∧ Fr (fun k => k = X) w w' ∧ Blk w' X (workCells szv (nDom (brTo rows rows.length) (2 ^ rows.length - 1) vars d) (.slice (some ⟨tb, 0, none⟩) 1 tcap) l) 66 ∧
    Row w' (.slice (some ⟨tb, 0, none⟩) 1 tcap) 73 [.iface 91 (.pointer (some ⟨G, 0, none⟩))] ∧
    Blk w' G (rsCells (.slice (some ⟨g, 0, none⟩) vars.length cap) false (brTo rows rows.length) (nLive (brTo rows rows.length) (2 ^ rows.length - 1) vars d)) 131 ∧
    Row w' (.slice (some ⟨g, 0, none⟩) vars.length cap) 3 (vars.map (Value.int .i64)) := by
 obtain ⟨sa, scap, hszv, _⟩ := hsz.form
 simp only [List.length_map] at hszv
 subst hszv
 obtain ⟨v0, v1, v2, v3, v4, v5, v6, v7, hdv⟩ := domV8 hd8
 obtain ⟨⟨x0, rfl⟩, ⟨x1, rfl⟩, ⟨x2, rfl⟩, ⟨x3, rfl⟩, ⟨x4, rfl⟩, ⟨x5, rfl⟩, ⟨x6, rfl⟩, ⟨x7, rfl⟩⟩ := domV_one d hdv
 have hXlt := hX.lt
 have hp64 : 2 ^ rows.length ≤ 18446744073709551616 := Nat.le_trans (Nat.pow_le_pow_right (by omega) (show rows.length ≤ 64 by omega)) (by decide)
 obtain ⟨W, hW⟩ : ∃ W, W = w.alloc (.cells #[.slice (some ⟨b, o, none⟩) vars.length vcap, .slice ro rows.length rcap, .bool false, .int .i64 1] 41) := ⟨_, rfl⟩
 have hfW : Nw w W := by rw [hW]; exact (Fr.refl _ w).alloc _
 have hbT : Blk W w.heap.size #[.slice (some ⟨b, o, none⟩) vars.length vcap, .slice ro rows.length rcap, .bool false, .int .i64 1] 41 := by rw [hW]; exact Blk.new _ _ _
 have t0 : W.cell? ⟨w.heap.size, 0, none⟩ = some (.slice (some ⟨b, o, none⟩) vars.length vcap) := hbT.cell 0
 have t1 : W.cell? ⟨w.heap.size, 1, none⟩ = some (.slice ro rows.length rcap) := hbT.cell 1
 have t2 : W.cell? ⟨w.heap.size, 2, none⟩ = some (.bool false) := hbT.cell 2
 have t3 : W.cell? ⟨w.heap.size, 3, none⟩ = some (.int .i64 1) := hbT.cell 3
 have hcs : W.cell? ⟨X, 0, none⟩ = some (.slice sa zs.length scap) := ((hX.nw hfW).cell 0).trans (workCells_sz ..)
 have hcb : W.cell? ⟨X, 12, none⟩ = some (.bool false) := ((hX.nw hfW).cell 12).trans ((workCells_busy _ _ _ _ hd8).trans (by rw [hbz]))
 have HX := hd (hX.nw hfW)
 have Hs := hd (hsz.nw hfW)
 have Hvs := hd (hvs.nw hfW)
 have Hrs := hd (hrs.nw hfW)
 have HbT := hd hbT
 have Hdv := hd hdv
 have HW := hd hW
 clear hX hsz hvs hrs hbT hdv hW
 go_enter Tryz.func11, Tryz.ntmps11
 go_upto_region 1 with fail
 rw [← HW.out]
 go_upto_region 2 with fail
 go_still_tail 5, (by kernel_rfl)
 go_wp2_with fail
 refine (valid_any _ ro sa vcap rcap scap vars rows false 1 zs _ (by omega) (by omega) hvcap Hvs.out.drew Hrs.out.drew (Hs.out.drew.ints')).mono ?_
 rw [hok]
 rintro e w1 ⟨rfl, hf1⟩
 have hf1' : Nw W w1 := hf1.of_drew
 have hX1 := HX.out.nw hf1'
 have hct : w1.cell? ⟨X, 9, none⟩ = some (.slice none 0 0) := (hX1.cell 9).trans (workCells_tabs _ _ _ _ hd8)
 have hcl : w1.cell? ⟨X, 11, none⟩ = some (.slice so 0 sc) := (hX1.cell 11).trans ((workCells_starts _ _ _ _ hd8).trans (by rw [hl]))
 have HX1 := hd hX1
 have Hs1 := hd (Hs.out.nw hf1')
 have Hvs1 := hd (Hvs.out.nw hf1')
 have Hrs1 := hd (Hrs.out.nw hf1')
 have HbT1 := hd (HbT.out.nw hf1')
 have hs1 : w.heap.size + 1 ≤ w1.heap.size := by have := HbT1.out.lt; omega
 have Hf1 : Hid (Nw w w1) := hfW.trans hf1' (fun i h => h.elim)
 clear hf1 hf1' hX1 HX Hs Hvs Hrs HbT t0 t1 t2 t3 hcs hcb hfW HW
 go_upto_region 12 with (first
  | (go_at_call 24; refine (level_any X so 0 sc _ hcl).mono ?_; rintro e w' ⟨rfl, rfl⟩)
  | (go_at_call 25; refine (dead_any X _ d _ l _ HX1.out hd8).mono ?_; rw [hdead]; rintro e w' ⟨rfl, rfl⟩))
 obtain ⟨V, hV⟩ : ∃ V, V = w'.alloc (.cells (mkV false) 71) := ⟨_, rfl⟩
 have hfV : Nw w' V := by rw [hV]; exact (Fr.refl _ w').alloc _
 have hbM : Blk V w'.heap.size (mkV false) 71 := by rw [hV]; exact Blk.new _ _ _
 rw [show w'.alloc (Obj.cells #[Value.bool false, Value.bool false, Value.bool false, Value.bool false, Value.bool false, Value.bool false, Value.bool false, Value.bool false, Value.bool false, Value.bool false, Value.bool false, Value.bool false] 71) = V from hV.symm]
 clear hV hct hcl
 have hct : V.cell? ⟨X, 9, none⟩ = some (.slice none 0 0) := ((HX1.out.nw hfV).cell 9).trans (workCells_tabs _ _ _ _ hd8)
 have hcM : V.cell? ⟨w'.heap.size, 0, none⟩ = some (.bool false) := hbM.cell 0
 have hfM := hbM.free 0
 have HbM := hd hbM
 clear hbM
 go_upto_region 13 with fail
 obtain ⟨U, hU⟩ : ∃ U, U = V.setCell ⟨w'.heap.size, 0, none⟩ (.bool true) := ⟨_, rfl⟩
 have hfU : Nw w' U := by rw [hU]; exact hfV.setCell _ _ (.inr (Nat.le_refl _))
 have hbM : Blk U w'.heap.size (mkV true) 71 := by rw [hU]; exact HbM.out.set 0 (.bool true)
 rw [← hU]
 have hMl := hbM.lt
 have hXl1 := HX1.out.lt
 clear hU hct hcM hfM HbM hfV
 have hXU := HX1.out.nw hfU
 have hTU := HbT1.out.nw hfU
 have HfU : Hid (Nw w U) := Hf1.out.trans hfU (fun i h => h.elim)
 have HsU := hd (Hs1.out.nw hfU)
 have HvU := hd (Hvs1.out.nw hfU)
 have HrU := hd (Hrs1.out.nw hfU)
 have HbM := hd hbM
 clear hbM Hs1 Hvs1 Hrs1 HX1 HbT1 Hf1 hfU
 have hK0 : Blk U.drew X (workCells (.slice sa zs.length scap) d (.slice none 0 0) l) 66 ∧ Blk U.drew w.heap.size #[.slice (some ⟨b, o, none⟩) vars.length vcap, .slice ro rows.length rcap, .bool false, .int .i64 1] 41 := ⟨hXU.drew, hTU.drew⟩
 refine region_U (S := fun w'' => Blk w'' X (workCells (.slice sa zs.length scap) d (.slice none 0 0) l) 66 ∧ Blk w'' w.heap.size #[.slice (some ⟨b, o, none⟩) vars.length vcap, .slice ro rows.length rcap, .bool false, .int .i64 1] 41) 15 (by kernel_rfl) ?_
 refine anyU_take (i := 0) (v := .pointer (some ⟨X, 0, none⟩)) (by kernel_rfl) rfl (by kernel_rfl) (by kernel_rfl) (by kernel_rfl) (fun _ _ _ h => h) (.inl ⟨by kernel_rfl, fun w'' hS => by kernel_rfl⟩) hK0 ?_
 refine anyU_take (i := 1) (v := .pointer (some ⟨X, 0, none⟩)) (by kernel_rfl) rfl (by kernel_rfl) (by kernel_rfl) (by kernel_rfl) (fun _ _ _ h => h) (.inl ⟨by kernel_rfl, fun w'' hS => by kernel_rfl⟩) hK0 ?_
 refine anyU_take (i := 2) (v := .pointer (some ⟨X, 0, none⟩)) (by kernel_rfl) rfl (by kernel_rfl) (by kernel_rfl) (by kernel_rfl) (fun _ _ _ h => h) (.inl ⟨by kernel_rfl, fun w'' hS => by kernel_rfl⟩) hK0 ?_
 refine anyU_take (i := 3) (v := .pointer (some ⟨X, 9, none⟩)) (by kernel_rfl) rfl (by kernel_rfl) (by kernel_rfl) (by kernel_rfl) (fun _ _ _ h => h) (.inl ⟨by kernel_rfl, fun w'' hS => by kernel_rfl⟩) hK0 ?_
 refine anyU_take (i := 4) (v := .slice none 0 0) (by kernel_rfl) rfl (by kernel_rfl) (by kernel_rfl) (by kernel_rfl) (fun _ _ _ h => h) (.inl ⟨by kernel_rfl, fun w'' hS => ?_⟩) hK0 ?_
 ·have hc := (hS.1.cell 9).trans (workCells_tabs _ _ _ _ hd8)
  clear hS hK0 hn64 he1 he2 hd64 hd6 hv hl h4 hrl hrow hok hdead hvcap hv0 hXU hTU
  simp only [Act.put, List.setIfInBounds_toArray, List.set_cons_zero, List.set_cons_succ, List.getElem_toArray, List.getElem_cons_zero, List.getElem_cons_succ]
  go_simp
 refine anyU_take (i := 5) (v := .agg #[.slice (some ⟨b, o, none⟩) vars.length vcap, .slice ro rows.length rcap, .bool false, .int .i64 1]) (by kernel_rfl) rfl (by kernel_rfl) (by kernel_rfl) (by kernel_rfl) (fun _ _ _ h => h) (.inl ⟨by kernel_rfl, fun w'' hS => ?_⟩) hK0 ?_
 ·have q0 : w''.cell? ⟨w.heap.size, 0, none⟩ = some (.slice (some ⟨b, o, none⟩) vars.length vcap) := hS.2.cell 0
  have q1 : w''.cell? ⟨w.heap.size, 1, none⟩ = some (.slice ro rows.length rcap) := hS.2.cell 1
  have q2 : w''.cell? ⟨w.heap.size, 2, none⟩ = some (.bool false) := hS.2.cell 2
  have q3 : w''.cell? ⟨w.heap.size, 3, none⟩ = some (.int .i64 1) := hS.2.cell 3
  clear hS hK0 hn64 he1 he2 hd64 hd6 hv hl h4 hrl hrow hok hdead hvcap hv0 hXU hTU
  simp only [Act.put, List.setIfInBounds_toArray, List.set_cons_zero, List.set_cons_succ, List.getElem_toArray, List.getElem_cons_zero, List.getElem_cons_succ]
  go_simp
 refine anyU_take (i := 6) (v := .pointer (some ⟨X, 0, none⟩)) (by kernel_rfl) rfl (by kernel_rfl) (by kernel_rfl) (by kernel_rfl) (fun _ _ _ h => h) (.inl ⟨by kernel_rfl, fun w'' hS => by kernel_rfl⟩) hK0 ?_
 refine anyU_take (i := 7) (v := .pointer (some ⟨X, 0, none⟩)) (by kernel_rfl) rfl (by kernel_rfl) (by kernel_rfl) (by kernel_rfl) (fun _ _ _ h => h) (.inl ⟨by kernel_rfl, fun w'' hS => by kernel_rfl⟩) hK0 ?_
 refine anyU_take (i := 8) (v := .pointer (some ⟨X, 1, none⟩)) (by kernel_rfl) rfl (by kernel_rfl) (by kernel_rfl) (by kernel_rfl) (fun _ _ _ h => h) (.inl ⟨by kernel_rfl, fun w'' hS => by kernel_rfl⟩) hK0 ?_
 refine anyU_take (i := 9) (v := .agg (domV d)) (by kernel_rfl) rfl (by kernel_rfl) (by kernel_rfl) (by kernel_rfl) (fun _ _ _ h => h) (.inl ⟨by kernel_rfl, fun w'' hS => ?_⟩) hK0 ?_
 ·obtain ⟨k0, k1, k2, k3, k4, k5, k6, k7⟩ := work8 hS.1 Hdv.out
  clear hS hK0 hn64 he1 he2 hd64 hd6 hv hl h4 hrl hrow hok hdead hvcap hv0 hXU hTU
  rw [Hdv.out]
  simp only [Act.put, List.setIfInBounds_toArray, List.set_cons_zero, List.set_cons_succ, List.getElem_toArray, List.getElem_cons_zero, List.getElem_cons_succ]
  go_simp
 refine anyU_one (i := 10) (by kernel_rfl) ?_
 refine op_enter (f := 26) (args := #[.agg #[.slice (some ⟨b, o, none⟩) vars.length vcap, .slice ro rows.length rcap, .bool false, .int .i64 1], .agg (domV d)]) (w' := U.drew) rfl (by kernel_rfl) (by kernel_rfl) ?_
 refine (make1_any b o ro vcap rcap vars rows false (domV d) _ hv0 h4 hrl hrow HvU.out.drew HrU.out.drew).mono ?_
 rintro e w2 ⟨G, g, cap, rfl, hf2, hG2, hv2, hGl, hgl⟩
 have hf2' : Nw U w2 := hf2.of_drew
 refine ⟨_, rfl, fun _ => ⟨hXU.nw hf2', hTU.nw hf2'⟩, ?_⟩
 refine anyU_one (i := 11) (by kernel_rfl) ?_
 refine op_value (v := .slice (some ⟨w2.heap.size, 0, none⟩) 1 1) (w' := w2.alloc (.cells #[.iface 91 (.pointer (some ⟨G, 0, none⟩))] 73)) rfl (by kernel_rfl) ?_ ⟨fun _ => ⟨(hXU.nw hf2').alloc _, (hTU.nw hf2').alloc _⟩, ?_⟩
 ·kernel_rfl
 obtain ⟨i0, hi0, hz0, hz1, hz2⟩ := info_parts Tryz.infoTable
 obtain ⟨v', w3, hr, hown, hgrow, _, hat⟩ := run_append_own_at (P := Tryz.prog) (w2.alloc (.cells #[.iface 91 (.pointer (some ⟨G, 0, none⟩))] 73)) 0 61 61 73 i0 .nilIface 1 16 Tryz.underlying61 hi0 hz0 hz1 hz2 rfl (by decide) (.slice none 0 0) 0 [] (World.ownsRow_nil _ _ _ _) ⟨w2.heap.size, 0, none⟩ 1 1 [.iface 91 (.pointer (some ⟨G, 0, none⟩))] rfl (cell_one_new _ _ _) (by simp [Value.oneCell']) (by unfold maxLen; omega) (by omega) (Nat.zero_le _)
 obtain ⟨tb, tcap, rfl, hr3, hf3, ha3, hlt3⟩ := app1 hown hgrow hat
 clear hown hgrow hat
 have hf3' : Nw w2 w3 := hf3.mono (fun i h => by cases h)
 have hfU3 : Nw U w3 := hf2'.trans hf3' (fun i h => h.elim)
 refine anyU_one (i := 12) (by kernel_rfl) ?_
 refine op_value (v := .slice (some ⟨tb, 0, none⟩) 1 tcap) (w' := w3) rfl (by kernel_rfl) ?_ ⟨fun _ => ⟨?_, ?_⟩, ?_⟩
 ·simp only [Act.put, List.setIfInBounds_toArray, List.set_cons_zero, List.set_cons_succ, List.getElem_toArray, List.getElem_cons_zero, List.getElem_cons_succ]
  unfold execOp
  simp only [resolve, invoke, builtin, Sem.run_bind, Sem.run_pure, Result.andThen_ok, List.map_toArray, List.map_cons, List.map_nil, Act.eval]
  erw [hr]
  rfl
 ·exact hXU.nw hfU3
 ·exact hTU.nw hfU3
 refine anyU_one (i := 13) (by kernel_rfl) ?_
 refine op_value (v := .pointer (some ⟨X, 0, none⟩)) (w' := w3) rfl (by kernel_rfl) (by kernel_rfl) ⟨fun _ => ⟨hXU.nw hfU3, hTU.nw hfU3⟩, ?_⟩
 refine anyU_one (i := 14) (by kernel_rfl) ?_
 refine op_value (v := .pointer (some ⟨X, 9, none⟩)) (w' := w3) rfl (by kernel_rfl) (by kernel_rfl) ⟨fun _ => ⟨hXU.nw hfU3, hTU.nw hfU3⟩, ?_⟩
 refine anyU_one (i := 15) (by kernel_rfl) ?_
 have hX3 := hXU.nw hfU3
 have hc9 := (hX3.cell 9).trans (workCells_tabs _ _ _ _ hd8)
 have hf9 := hX3.free 9
 refine op_skip (w' := w3.setCell ⟨X, 9, none⟩ (.slice (some ⟨tb, 0, none⟩) 1 tcap)) rfl (by kernel_rfl) ?_ ⟨fun h => absurd rfl h, anyU_done (by kernel_rfl) ?_ _⟩
 ·clear hK0 hn64 he1 he2 hd64 hd6 hv hl h4 hrl hrow hok hdead hvcap hv0 hXU hTU hX3 hfU3 hf3 hf3' hr hr3 hf2 hf2' hG2 hv2
  simp only [Act.put, List.setIfInBounds_toArray, List.set_cons_zero, List.set_cons_succ, List.getElem_toArray, List.getElem_cons_zero, List.getElem_cons_succ]
  go_simp
 simp only [Act.put, List.setIfInBounds_toArray, List.set_cons_zero, List.set_cons_succ, List.getElem_toArray, List.getElem_cons_zero, List.getElem_cons_succ]
 have hne : tb ≠ X := fun e => by subst e; exact hr3.ne hX3 (by decide) rfl
 have hs3 := hfU3.size
 obtain ⟨Z, hZ⟩ : ∃ Z, Z = w3.setCell ⟨X, 9, none⟩ (.slice (some ⟨tb, 0, none⟩) 1 tcap) := ⟨_, rfl⟩
 have hfZ : Fr (fun k => k = X) w3 Z := by rw [hZ]; exact (Fr.refl _ w3).setCell _ _ (.inl rfl)
 have hXZ : Blk Z X (workCells (.slice sa zs.length scap) d (.slice (some ⟨tb, 0, none⟩) 1 tcap) l) 66 := by
  rw [hZ, ← workCells_setTabs _ _ _ _ _ hd8]
  exact hX3.set 9 _
 rw [← hZ]
 have hGl2 : U.heap.size ≤ G := hGl
 have hgl2 : U.heap.size ≤ g := hgl
 have hXlU := hXU.lt
 have HXZ := hd hXZ
 have HtZ := hd (hr3.fr hfZ (fun k hk e => hne (by cases hk; exact e)))
 have HGZ := hd ((hG2.nw hf3').fr hfZ (by omega))
 have HvZ := hd ((hv2.nw hf3').fr hfZ (fun k hk e => by
  have e2 : g = k := by cases hk; rfl
  have e3 : k = X := e
  omega))
 have HsZ := hd ((HsU.out.nw hfU3).fr hfZ (fun k hk e => by subst e; exact (HsU.out.nw hfU3).ne hX3 (by decide) hk))
 have hMZ := (HbM.out.nw hfU3).fr hfZ (by omega)
 have HMZ := hd hMZ
 have HFZ : Hid (Fr (fun k => k = X) w Z) := ((HfU.out.trans hfU3 (fun i h => h.elim)).mono (fun i h => h.elim)).trans hfZ (fun i h => .inl h)
 obtain ⟨c0, c1, c2, c3, c4, c5, c6, c7⟩ := work8 hXZ Hdv.out
 have r0 : Z.cell? ⟨w'.heap.size, 0, none⟩ = some (.bool true) := hMZ.cell 0
 have r1 : Z.cell? ⟨w'.heap.size, 1, none⟩ = some (.bool false) := hMZ.cell 1
 have r2 : Z.cell? ⟨w'.heap.size, 2, none⟩ = some (.bool false) := hMZ.cell 2
 have r3 : Z.cell? ⟨w'.heap.size, 3, none⟩ = some (.bool false) := hMZ.cell 3
 have r4 : Z.cell? ⟨w'.heap.size, 4, none⟩ = some (.bool false) := hMZ.cell 4
 have r5 : Z.cell? ⟨w'.heap.size, 5, none⟩ = some (.bool false) := hMZ.cell 5
 have r6 : Z.cell? ⟨w'.heap.size, 6, none⟩ = some (.bool false) := hMZ.cell 6
 have r7 : Z.cell? ⟨w'.heap.size, 7, none⟩ = some (.bool false) := hMZ.cell 7
 have r8 : Z.cell? ⟨w'.heap.size, 8, none⟩ = some (.bool false) := hMZ.cell 8
 have r9 : Z.cell? ⟨w'.heap.size, 9, none⟩ = some (.bool false) := hMZ.cell 9
 have r10 : Z.cell? ⟨w'.heap.size, 10, none⟩ = some (.bool false) := hMZ.cell 10
 have r11 : Z.cell? ⟨w'.heap.size, 11, none⟩ = some (.bool false) := hMZ.cell 11
 clear hXZ hMZ hZ hfZ hX3 hc9 hf9 hr hr3 hf3 hf3' hfU3 hG2 hv2 hf2 hf2' hXU hTU hK0 HsU HvU HrU HbM HfU
 simp only [Exit.then]
 go_upto_region 14 with fail
 go_still_tail 6, (by kernel_rfl)
 go_wp2_with fail
 rw [← Hdv.out]
 refine (settle_one X tb tcap G g cap _ zs d l so sc (brTo rows rows.length) (2 ^ rows.length - 1) vars d _ HXZ.out.drew HsZ.out.drew hzl hd8 hl hd6 HtZ.out.drew HGZ.out.drew HvZ.out.drew hd8 (brTo_length _ _) (fun j => Nat.lt_of_lt_of_le (brTo_lt rows rows.length j) hp64) (by omega) h4 hv hd64 hn64 he1 he2).mono ?_
 rintro e w4 ⟨rfl, hf4, hX4, hG4⟩
 have hf4' : Fr (fun k => k = X ∨ k = G) Z w4 := hf4.of_drew
 have ht4 := HtZ.out.fr hf4' (fun k hk e => by
  rcases e with e | e
  ·exact hne (by cases hk; exact e)
  ·subst e; exact HtZ.out.ne HGZ.out (by decide) hk)
 have hv4 := HvZ.out.fr hf4' (fun k hk e => by
  rcases e with e | e
  ·subst e; exact HvZ.out.ne HXZ.out (by decide) hk
  ·subst e; exact HvZ.out.ne HGZ.out (by decide) hk)
 have hF4 := HFZ.out.trans hf4' (fun i h => h.elim .inl (fun e => .inr (by omega)))
 clear c0 c1 c2 c3 c4 c5 c6 c7 r0 r1 r2 r3 r4 r5 r6 r7 r8 r9 r10 r11
 go_wp2_with fail
 go_ret
 exact ⟨rfl, tb, tcap, G, g, cap, by omega, hF4, hX4, ht4, hG4, hv4⟩
end Go.Proofs.YtkjfpdfkcfgfkaaGreat

namespace Go.Proofs.YtkjfpdfkcfgfkaaGreat
open Go.RowKit

def BoolsAt (w : World) (ao : Option Addr) (bs : List Bool) : Prop := ∀ v, v < bs.length → ∃ b o, ao = some ⟨b, o, none⟩ ∧ b < w.heap.size ∧ w.cell? ⟨b, o + v, none⟩ = some (.bool (bs.getD v false))
def BRowsAt (w : World) (ao : Option Addr) (bss : List (List Bool)) : Prop := ∀ u, u < bss.length → ∃ b o qo qc, ao = some ⟨b, o, none⟩ ∧ b < w.heap.size ∧ w.cell? ⟨b, o + u, none⟩ = some (.slice qo (bss.getD u []).length qc) ∧ BoolsAt w qo (bss.getD u [])
theorem BoolsAt.nw {w w' : World} {ao : Option Addr} {bs : List Bool} (h : BoolsAt w ao bs) (f : Nw w w') : BoolsAt w' ao bs := fun v hv => by
 obtain ⟨b, o, rfl, hb, hc⟩ := h v hv
 exact ⟨b, o, rfl, Nat.lt_of_lt_of_le hb f.size, (f.cell hb (fun x => x)).trans hc⟩
theorem BRowsAt.nw {w w' : World} {ao : Option Addr} {bss : List (List Bool)} (h : BRowsAt w ao bss) (f : Nw w w') : BRowsAt w' ao bss := fun u hu => by
 obtain ⟨b, o, qo, qc, rfl, hb, hc, hr⟩ := h u hu
 exact ⟨b, o, qo, qc, rfl, Nat.lt_of_lt_of_le hb f.size, (f.cell hb (fun x => x)).trans hc, hr.nw f⟩
structure FEnv where
 Y : Nat
 vo : Option Addr
 ro : Option Addr
 io : Option Addr
 vcap : Nat
 rcap : Nat
 icap : Nat
 vars : List Int
 rows : List (List Int)
 nt : Bool
 way : Int
 bss : List (List Bool)
 place : Nat
 value : Nat
structure FEnv.Ok (E : FEnv) (W : World) : Prop where
 v4 : E.vars.length ≤ 4
 r60 : E.rows.length ≤ 60
 i8 : E.bss.length ≤ 8
 b6 : ∀ u, u < E.bss.length → (E.bss.getD u []).length ≤ 6
 vin : ∀ i, i < E.vars.length → 0 ≤ E.vars.getD i 0 ∧ E.vars.getD i 0 < E.bss.length
 row : ∀ j, j < E.rows.length → (E.rows.getD j []).length = E.vars.length
 vs : IntsAt W E.vo E.vars
 rs : RowsAt W E.ro E.rows
 ins : BRowsAt W E.io E.bss
 cell : W.cell? ⟨E.Y, 1, none⟩ = some (.slice E.io E.bss.length E.icap)
 lt : E.Y < W.heap.size
 pv : E.place < 4 ∧ E.value < 6
def FEnv.inB (E : FEnv) (i v : Nat) : Bool := (E.bss.getD (E.vars.getD i 0).toNat []).getD v false
def FEnv.Ex (E : FEnv) (l : List Nat) : Prop := ∃ L : List Nat, L.length = E.vars.length ∧ l <+: L ∧ (∀ q, l.length ≤ q → q < E.vars.length → E.inB q (L.getD q 0) = true) ∧ (l.length ≤ E.place → E.place < E.vars.length → L.getD E.place 0 = E.value) ∧ allowB E.rows E.nt L = true
theorem prefix_getD {l x : List Nat} (h : l <+: x) (q : Nat) (hq : q < l.length) : x.getD q 0 = l.getD q 0 := by
 obtain ⟨r, rfl⟩ := h
 simp [List.getD, List.getElem?_append_left hq]
theorem snoc_getD (l : List Nat) (v : Nat) : (l ++ [v]).getD l.length 0 = v := by simp [List.getD]
theorem FEnv.Ex.up {E : FEnv} {l : List Nat} {v : Nat} (hin : E.inB l.length v = true) (hp : l.length = E.place → v = E.value) (h : E.Ex (l ++ [v])) : E.Ex l := by
 obtain ⟨L, h1, h2, h3, h4, h5⟩ := h
 have hv : L.getD l.length 0 = v := by rw [prefix_getD h2 _ (by simp), snoc_getD]
 refine ⟨L, h1, (List.prefix_append _ _).trans h2, fun q hq1 hq2 => ?_, fun hp1 hp2 => ?_, h5⟩
 ·by_cases e : q = l.length
  ·rw [e, hv]
   exact hin
  ·exact h3 q (by rw [List.length_append, List.length_singleton]; omega) hq2
 ·by_cases e : l.length = E.place
  ·rw [← e, hv]
   exact hp e
  ·exact h4 (by rw [List.length_append, List.length_singleton]; omega) hp2
theorem FEnv.Ex.down {E : FEnv} {l : List Nat} (hl : l.length < E.vars.length) (h : E.Ex l) : ∃ v, E.inB l.length v = true ∧ (l.length = E.place → v = E.value) ∧ E.Ex (l ++ [v]) := by
 obtain ⟨L, h1, h2, h3, h4, h5⟩ := h
 refine ⟨L.getD l.length 0, h3 _ (Nat.le_refl _) hl, fun e => ?_, L, h1, ?_, fun q hq1 hq2 => ?_, fun hp1 hp2 => ?_, h5⟩
 ·have := h4 (by omega) (by omega)
  rw [← e] at this
  exact this
 ·obtain ⟨r, rfl⟩ := h2
  cases r with
  | nil => simp at h1; omega
  | cons x r =>
   have : (l ++ x :: r).getD l.length 0 = x := by simp [List.getD]
   rw [this]
   exact ⟨r, by simp⟩
 ·exact h3 q (by rw [List.length_append, List.length_singleton] at hq1; omega) hq2
 ·exact h4 (by rw [List.length_append, List.length_singleton] at hp1; omega) hp2
def LAt (w : World) (lv : Value) (l : List Nat) : Prop := (l = [] ∧ lv = .slice none 0 0) ∨ ∃ b o c, lv = .slice (some ⟨b, o, none⟩) l.length c ∧ IntsAt w (some ⟨b, o, none⟩) (natZ l)
theorem LAt.nw {w w' : World} {lv : Value} {l : List Nat} (h : LAt w lv l) (f : Nw w w') : LAt w' lv l := by
 rcases h with h | ⟨b, o, c, h1, h2⟩
 ·exact .inl h
 ·exact .inr ⟨b, o, c, h1, h2.nw f⟩
theorem LAt.form {w : World} {lv : Value} {l : List Nat} (h : LAt w lv l) : ∃ lo lc, lv = .slice lo l.length lc ∧ IntsAt w lo (natZ l) := by
 rcases h with ⟨rfl, rfl⟩ | ⟨b, o, c, rfl, h2⟩
 ·exact ⟨none, 0, rfl, fun i hi => absurd hi (Nat.not_lt_zero _)⟩
 ·exact ⟨_, _, rfl, h2⟩
theorem Row.lat {w : World} {v : Value} {l : List Nat} (h : Row w v 3 ((natZ l).map (Value.int .i64))) : LAt w v l := by
 obtain ⟨ro, rc, hf, _⟩ := h.form
 rw [List.length_map, natZ_len] at hf
 subst hf
 have hI : IntsAt w ro (natZ l) := by
  have h' : Row w (.slice ro (natZ l).length rc) 3 ((natZ l).map (Value.int .i64)) := by rw [natZ_len]; exact h
  exact h'.ints'
 by_cases h0 : l.length = 0
 ·have e := List.eq_nil_of_length_eq_zero h0
  subst e
  cases ro with
  | none =>
   rcases h.2 with ⟨hv, _⟩ | ⟨g, cap, cur, hv, _⟩
   ·exact .inl ⟨rfl, hv⟩
   ·simp at hv
  | some ad =>
   rcases h.2 with ⟨hv, _⟩ | ⟨g, cap, cur, hv, _⟩
   ·simp at hv
   ·simp only [Value.slice.injEq, Option.some.injEq] at hv
    obtain ⟨rfl, _, rfl⟩ := hv
    exact .inr ⟨_, _, _, rfl, hI⟩
 ·obtain ⟨b, o, rfl, _, _⟩ := hI 0 (by rw [natZ_len]; omega)
  exact .inr ⟨b, o, rc, rfl, hI⟩

noncomputable def fndReg : Array Oper := regOps Tryz.f94 4
structure FAns (E : FEnv) (W : World) (l : List Nat) (e : Ending) (w' : World) : Prop where
 ans : ∃ b, e = .returned (.bool b) ∧ (b = true ↔ E.Ex l)
 nw : Nw W w'

def FoundAt (E : FEnv) (W : World) (m : Nat) : Prop := ∀ (l : List Nat) (lv : Value) (w : World), l.length + m = E.vars.length → Nw W w → LAt w lv l →
  Calls Tryz.prog 94 #[.pointer (some ⟨E.Y, 0, none⟩), .agg #[.slice E.vo E.vars.length E.vcap, .slice E.ro E.rows.length E.rcap, .bool E.nt, .int .i64 E.way], lv, .int .i64 (E.place : Int), .int .i64 (E.value : Int)] w fun e w' => FAns E w l e w'

set_option maxHeartbeats 3200000 in
set_option maxRecDepth 1000000 in
theorem found_step (E : FEnv) (W : World) (hE : E.Ok W) (m : Nat) (IH : ∀ m', m' < m → FoundAt E W m') : FoundAt E W m := by
  intro l lv w hm hf hl
  obtain ⟨lo, lc, hlv, hIl⟩ := hl.form
  obtain ⟨i0, hi0, hz0, hz1, hz2⟩ := info_parts Tryz.infoInt
  obtain ⟨B, hB⟩ : ∃ B, B = w.heap.size := ⟨_, rfl⟩
  obtain ⟨V, hV⟩ : ∃ V, V = w.alloc (.cells #[.slice E.vo E.vars.length E.vcap, .slice E.ro E.rows.length E.rcap, .bool E.nt, .int .i64 E.way] 41) := ⟨_, rfl⟩
  have hfV : Nw w V := by rw [hV]; exact (Fr.refl _ w).alloc _
  have hbB : Blk V B #[.slice E.vo E.vars.length E.vcap, .slice E.ro E.rows.length E.rcap, .bool E.nt, .int .i64 E.way] 41 := by rw [hV, hB]; exact Blk.new _ _ _
  have Hf := hd (hf.trans hfV (fun _ x => x.elim))
  have HwV := hd hfV
  have Hl := hd (hl.nw hfV)
  have HIl := hd (hIl.nw hfV)
  have HbB := hd hbB
  have HE := hd hE
  have h4 := hE.v4
  subst hlv
  clear hf hl hIl hfV hbB hE
  go_enter Tryz.func94, Tryz.ntmps94
  go_upto_region 1 with fail
  rw [← hV, ← hB]
  clear hV hB
  have c0 : V.cell? ⟨B, 0, none⟩ = some (.slice E.vo E.vars.length E.vcap) := HbB.out.cell 0
  have c1 : V.cell? ⟨B, 1, none⟩ = some (.slice E.ro E.rows.length E.rcap) := HbB.out.cell 1
  have c2 : V.cell? ⟨B, 2, none⟩ = some (.bool E.nt) := HbB.out.cell 2
  have c3 : V.cell? ⟨B, 3, none⟩ = some (.int .i64 E.way) := HbB.out.cell 3
  have hBl := HbB.out.lt
  cases m with
  | zero =>
   have hle : ((l.length : Int) == (E.vars.length : Int)) = true := by simp; omega
   have Hcall := hd (refAllows_any E.vo E.ro lo E.vcap E.rcap lc E.vars.length (natZ l) E.rows E.nt E.way V h4 (by rw [natZ_len]; omega) HE.out.r60 HE.out.row (HE.out.rs.nw Hf.out) HIl.out)
   have Heq : Hid (allowR E.rows (natZ l) E.nt = true ↔ E.Ex l) := hd (by
    rw [allowR_eq (fun j hj => by rw [HE.out.row j hj]; omega)]
    constructor
    ·intro h
     exact ⟨l, by omega, List.prefix_refl _, fun q h1 h2 => by omega, fun h1 h2 => by omega, h⟩
    ·rintro ⟨L, h1, ⟨r, rfl⟩, _, _, h5⟩
     have : r = [] := List.eq_nil_of_length_eq_zero (by simp at h1; omega)
     rw [this, List.append_nil] at h5
     exact h5)
   have hlv : E.vars.length = l.length := by omega
   rw [hlv] at Hcall c0 ⊢
   go_wp2_with fail
   refine Hcall.out.mono ?_
   rintro e w1 ⟨rfl, hf1⟩
   have Hf1 := hd (HwV.out.trans hf1 (fun _ x => x.elim))
   clear hf1 Hcall
   go_wp2_with fail
   go_ret
   exact ⟨⟨_, rfl, Heq.out⟩, Hf1.out⟩
  | succ m =>
   have hlt : l.length < E.vars.length := by omega
   have hle : ((l.length : Int) == (E.vars.length : Int)) = false := by rw [beq_eq_false_iff_ne]; omega
   have hltI : (l.length : Int) < (E.vars.length : Int) := by omega
   have ih : ∀ (v : Nat) (lv : Value) (A : World), Nw W A → LAt A lv (l ++ [v]) → Calls Tryz.prog 94 #[.pointer (some ⟨E.Y, 0, none⟩), .agg #[.slice E.vo E.vars.length E.vcap, .slice E.ro E.rows.length E.rcap, .bool E.nt, .int .i64 E.way], lv, .int .i64 (E.place : Int), .int .i64 (E.value : Int)] A fun e w' => FAns E A (l ++ [v]) e w' := fun v lv A hA hl => IH m (by omega) (l ++ [v]) lv A (by rw [List.length_append, List.length_singleton]; omega) hA hl
   have Hih := hd ih
   clear ih IH
   obtain ⟨vb, vof, hve, hvl, hvc⟩ := (HE.out.vs.nw Hf.out) l.length hlt
   obtain ⟨hv0, hv1⟩ := HE.out.vin l.length hlt
   obtain ⟨u, hu⟩ : ∃ u : Nat, E.vars.getD l.length 0 = (u : Int) := ⟨(E.vars.getD l.length 0).toNat, by omega⟩
   rw [hu] at hvc hv1
   have hul : u < E.bss.length := by omega
   obtain ⟨ib, iof, qo, qc, hie, hil, hic, hRow⟩ := (HE.out.ins.nw Hf.out) u hul
   have hb6 := HE.out.b6 u hul
   have hinB : ∀ v, E.inB l.length v = (E.bss.getD u []).getD v false := fun v => by
    unfold FEnv.inB
    rw [hu, Int.toNat_natCast]
   obtain ⟨bs, hbs⟩ : ∃ bs, E.bss.getD u [] = bs := ⟨_, rfl⟩
   rw [hbs] at hic hRow hb6 hinB
   have cY : V.cell? ⟨E.Y, 1, none⟩ = some (.slice E.io E.bss.length E.icap) := (Hf.out.cell HE.out.lt (fun x => x)).trans HE.out.cell
   have hYl : E.Y < V.heap.size := Nat.lt_of_lt_of_le HE.out.lt Hf.out.size
   have hp4 := HE.out.pv
   rw [hie] at cY
   rw [hve] at c0
   have HinB := hd hinB
   have HRow := hd hRow
   have Hup := hd (fun v => FEnv.Ex.up (E := E) (l := l) (v := v))
   have Hdown := hd (FEnv.Ex.down (E := E) (l := l) hlt)
   clear hu hbs hRow hinB hie hve
   obtain ⟨Yv, hYv⟩ : ∃ Yv, E.Y = Yv := ⟨_, rfl⟩
   obtain ⟨pl, hpl⟩ : ∃ pl, E.place = pl := ⟨_, rfl⟩
   obtain ⟨va, hva⟩ : ∃ va, E.value = va := ⟨_, rfl⟩
   rw [hYv] at cY hYl Hih ⊢
   rw [hpl] at hp4 Hih Hup Hdown ⊢
   rw [hva] at hp4 Hih Hup Hdown ⊢
   clear hYv hpl hva
   go_wp2_with fail
   have hK0 : Nw V V.drew := (Fr.refl _ V).drew
   refine region_H fndReg 12 (fun w'' => Nw V w'') (by kernel_rfl) (by kernel_rfl) (by kernel_rfl) ?_
   refine take_at (i := 0) (d := some 26) (v := .pointer (some ⟨Yv, 0, none⟩)) (by kernel_rfl) (by kernel_rfl) (fun _ _ _ h => h) (fun w'' hS => by kernel_rfl) hK0 ?_
   refine take_at (i := 1) (d := some 27) (v := .pointer (some ⟨Yv, 0, none⟩)) (by kernel_rfl) (by kernel_rfl) (fun _ _ _ h => h) (fun w'' hS => by kernel_rfl) hK0 ?_
   refine take_at (i := 2) (d := some 28) (v := .pointer (some ⟨Yv, 1, none⟩)) (by kernel_rfl) (by kernel_rfl) (fun _ _ _ h => h) (fun w'' hS => by kernel_rfl) hK0 ?_
   refine take_at (i := 3) (d := some 29) (v := .slice (some ⟨ib, iof, none⟩) E.bss.length E.icap) (by kernel_rfl) (by kernel_rfl) (fun _ _ _ h => h) (fun w'' hS => exec_load 79 (.tmp 28) (by kernel_rfl) (by kernel_rfl) (by kernel_rfl) ((hS.cell hYl (fun x => x)).trans cY)) hK0 ?_
   refine take_at (i := 4) (d := some 30) (v := .pointer (some ⟨B, 0, none⟩)) (by kernel_rfl) (by kernel_rfl) (fun _ _ _ h => h) (fun w'' hS => by kernel_rfl) hK0 ?_
   refine take_at (i := 5) (d := some 31) (v := .slice (some ⟨vb, vof, none⟩) E.vars.length E.vcap) (by kernel_rfl) (by kernel_rfl) (fun _ _ _ h => h) (fun w'' hS => exec_load 22 (.tmp 30) (by kernel_rfl) (by kernel_rfl) (by kernel_rfl) ((hS.cell hBl (fun x => x)).trans c0)) hK0 ?_
   refine take_at (i := 6) (d := some 32) (v := .int .i64 (l.length : Int)) (by kernel_rfl) (by kernel_rfl) (fun _ _ _ h => h) (fun w'' hS => by kernel_rfl) hK0 ?_
   refine take_at (i := 7) (d := some 33) (v := .pointer (some ⟨vb, vof + l.length, none⟩)) (by kernel_rfl) (by kernel_rfl) (fun _ _ _ h => h) (fun w'' hS => exec_index (i := l.length) (n := E.vars.length) (cap := E.vcap) 22 3 (.tmp 31) (.tmp 32) (by kernel_rfl) (by kernel_rfl) (by kernel_rfl) hlt (by kernel_rfl) (by kernel_rfl)) hK0 ?_
   refine take_at (i := 8) (d := some 34) (v := .int .i64 (u : Int)) (by kernel_rfl) (by kernel_rfl) (fun _ _ _ h => h) (fun w'' hS => exec_load 3 (.tmp 33) (by kernel_rfl) (by kernel_rfl) (by kernel_rfl) ((hS.cell hvl (fun x => x)).trans hvc)) hK0 ?_
   refine take_at (i := 9) (d := some 35) (v := .pointer (some ⟨ib, iof + u, none⟩)) (by kernel_rfl) (by kernel_rfl) (fun _ _ _ h => h) (fun w'' hS => exec_index (i := u) (n := E.bss.length) (cap := E.icap) 79 84 (.tmp 29) (.tmp 34) (by kernel_rfl) (by kernel_rfl) (by kernel_rfl) hul (by kernel_rfl) (by kernel_rfl)) hK0 ?_
   refine take_at (i := 10) (d := some 36) (v := .slice qo bs.length qc) (by kernel_rfl) (by kernel_rfl) (fun _ _ _ h => h) (fun w'' hS => exec_load 84 (.tmp 35) (by kernel_rfl) (by kernel_rfl) (by kernel_rfl) ((hS.cell hil (fun x => x)).trans hic)) hK0 ?_
   refine value_at (i := 11) (d := some 12) (v := .slice qo bs.length qc) (w' := V.drew) (by kernel_rfl) (by kernel_rfl) (by kernel_rfl) hK0 ?_
   refine wpAnyH_done (by kernel_rfl) ?_ _
   simp only [Act.put, List.setIfInBounds_toArray, List.set_cons_zero, List.set_cons_succ]
   have HVn := hd Hf.out.drew
   have HwU := hd HwV.out.drew
   have HlV := hd (Hl.out.nw ((Fr.refl (fun _ => False) V).drew))
   have HbV := hd HbB.out.drew
   have HRV := hd (HRow.out.nw ((Fr.refl (fun _ => False) V).drew))
   obtain ⟨U, hU⟩ : ∃ U, V.drew = U := ⟨_, rfl⟩
   rw [hU] at HVn HwU HlV HbV HRV ⊢
   clear Hf Hl HIl HbB HRow c0 c1 c2 c3 hBl cY hYl hvl hvc hil hic hU hK0
   go_wp2_with fail
   go_loopw [13, 14, 15] (fun v _ _ wr => ∃ k : Nat, k ≤ bs.length ∧ v = .int .i64 (k : Int) ∧ Hid (∀ x, x < k → bs.getD x false = true → (l.length = pl → x = va) → ¬ E.Ex (l ++ [x])) ∧ Hid (Nw U wr)) (fun v _ _ _ => bs.length - (intOf v).toNat)
   case atStart => exact ⟨0, by omega, rfl, fun x hx => absurd hx (Nat.not_lt_zero _), Fr.refl _ _⟩
   case round =>
    obtain ⟨k, hk, rfl, Hno, HN⟩ := hrel
    by_cases hkl : k < bs.length
    ·have hdk : (k : Int) < (bs.length : Int) := by omega
     obtain ⟨qb, qof, hqe, hql, hqc⟩ := (HRV.out.nw HN.out) k hkl
     subst hqe
     have Hnext : Hid (bs.getD k false = false ∨ (l.length = pl ∧ k ≠ va) ∨ ¬ E.Ex (l ++ [k]) → ∀ x, x < k + 1 → bs.getD x false = true → (l.length = pl → x = va) → ¬ E.Ex (l ++ [x])) := fun hc x hx h1 h2 => by
      by_cases e : x = k
      ·subst e
       rcases hc with hc | hc | hc
       ·rw [hc] at h1
        cases h1
       ·exact absurd (h2 hc.1) hc.2
       ·exact hc
      ·exact Hno.out x (by omega) h1 h2
     have Hyes : Hid (bs.getD k false = true → (l.length = pl → k = va) → E.Ex (l ++ [k]) → E.Ex l) := fun h1 h2 h3 => Hup.out k (by rw [HinB.out]; exact h1) h2 h3
     obtain ⟨x, hx⟩ : ∃ x, bs.getD k false = x := ⟨_, rfl⟩
     rw [hx] at hqc Hnext Hyes
     clear hx
     cases x with
     | false =>
      go_wp2_with fail
      exact ⟨⟨k + 1, by omega, by simp, Hnext.out (.inl rfl), HN⟩, by simp [intOf]; omega⟩
     | true =>
      have hB1 := HbV.out.nw HN.out
      have d0 : wr.cell? ⟨B, 0, none⟩ = some (.slice E.vo E.vars.length E.vcap) := hB1.cell 0
      have d1 : wr.cell? ⟨B, 1, none⟩ = some (.slice E.ro E.rows.length E.rcap) := hB1.cell 1
      have d2 : wr.cell? ⟨B, 2, none⟩ = some (.bool E.nt) := hB1.cell 2
      have d3 : wr.cell? ⟨B, 3, none⟩ = some (.int .i64 E.way) := hB1.cell 3
      have hBl1 := hB1.lt
      have HB1 := hd hB1
      clear hB1
      by_cases hsk : l.length = pl ∧ k ≠ va
      ·obtain ⟨hp, hkv⟩ := hsk
       have hpb : ((l.length : Int) == (pl : Int)) = true := by rw [hp]; simp
       have hkb : ((k : Int) == (va : Int)) = false := by rw [beq_eq_false_iff_ne]; omega
       have hkn : ((k : Int) != (va : Int)) = true := by simp; omega
       have Hp := hd hp
       clear hp
       go_wp2_with fail
       exact ⟨⟨k + 1, by omega, by simp, Hnext.out (.inr (.inl ⟨Hp.out, hkv⟩)), HN⟩, by simp [intOf]; omega⟩
      ·have Hnsk : Hid (l.length = pl → k = va) := fun h => Classical.byContradiction fun hn => hsk ⟨h, hn⟩
       clear hsk
       by_cases hp : l.length = pl
       ·have hkv := Hnsk.out hp
        have hpb : ((l.length : Int) == (pl : Int)) = true := by rw [hp]; simp
        have hkb : ((k : Int) == (va : Int)) = true := by rw [hkv]; simp
        have hkn : ((k : Int) != (va : Int)) = false := by rw [hkv]; simp
        clear hp hkv
        go_upto_region 10 with fail
        go_cut [14] (fun mv wx => Hid (Row wx mv 3 ((natZ l).map (Value.int .i64))) ∧ Hid (Nw wr wx) ∧ Hid (∀ q, mv.ownBlock = some q → wr.heap.size ≤ q))
        case first =>
         rcases HlV.out.nw HN.out with ⟨hl0, hlv0⟩ | ⟨lb, lof, lcap, hlv0, hIl⟩
         ·simp only [Value.slice.injEq] at hlv0
          obtain ⟨rfl, h00, rfl⟩ := hlv0
          clear h00
          have Hl0 := hd hl0
          have Hsl : Hid (Value.slice none l.length 0 = .slice none 0 0) := hd (by rw [hl0]; rfl)
          clear hl0
          go_wp2_with (at_builtin; refine wpList_append_own_none rfl _ _ 22 rfl 0 3 i0 1 Tryz.underlying22 hi0 _ 0 [] rfl (World.ownsRow_nil _ _ _ _) Hsl.out ?_)
          go_meet
          exact ⟨by rw [Hl0.out]; exact Row.nil _ _, Fr.refl _ _, fun q hq => (by cases hq)⟩
         ·simp only [Value.slice.injEq] at hlv0
          obtain ⟨rfl, _, rfl⟩ := hlv0
          have hsrc : ∀ (j : Nat) (v : Value), ((natZ l).map (Value.int .i64))[j]? = some v → wr.cell? ((⟨lb, lof, none⟩ : Addr).add j) = some v := fun j v hj => by
           have hjl : j < (natZ l).length := by
            have := (List.getElem?_eq_some_iff.1 hj).1
            simpa using this
           obtain ⟨b', o', he, _, hc⟩ := hIl j hjl
           simp only [Option.some.injEq, Addr.mk.injEq, and_true] at he
           obtain ⟨rfl, rfl⟩ := he
           rw [show (⟨lb, lof, none⟩ : Addr).add j = ⟨lb, lof + j, none⟩ from by by_cases h : j = 0 <;> simp [Addr.add, h], hc]
           rw [List.getElem?_map, List.getElem?_eq_getElem hjl] at hj
           simp only [Option.map_some, Option.some.injEq] at hj
           rw [← hj]
           simp [List.getD, hjl]
          have Hsrc := hd hsrc
          have Hzl := hd (natZ_len l)
          clear hsrc hIl
          go_wp2_with (at_builtin; refine wpList_append_own_at _ rfl _ _ 22 rfl 0 3 i0 (.int .i64 0) 1 8 Tryz.underlying22 hi0 hz0 hz1 hz2 rfl (by decide) _ 0 [] rfl (World.ownsRow_nil _ _ _ _) ⟨lb, lof, none⟩ l.length lc ((natZ l).map (Value.int .i64)) rfl (by rw [List.length_map, Hzl.out]; simp) Hsrc.out (ints_oneCell _ _) (by unfold maxLen; omega) (by omega) (Nat.zero_le _) ?_; intro v' w2 hown' hgrow _ hat)
          go_meet
          refine ⟨?_, (Fr.refl _ wr).grown hgrow (fun k hk => (by cases hk)), fun q hq => ?_⟩
          rotate_left
          ·rcases hat with hat | hat
           ·rw [hat] at hq
            cases hq
           ·rw [hat] at hq
            cases hq
            exact Nat.le_refl _
          have h1 := hown'
          rw [Nat.zero_add, List.nil_append] at h1
          show w2.ownsRow 0 3 1 v' ((natZ l).map (Value.int .i64)).length _
          rw [List.length_map, Hzl.out]
          exact h1
        case rest =>
         obtain ⟨HR2, HN2, Hw2⟩ := hcut
         rename World => w2
         obtain ⟨mo, mc, hmf, _⟩ := HR2.out.form
         rw [List.length_map, natZ_len] at hmf
         subst hmf
         have HB2 := hd (HB1.out.nw HN2.out)
         clear d0 d1 d2 d3 hBl1
         have Hzl := hd (natZ_len l)
         go_wp2_with (at_builtin; refine wpList_append_own_at _ rfl _ _ 22 rfl 0 3 i0 (.int .i64 0) 1 8 Tryz.underlying22 hi0 hz0 hz1 hz2 rfl (by decide) _ _ _ rfl (Row.alloc HR2.out _) ⟨_, 0, none⟩ 1 1 [.int .i64 (k : Int)] rfl rfl (cell_one_new _ _ _) (by simp [Value.oneCell']) (by rw [List.length_map, Hzl.out]; unfold maxLen; omega) (by rw [List.length_map, Hzl.out]; omega) (Nat.zero_le _) ?_; intro v' w3 hown' hgrow _ hat; obtain ⟨g', cap', rfl, hr3, hf3, ha3, hlt3⟩ := app1 hown' hgrow hat; have HL3 := hd (Row.lat (l := l ++ [k]) (by rw [show (natZ (l ++ [k])).map (Value.int .i64) = (natZ l).map (Value.int .i64) ++ [.int .i64 (k : Int)] by simp [natZ]]; exact hr3)); have HN3 := hd (HN2.out.trans hf3 (fun i hi => .inr (Hw2.out i hi))); have HB3 := hd (HB2.out.fr hf3 (fun h => absurd (Hw2.out _ h) (by have := HB1.out.lt; omega))); have d0 : w3.cell? ⟨B, 0, none⟩ = some (.slice E.vo E.vars.length E.vcap) := HB3.out.cell 0; have d1 : w3.cell? ⟨B, 1, none⟩ = some (.slice E.ro E.rows.length E.rcap) := HB3.out.cell 1; have d2 : w3.cell? ⟨B, 2, none⟩ = some (.bool E.nt) := HB3.out.cell 2; have d3 : w3.cell? ⟨B, 3, none⟩ = some (.int .i64 E.way) := HB3.out.cell 3; have hBl3 := HB3.out.lt; clear hown' hgrow hat hr3 hf3 ha3)
         rw [List.length_map] at HL3
         refine (Hih.out k _ _ (HVn.out.trans (HN.out.trans HN3.out (fun _ x => x.elim)) (fun _ x => x.elim)) HL3.out).mono ?_
         rintro e w5 ⟨⟨b, rfl, hb⟩, hf5⟩
         have Hb := hd hb
         have Hf5 := hd (HN.out.trans (HN3.out.trans hf5 (fun _ x => x.elim)) (fun _ x => x.elim))
         clear hb hf5
         cases b with
         | true =>
          go_wp2_with fail
          go_ret
          exact ⟨⟨true, rfl, ⟨fun _ => Hyes.out trivial Hnsk.out (Hb.out.1 trivial), fun _ => rfl⟩⟩, HwU.out.trans Hf5.out (fun _ x => x.elim)⟩
         | false =>
          go_wp2_with fail
          exact ⟨⟨k + 1, by omega, by simp, Hnext.out (.inr (.inr (fun h => absurd (Hb.out.2 h) (by simp)))), Hf5⟩, by simp [intOf]; omega⟩
       ·have hpb : ((l.length : Int) == (pl : Int)) = false := by rw [beq_eq_false_iff_ne]; omega
        go_upto_region 10 with fail
        go_cut [14] (fun mv wx => Hid (Row wx mv 3 ((natZ l).map (Value.int .i64))) ∧ Hid (Nw wr wx) ∧ Hid (∀ q, mv.ownBlock = some q → wr.heap.size ≤ q))
        case first =>
         rcases HlV.out.nw HN.out with ⟨hl0, hlv0⟩ | ⟨lb, lof, lcap, hlv0, hIl⟩
         ·simp only [Value.slice.injEq] at hlv0
          obtain ⟨rfl, h00, rfl⟩ := hlv0
          clear h00
          have Hl0 := hd hl0
          have Hsl : Hid (Value.slice none l.length 0 = .slice none 0 0) := hd (by rw [hl0]; rfl)
          clear hl0
          go_wp2_with (at_builtin; refine wpList_append_own_none rfl _ _ 22 rfl 0 3 i0 1 Tryz.underlying22 hi0 _ 0 [] rfl (World.ownsRow_nil _ _ _ _) Hsl.out ?_)
          go_meet
          exact ⟨by rw [Hl0.out]; exact Row.nil _ _, Fr.refl _ _, fun q hq => (by cases hq)⟩
         ·simp only [Value.slice.injEq] at hlv0
          obtain ⟨rfl, _, rfl⟩ := hlv0
          have hsrc : ∀ (j : Nat) (v : Value), ((natZ l).map (Value.int .i64))[j]? = some v → wr.cell? ((⟨lb, lof, none⟩ : Addr).add j) = some v := fun j v hj => by
           have hjl : j < (natZ l).length := by
            have := (List.getElem?_eq_some_iff.1 hj).1
            simpa using this
           obtain ⟨b', o', he, _, hc⟩ := hIl j hjl
           simp only [Option.some.injEq, Addr.mk.injEq, and_true] at he
           obtain ⟨rfl, rfl⟩ := he
           rw [show (⟨lb, lof, none⟩ : Addr).add j = ⟨lb, lof + j, none⟩ from by by_cases h : j = 0 <;> simp [Addr.add, h], hc]
           rw [List.getElem?_map, List.getElem?_eq_getElem hjl] at hj
           simp only [Option.map_some, Option.some.injEq] at hj
           rw [← hj]
           simp [List.getD, hjl]
          have Hsrc := hd hsrc
          have Hzl := hd (natZ_len l)
          clear hsrc hIl
          go_wp2_with (at_builtin; refine wpList_append_own_at _ rfl _ _ 22 rfl 0 3 i0 (.int .i64 0) 1 8 Tryz.underlying22 hi0 hz0 hz1 hz2 rfl (by decide) _ 0 [] rfl (World.ownsRow_nil _ _ _ _) ⟨lb, lof, none⟩ l.length lc ((natZ l).map (Value.int .i64)) rfl (by rw [List.length_map, Hzl.out]; simp) Hsrc.out (ints_oneCell _ _) (by unfold maxLen; omega) (by omega) (Nat.zero_le _) ?_; intro v' w2 hown' hgrow _ hat)
          go_meet
          refine ⟨?_, (Fr.refl _ wr).grown hgrow (fun k hk => (by cases hk)), fun q hq => ?_⟩
          rotate_left
          ·rcases hat with hat | hat
           ·rw [hat] at hq
            cases hq
           ·rw [hat] at hq
            cases hq
            exact Nat.le_refl _
          have h1 := hown'
          rw [Nat.zero_add, List.nil_append] at h1
          show w2.ownsRow 0 3 1 v' ((natZ l).map (Value.int .i64)).length _
          rw [List.length_map, Hzl.out]
          exact h1
        case rest =>
         obtain ⟨HR2, HN2, Hw2⟩ := hcut
         rename World => w2
         obtain ⟨mo, mc, hmf, _⟩ := HR2.out.form
         rw [List.length_map, natZ_len] at hmf
         subst hmf
         have HB2 := hd (HB1.out.nw HN2.out)
         clear d0 d1 d2 d3 hBl1
         have Hzl := hd (natZ_len l)
         go_wp2_with (at_builtin; refine wpList_append_own_at _ rfl _ _ 22 rfl 0 3 i0 (.int .i64 0) 1 8 Tryz.underlying22 hi0 hz0 hz1 hz2 rfl (by decide) _ _ _ rfl (Row.alloc HR2.out _) ⟨_, 0, none⟩ 1 1 [.int .i64 (k : Int)] rfl rfl (cell_one_new _ _ _) (by simp [Value.oneCell']) (by rw [List.length_map, Hzl.out]; unfold maxLen; omega) (by rw [List.length_map, Hzl.out]; omega) (Nat.zero_le _) ?_; intro v' w3 hown' hgrow _ hat; obtain ⟨g', cap', rfl, hr3, hf3, ha3, hlt3⟩ := app1 hown' hgrow hat; have HL3 := hd (Row.lat (l := l ++ [k]) (by rw [show (natZ (l ++ [k])).map (Value.int .i64) = (natZ l).map (Value.int .i64) ++ [.int .i64 (k : Int)] by simp [natZ]]; exact hr3)); have HN3 := hd (HN2.out.trans hf3 (fun i hi => .inr (Hw2.out i hi))); have HB3 := hd (HB2.out.fr hf3 (fun h => absurd (Hw2.out _ h) (by have := HB1.out.lt; omega))); have d0 : w3.cell? ⟨B, 0, none⟩ = some (.slice E.vo E.vars.length E.vcap) := HB3.out.cell 0; have d1 : w3.cell? ⟨B, 1, none⟩ = some (.slice E.ro E.rows.length E.rcap) := HB3.out.cell 1; have d2 : w3.cell? ⟨B, 2, none⟩ = some (.bool E.nt) := HB3.out.cell 2; have d3 : w3.cell? ⟨B, 3, none⟩ = some (.int .i64 E.way) := HB3.out.cell 3; have hBl3 := HB3.out.lt; clear hown' hgrow hat hr3 hf3 ha3)
         rw [List.length_map] at HL3
         refine (Hih.out k _ _ (HVn.out.trans (HN.out.trans HN3.out (fun _ x => x.elim)) (fun _ x => x.elim)) HL3.out).mono ?_
         rintro e w5 ⟨⟨b, rfl, hb⟩, hf5⟩
         have Hb := hd hb
         have Hf5 := hd (HN.out.trans (HN3.out.trans hf5 (fun _ x => x.elim)) (fun _ x => x.elim))
         clear hb hf5
         cases b with
         | true =>
          go_wp2_with fail
          go_ret
          exact ⟨⟨true, rfl, ⟨fun _ => Hyes.out trivial Hnsk.out (Hb.out.1 trivial), fun _ => rfl⟩⟩, HwU.out.trans Hf5.out (fun _ x => x.elim)⟩
         | false =>
          go_wp2_with fail
          exact ⟨⟨k + 1, by omega, by simp, Hnext.out (.inr (.inr (fun h => absurd (Hb.out.2 h) (by simp)))), Hf5⟩, by simp [intOf]; omega⟩
    ·obtain rfl : bs.length = k := by omega
     have hdk : ¬ ((bs.length : Int) < (bs.length : Int)) := by omega
     go_wp2_with fail
     go_ret
     refine ⟨⟨false, rfl, ⟨fun h => (by cases h), fun h => ?_⟩⟩, HwU.out.trans HN.out (fun _ x => x.elim)⟩
     obtain ⟨v, h1, h2, h3⟩ := Hdown.out h
     rw [HinB.out] at h1
     have hvl : v < bs.length := by
      refine Classical.byContradiction fun hn => ?_
      simp only [List.getD] at h1
      rw [List.getElem?_eq_none (by omega)] at h1
      cases h1
     exact absurd h3 (Hno.out v hvl h1 h2)
theorem found_any (E : FEnv) (W : World) (hE : E.Ok W) (m : Nat) : FoundAt E W m := by
 induction m using Nat.strongRecOn with
 | _ m ih => exact found_step E W hE m ih
end Go.Proofs.YtkjfpdfkcfgfkaaGreat

namespace Go.Proofs.YtkjfpdfkcfgfkaaGreat
open Go.RowKit

def anyTo' (bs : List Bool) (k : Nat) : Bool := (bs.take k).any id
theorem anyTo'_succ (bs : List Bool) (k : Nat) (hk : k < bs.length) : anyTo' bs (k + 1) = (anyTo' bs k || bs.getD k false) := by
 unfold anyTo'
 rw [List.take_succ_eq_append_getElem hk, List.any_append]
 simp [List.getD, hk]
def noneB (bss : List (List Bool)) : Bool := bss.any (fun bs => !bs.any id)

set_option maxHeartbeats 1600000 in
set_option maxRecDepth 1000000 in
theorem empty_any (Y : Nat) (io : Option Addr) (icap : Nat) (bss : List (List Bool)) (w : World) (h8 : bss.length ≤ 8) (h6 : ∀ u, u < bss.length → (bss.getD u []).length ≤ 6) (hY : Y < w.heap.size) (hc : w.cell? ⟨Y, 1, none⟩ = some (.slice io bss.length icap)) (hin : BRowsAt w io bss) :
  Calls Tryz.prog 95 #[.pointer (some ⟨Y, 0, none⟩)] w fun e w' => e = .returned (.bool (noneB bss)) ∧ Nw w w' := by
 have Hin := hd hin
 have Hc := hd hc
 clear hin hc
 go_enter Tryz.func95, Tryz.ntmps95
 go_wp2_with fail
 go_loopw [3, 4, 5] (fun v _ _ wr => ∃ k : Nat, k ≤ bss.length ∧ v = .int .i64 (k : Int) ∧ Hid (∀ u, u < k → (bss.getD u []).any id = true) ∧ Hid (Nw w wr)) (fun v _ _ _ => bss.length - (intOf v).toNat)
 case atStart => exact ⟨0, by omega, rfl, fun u hu => absurd hu (Nat.not_lt_zero _), Fr.refl _ _⟩
 case round =>
  obtain ⟨k, hk, rfl, Hall, HN⟩ := hrel
  have c1 : wr.cell? ⟨Y, 1, none⟩ = some (.slice io bss.length icap) := (HN.out.cell hY (fun x => x)).trans Hc.out
  have hYl : Y < wr.heap.size := Nat.lt_of_lt_of_le hY HN.out.size
  by_cases hlt : k < bss.length
  ·have hdk : (k : Int) < (bss.length : Int) := by omega
   obtain ⟨ib, iof, qo, qc, hie, hil, hic, hRow⟩ := (Hin.out.nw HN.out) k hlt
   have hb6 := h6 k hlt
   have Hmem : Hid (bss.getD k [] ∈ bss) := hd (by
    rw [show bss.getD k [] = bss[k] by simp [List.getD, hlt]]
    exact List.getElem_mem hlt)
   have Hk := hd (show bss.getD k [] = bss.getD k [] from rfl)
   obtain ⟨bs, hbs⟩ : ∃ bs, bss.getD k [] = bs := ⟨_, rfl⟩
   rw [hbs] at hic hRow hb6 Hmem
   subst hie
   have HRow := hd hRow
   have Hbs := hd hbs
   clear hRow Hk hbs
   go_wp2_with fail
   go_loopw [4, 5] (fun a x w1 => ∃ j : Nat, j ≤ bs.length ∧ x = .int .i64 (j : Int) ∧ a = .bool (anyTo' bs j) ∧ Hid (Nw wr w1)) (fun _ x _ => bs.length - (intOf x).toNat)
   case atStart => exact ⟨0, by omega, rfl, rfl, Fr.refl _ _⟩
   case round =>
    rename World => w1
    obtain ⟨j, hj, rfl, rfl, HN1⟩ := hrel
    have d1 : w1.cell? ⟨Y, 1, none⟩ = some (.slice (some ⟨ib, iof, none⟩) bss.length icap) := (HN1.out.cell hYl (fun x => x)).trans c1
    have hYl1 : Y < w1.heap.size := Nat.lt_of_lt_of_le hYl HN1.out.size
    have dic : w1.cell? ⟨ib, iof + k, none⟩ = some (.slice qo bs.length qc) := (HN1.out.cell hil (fun x => x)).trans hic
    have hil1 : ib < w1.heap.size := Nat.lt_of_lt_of_le hil HN1.out.size
    by_cases hjl : j < bs.length
    ·have hdj : (j : Int) < (bs.length : Int) := by omega
     obtain ⟨qb, qof, hqe, hql, hqc⟩ := (HRow.out.nw HN1.out) j hjl
     subst hqe
     have Hs := hd (anyTo'_succ bs j hjl)
     obtain ⟨x, hx⟩ : ∃ x, bs.getD j false = x := ⟨_, rfl⟩
     obtain ⟨a, ha⟩ : ∃ a, anyTo' bs j = a := ⟨_, rfl⟩
     rw [hx] at hqc Hs
     rw [ha] at Hs ⊢
     clear hx ha
     cases a with
     | true =>
      go_wp2_with fail
      exact ⟨⟨j + 1, by omega, by simp, by rw [Hs.out]; rfl, HN1⟩, by simp [intOf]; omega⟩
     | false =>
      go_wp2_with fail
      exact ⟨⟨j + 1, by omega, by simp, by rw [Hs.out]; rfl, HN1⟩, by simp [intOf]; omega⟩
    ·obtain rfl : bs.length = j := by omega
     have hdj : ¬ ((bs.length : Int) < (bs.length : Int)) := by omega
     have ha : anyTo' bs bs.length = bs.any id := by unfold anyTo'; rw [List.take_length]
     rw [ha]
     obtain ⟨a, ha'⟩ : ∃ a, bs.any id = a := ⟨_, rfl⟩
     have Ha := hd ha'
     rw [ha']
     clear ha ha'
     cases a with
     | true =>
      go_wp2_with fail
      refine ⟨⟨k + 1, by omega, by simp, fun u hu => ?_, HN.out.trans HN1.out (fun _ x => x.elim)⟩, by simp [intOf]; omega⟩
      by_cases e : u = k
      ·rw [e, Hbs.out]
       exact Ha.out
      ·exact Hall.out u (by omega)
     | false =>
      go_wp2_with fail
      go_ret
      refine ⟨?_, HN.out.trans HN1.out (fun _ x => x.elim)⟩
      have : noneB bss = true := List.any_eq_true.2 ⟨bs, Hmem.out, by rw [Ha.out]; rfl⟩
      rw [this]
      rfl
  ·obtain rfl : bss.length = k := by omega
   have hdk : ¬ ((bss.length : Int) < (bss.length : Int)) := by omega
   go_wp2_with fail
   go_ret
   refine ⟨?_, HN.out⟩
   have : noneB bss = false := by
    unfold noneB
    rw [List.any_eq_false]
    intro bs hbs
    obtain ⟨u, hu, rfl⟩ := List.getElem_of_mem hbs
    have := Hall.out u hu
    rw [show bss.getD u [] = bss[u] by simp [List.getD, hu]] at this
    rw [this]
    simp
   rw [this]
   rfl
end Go.Proofs.YtkjfpdfkcfgfkaaGreat

namespace Go.Proofs.YtkjfpdfkcfgfkaaGreat

def bitsOf (d : List Nat) : Nat := ((List.range 8).map (fun q => (vals (d.getD q 0)).length)).foldl (· + ·) 0
def marksOf (m : List Bool) : Nat := m.count true
theorem sum_le (f g : Nat → Nat) : ∀ (l : List Nat) (a b : Nat), (∀ q ∈ l, f q ≤ g q) → a ≤ b → (l.map f).foldl (· + ·) a ≤ (l.map g).foldl (· + ·) b
 | [], _, _, _, h => h
 | q :: l, a, b, h, hab => sum_le f g l (a + f q) (b + g q) (fun p hp => h p (List.mem_cons_of_mem _ hp)) (Nat.add_le_add hab (h q (List.mem_cons_self ..)))
theorem sum_lt (f g : Nat → Nat) : ∀ (l : List Nat) (a b : Nat), (∀ q ∈ l, f q ≤ g q) → a ≤ b → (∃ q ∈ l, f q < g q) → (l.map f).foldl (· + ·) a < (l.map g).foldl (· + ·) b
 | [], _, _, _, _, h => by
  obtain ⟨q, hq, _⟩ := h
  cases hq
 | q :: l, a, b, h, hab, hx => by
  obtain ⟨p, hp, hlt⟩ := hx
  rcases List.mem_cons.1 hp with rfl | hp
  ·have key : ∀ (l : List Nat) (a b : Nat), (∀ q ∈ l, f q ≤ g q) → a < b → (l.map f).foldl (· + ·) a < (l.map g).foldl (· + ·) b := by
    intro l
    induction l with
    | nil => intro a b _ h; exact h
    | cons q l ih =>
     intro a b h hab
     have := h q (List.mem_cons_self ..)
     exact ih (a + f q) (b + g q) (fun p hp => h p (List.mem_cons_of_mem _ hp)) (by omega)
   exact key l (a + f p) (b + g p) (fun q hq => h q (List.mem_cons_of_mem _ hq)) (by omega)
  ·exact sum_lt f g l (a + f q) (b + g q) (fun p hp => h p (List.mem_cons_of_mem _ hp)) (Nat.add_le_add hab (h q (List.mem_cons_self ..))) ⟨p, hp, hlt⟩
theorem filter_le {p r : Nat → Bool} (h : ∀ x, p x = true → r x = true) : ∀ l : List Nat, (l.filter p).length ≤ (l.filter r).length
 | [] => Nat.le_refl _
 | x :: l => by
  have ih := filter_le h l
  by_cases hp : p x = true
  ·rw [List.filter_cons_of_pos hp, List.filter_cons_of_pos (h x hp)]
   simp
   exact ih
  ·rw [List.filter_cons_of_neg hp]
   by_cases hr : r x = true
   ·rw [List.filter_cons_of_pos hr]
    simp
    omega
   ·rw [List.filter_cons_of_neg hr]
    exact ih
theorem filter_lt {p r : Nat → Bool} (h : ∀ x, p x = true → r x = true) : ∀ l : List Nat, (∃ x ∈ l, r x = true ∧ p x = false) → (l.filter p).length < (l.filter r).length
 | [], hx => by
  obtain ⟨x, hx, _⟩ := hx
  cases hx
 | x :: l, hx => by
  obtain ⟨y, hy, hr, hp⟩ := hx
  rcases List.mem_cons.1 hy with rfl | hy
  ·rw [List.filter_cons_of_pos hr, List.filter_cons_of_neg (by rw [hp]; simp)]
   have := filter_le h l
   simp
   omega
  ·have ih := filter_lt h l ⟨y, hy, hr, hp⟩
   by_cases hpx : p x = true
   ·rw [List.filter_cons_of_pos hpx, List.filter_cons_of_pos (h x hpx)]
    simp
    exact ih
   ·rw [List.filter_cons_of_neg hpx]
    by_cases hrx : r x = true
    ·rw [List.filter_cons_of_pos hrx]
     simp
     omega
    ·rw [List.filter_cons_of_neg hrx]
     exact ih
theorem bits_le {a b : List Nat} (h : SubD a b) : bitsOf a ≤ bitsOf b := sum_le _ _ _ 0 0 (fun q _ => filter_le (fun v hv => h q v hv) _) (Nat.le_refl _)
theorem bits_lt {a b : List Nat} (ha : Dm a) (hb : Dm b) (h : SubD a b) (hne : a ≠ b) : bitsOf a < bitsOf b := by
 obtain ⟨q, v, hv, hn⟩ : ∃ q v, (b.getD q 0).testBit v = true ∧ (a.getD q 0).testBit v = false := by
  refine Classical.byContradiction fun hc => hne (SubD.eq ha hb h fun q v hv => ?_)
  cases hx : (a.getD q 0).testBit v with
  | true => rfl
  | false => exact absurd ⟨q, v, hv, hx⟩ hc
 have hq : q < 8 := by
  refine Classical.byContradiction fun hc => ?_
  have : b.getD q 0 = 0 := by
   have h1 : b.length ≤ q := by rw [hb.len]; omega
   simp [List.getD, List.getElem?_eq_none h1]
  rw [this] at hv
  simp at hv
 have hv8 : v < 8 := by
  have := bit_lt6 (hb.lt q) hv
  omega
 exact sum_lt _ _ _ 0 0 (fun q _ => filter_le (fun v hv => h q v hv) _) (Nat.le_refl _) ⟨q, List.mem_range.2 hq, filter_lt (fun v hv => h q v hv) _ ⟨v, List.mem_range.2 hv8, hv, hn⟩⟩
theorem wakeTo_same (ts : List Tab) (a : List Nat) (m : List Bool) : ∀ k, wakeTo ts a a m k = m
 | 0 => rfl
 | k + 1 => by
  have : changedB (ts.getD k tab0).vars a a (ts.getD k tab0).vars.length = false := by simp [changedB]
  simp only [wakeTo, this, Bool.false_eq_true, if_false]
  exact wakeTo_same ts a m k
theorem marks_le (m : List Bool) : marksOf m ≤ m.length := List.count_le_length
theorem marks_set : ∀ (m : List Bool) (k : Nat), m.getD k false = true → marksOf (m.set k false) < marksOf m
 | [], k, h => by simp [List.getD] at h
 | b :: m, 0, h => by
  have hb : b = true := by simpa [List.getD] using h
  subst hb
  simp [marksOf]
 | b :: m, k + 1, h => by
  have ih := marks_set m k (by simpa [List.getD] using h)
  simp only [marksOf, List.set_cons_succ, List.count_cons] at ih ⊢
  omega
theorem round_less {ts : List Tab} {m : List Bool} {next nd : List Nat} (hm : m.length = 12) (hd : Dm next) (hd' : Dm nd) (hs : SubD nd next) {k : Nat} (hk : m.getD k false = true) :
  bitsOf nd * 13 + marksOf ((wakeTo ts next nd m ts.length).set k false) < bitsOf next * 13 + marksOf m := by
 by_cases e : nd = next
 ·subst e
  rw [wakeTo_same]
  have := marks_set m k hk
  omega
 ·have h1 := bits_lt hd' hd hs e
  have h2 := marks_le ((wakeTo ts next nd m ts.length).set k false)
  rw [List.length_set, wakeTo_length, hm] at h2
  omega
end Go.Proofs.YtkjfpdfkcfgfkaaGreat

namespace Go.Proofs.YtkjfpdfkcfgfkaaGreat
open Go.RowKit

theorem workCells_setBacks (szv : Value) (d : List Nat) (tv : Value) (l : Rest) (h : d.length = 8) (v : Value) : (workCells szv d tv l).setIfInBounds 10 v = workCells szv d tv ⟨v, l.starts, l.busy⟩ := by
 obtain ⟨d0, d1, d2, d3, d4, d5, d6, d7, rfl⟩ := list8 h
 simp [workCells]
theorem workCells_setStarts (szv : Value) (d : List Nat) (tv : Value) (l : Rest) (h : d.length = 8) (v : Value) : (workCells szv d tv l).setIfInBounds 11 v = workCells szv d tv ⟨l.backs, v, l.busy⟩ := by
 obtain ⟨d0, d1, d2, d3, d4, d5, d6, d7, rfl⟩ := list8 h
 simp [workCells]
theorem Tryz.infoFunc : (Tryz.prog.info? 1).map (fun i => (i.zero, i.size, i.bytes)) = some (some .nilFunc, 1, 8) := by kernel_rfl

set_option maxHeartbeats 1600000 in
set_option maxRecDepth 1000000 in
theorem write_some (X : Nat) (szv : Value) (d : List Nat) (tv : Value) (l : Rest) (so : Option Addr) (n sc : Nat) (fn : Fn) (fs cs : Array Value) (xs : List Value) (w : World) (hX : Blk w X (workCells szv d tv l) 66) (hd8 : d.length = 8)
  (hl : l.starts = .slice so (n + 1) sc) (hb : Row w l.backs 1 xs) (hxs : xs.length ≤ 1000000) :
  Calls Tryz.prog 71 #[.pointer (some ⟨X, 10, none⟩), .func fn fs cs] w fun e w' => e = .returned (.tuple #[]) ∧ ∃ bv, Row w' bv 1 (xs ++ [.func fn fs cs]) ∧ Fr (fun k => k = X ∨ l.backs.ownBlock = some k) w w' ∧ Blk w' X (workCells szv d tv ⟨bv, l.starts, l.busy⟩) 66 ∧ (∀ k, bv.ownBlock = some k → l.backs.ownBlock = some k ∨ w.heap.size ≤ k) := by
 have h : w.cell? ⟨X, 11, none⟩ = some (.slice so (n + 1) sc) := (hX.cell 11).trans ((workCells_starts _ _ _ _ hd8).trans (by rw [hl]))
 have h10 : w.cell? ⟨X, 10, none⟩ = some l.backs := (hX.cell 10).trans (workCells_backs _ _ _ _ hd8)
 have hXf := hX.free 10
 have HX := hd hX
 have Hb := hd hb
 clear hX hb
 obtain ⟨bv, hbv⟩ : ∃ bv, l.backs = bv := ⟨_, rfl⟩
 rw [hbv] at h10
 obtain ⟨i0, hi0, hz0, hz1, hz2⟩ := info_parts Tryz.infoFunc
 have hXl : X < w.heap.size := HX.out.lt
 have HbN : Hid (bv.ownBlock ≠ some X) := by
  rw [← hbv]
  exact Hb.out.ne HX.out (by decide)
 have hb' : Row w bv 1 xs := hbv ▸ Hb.out
 obtain ⟨bo, bcap, hform, _⟩ := hb'.form
 subst hform
 have Hbv := hd hbv
 have Hl := hd hl
 clear hbv hl Hb
 go_enter Tryz.func71, Tryz.ntmps71
 go_wp2_with (first
  | (go_at_call 24; refine (level_any X so (n + 1) sc _ h).mono ?_; rintro e w' ⟨rfl, rfl⟩)
  | (at_builtin; refine wpList_append_own_at _ rfl _ _ 62 rfl 0 1 i0 .nilFunc 1 8 Tryz.underlying62 hi0 hz0 hz1 hz2 rfl (by decide) _ _ _ rfl (Row.alloc hb' _) ⟨_, 0, none⟩ 1 1 [.func fn fs cs] rfl rfl (cell_one_new _ _ _) (by simp [Value.oneCell']) (by unfold maxLen; omega) (by omega) (Nat.zero_le _) ?_; intro v' w1 hown' hgrow _ hat; obtain ⟨g', cap', rfl, hr1, hf1, ha1, hlt1⟩ := app1 hown' hgrow hat; have hX1 := HX.out.fr hf1 (fun e => HbN.out e); have hfz1 := hX1.free 10; have hc1 := (hX1.cell 10).trans (workCells_backs _ _ _ _ hd8); have HX1 := hd hX1; clear hX1 hown' hgrow hat))
 go_end0
 have hne : (Value.slice (some ⟨g', 0, none⟩) (xs.length + 1) cap').ownBlock ≠ some X := hr1.ne HX1.out (by decide)
 refine ⟨rfl, _, hr1.fr ((Fr.refl (fun k => k = X) w1).setCell ⟨X, 10, none⟩ _ (.inl rfl)) (fun k hk e => hne (by rw [← e]; exact hk)), ?_, ?_, fun k hk => ?_⟩
 ·refine (hf1.mono (fun i h => .inl (.inr ?_))).setCell ⟨X, 10, none⟩ _ (.inl (.inl rfl))
  rw [Hbv.out]
  exact h
 ·have h5 := HX1.out.set 10 (.slice (some ⟨g', 0, none⟩) (xs.length + 1) cap')
  rw [workCells_setBacks _ _ _ _ hd8] at h5
  exact h5
 ·have e : g' = k := by cases hk; rfl
  subst e
  rcases ha1 with h | h
  ·rw [Hbv.out]
   exact .inl h
  ·exact .inr (by omega)

set_option maxHeartbeats 1600000 in
set_option maxRecDepth 1000000 in
theorem push_any (X : Nat) (szv : Value) (d : List Nat) (tv : Value) (l : Rest) (bo : Option Addr) (bn bcap : Nat) (xs : List Value) (w : World) (hX : Blk w X (workCells szv d tv l) 66) (hd8 : d.length = 8)
  (hl : l.backs = .slice bo bn bcap) (hb : Row w l.starts 3 xs) (hxs : xs.length ≤ 1000000) :
  Calls Tryz.prog 82 #[.pointer (some ⟨X, 10, none⟩)] w fun e w' => e = .returned (.tuple #[]) ∧ ∃ sv, Row w' sv 3 (xs ++ [.int .i64 (bn : Int)]) ∧ Fr (fun k => k = X ∨ l.starts.ownBlock = some k) w w' ∧ Blk w' X (workCells szv d tv ⟨l.backs, sv, l.busy⟩) 66 ∧ (∀ k, sv.ownBlock = some k → l.starts.ownBlock = some k ∨ w.heap.size ≤ k) := by
 have h10 : w.cell? ⟨X, 10, none⟩ = some (.slice bo bn bcap) := (hX.cell 10).trans ((workCells_backs _ _ _ _ hd8).trans (by rw [hl]))
 obtain ⟨sv, hsv⟩ : ∃ sv, l.starts = sv := ⟨_, rfl⟩
 have h11 : w.cell? ⟨X, 11, none⟩ = some sv := (hX.cell 11).trans ((workCells_starts _ _ _ _ hd8).trans (by rw [hsv]))
 have hXf := hX.free 11
 obtain ⟨i0, hi0, hz0, hz1, hz2⟩ := info_parts Tryz.infoInt
 have hXl : X < w.heap.size := hX.lt
 have HbN : Hid (sv.ownBlock ≠ some X) := by
  rw [← hsv]
  exact hb.ne hX (by decide)
 have hb' : Row w sv 3 xs := hsv ▸ hb
 obtain ⟨so, scap, hform, _⟩ := hb'.form
 subst hform
 have HX := hd hX
 have Hsv := hd hsv
 have Hl := hd hl
 clear hsv hl hX hb
 go_enter Tryz.func82, Tryz.ntmps82
 go_upto_region 0 with fail
 have hK0 : Blk w.drew X (workCells szv d tv l) 66 := HX.out.drew
 refine region_U (S := fun w'' => Blk w'' X (workCells szv d tv l) 66) 14 (by kernel_rfl) ?_
 refine anyU_take (i := 0) (v := .pointer (some ⟨X, 10, none⟩)) (by kernel_rfl) rfl (by kernel_rfl) (by kernel_rfl) (by kernel_rfl) (fun _ _ _ h => h) (.inl ⟨by kernel_rfl, fun w'' hS => by kernel_rfl⟩) hK0 ?_
 refine anyU_take (i := 1) (v := .pointer (some ⟨X, 10, none⟩)) (by kernel_rfl) rfl (by kernel_rfl) (by kernel_rfl) (by kernel_rfl) (fun _ _ _ h => h) (.inl ⟨by kernel_rfl, fun w'' hS => by kernel_rfl⟩) hK0 ?_
 refine anyU_take (i := 2) (v := .pointer (some ⟨X, 10, none⟩)) (by kernel_rfl) rfl (by kernel_rfl) (by kernel_rfl) (by kernel_rfl) (fun _ _ _ h => h) (.inl ⟨by kernel_rfl, fun w'' hS => by kernel_rfl⟩) hK0 ?_
 refine anyU_take (i := 3) (v := .pointer (some ⟨X, 11, none⟩)) (by kernel_rfl) rfl (by kernel_rfl) (by kernel_rfl) (by kernel_rfl) (fun _ _ _ h => h) (.inl ⟨by kernel_rfl, fun w'' hS => by kernel_rfl⟩) hK0 ?_
 refine anyU_take (i := 4) (v := .slice so xs.length scap) (by kernel_rfl) rfl (by kernel_rfl) (by kernel_rfl) (by kernel_rfl) (fun _ _ _ h => h) (.inl ⟨by kernel_rfl, fun w'' hS => ?_⟩) hK0 ?_
 ·have hc := (hS.cell 11).trans ((workCells_starts _ _ _ _ hd8).trans (by rw [Hsv.out]))
  clear hS hK0 h10 h11 hXf hb'
  simp only [Act.put, List.setIfInBounds_toArray, List.set_cons_zero, List.set_cons_succ, List.getElem_toArray, List.getElem_cons_zero, List.getElem_cons_succ]
  go_simp
 refine anyU_take (i := 5) (v := .pointer (some ⟨X, 10, none⟩)) (by kernel_rfl) rfl (by kernel_rfl) (by kernel_rfl) (by kernel_rfl) (fun _ _ _ h => h) (.inl ⟨by kernel_rfl, fun w'' hS => by kernel_rfl⟩) hK0 ?_
 refine anyU_take (i := 6) (v := .pointer (some ⟨X, 10, none⟩)) (by kernel_rfl) rfl (by kernel_rfl) (by kernel_rfl) (by kernel_rfl) (fun _ _ _ h => h) (.inl ⟨by kernel_rfl, fun w'' hS => by kernel_rfl⟩) hK0 ?_
 refine anyU_take (i := 7) (v := .pointer (some ⟨X, 10, none⟩)) (by kernel_rfl) rfl (by kernel_rfl) (by kernel_rfl) (by kernel_rfl) (fun _ _ _ h => h) (.inl ⟨by kernel_rfl, fun w'' hS => by kernel_rfl⟩) hK0 ?_
 refine anyU_take (i := 8) (v := .slice bo bn bcap) (by kernel_rfl) rfl (by kernel_rfl) (by kernel_rfl) (by kernel_rfl) (fun _ _ _ h => h) (.inl ⟨by kernel_rfl, fun w'' hS => ?_⟩) hK0 ?_
 ·have hc := (hS.cell 10).trans ((workCells_backs _ _ _ _ hd8).trans (by rw [Hl.out]))
  clear hS hK0 h10 h11 hXf hb'
  simp only [Act.put, List.setIfInBounds_toArray, List.set_cons_zero, List.set_cons_succ, List.getElem_toArray, List.getElem_cons_zero, List.getElem_cons_succ]
  go_simp
 refine anyU_take (i := 9) (v := .int .i64 (bn : Int)) (by kernel_rfl) rfl (by kernel_rfl) (by kernel_rfl) (by kernel_rfl) (fun _ _ _ h => h) (.inl ⟨by kernel_rfl, fun w'' hS => by kernel_rfl⟩) hK0 ?_
 refine anyU_one (i := 10) (by kernel_rfl) ?_
 refine op_value (v := .slice (some ⟨w.heap.size, 0, none⟩) 1 1) (w' := w.drew.alloc (.cells #[.int .i64 (bn : Int)] 3)) rfl (by kernel_rfl) ?_ ⟨fun _ => hK0.alloc _, ?_⟩
 ·kernel_rfl
 obtain ⟨v', w3, hr, hown, hgrow, _, hat⟩ := run_append_own_at (P := Tryz.prog) (w.drew.alloc (.cells #[.int .i64 (bn : Int)] 3)) 0 22 22 3 i0 (.int .i64 0) 1 8 Tryz.underlying22 hi0 hz0 hz1 hz2 rfl (by decide) (.slice so xs.length scap) xs.length xs (Row.alloc hb'.drew _) ⟨w.heap.size, 0, none⟩ 1 1 [.int .i64 (bn : Int)] rfl (cell_one_new _ _ _) (by simp [Value.oneCell']) (by unfold maxLen; omega) (by omega) (Nat.zero_le _)
 obtain ⟨g', cap', rfl, hr1, hf1, ha1, hlt1⟩ := app1 (w := w.drew) hown hgrow hat
 clear hown hgrow hat
 have hX1 : Blk w3 X (workCells szv d tv l) 66 := hK0.fr hf1 (fun e => HbN.out e)
 refine anyU_one (i := 11) (by kernel_rfl) ?_
 refine op_value (v := .slice (some ⟨g', 0, none⟩) (xs.length + 1) cap') (w' := w3) rfl (by kernel_rfl) ?_ ⟨fun _ => hX1, ?_⟩
 ·simp only [Act.put, List.setIfInBounds_toArray, List.set_cons_zero, List.set_cons_succ, List.getElem_toArray, List.getElem_cons_zero, List.getElem_cons_succ]
  unfold execOp
  simp only [resolve, invoke, builtin, Sem.run_bind, Sem.run_pure, Result.andThen_ok, List.map_toArray, List.map_cons, List.map_nil, Act.eval]
  erw [hr]
  rfl
 refine anyU_one (i := 12) (by kernel_rfl) ?_
 refine op_value (v := .pointer (some ⟨X, 10, none⟩)) (w' := w3) rfl (by kernel_rfl) (by kernel_rfl) ⟨fun _ => hX1, ?_⟩
 refine anyU_one (i := 13) (by kernel_rfl) ?_
 refine op_value (v := .pointer (some ⟨X, 11, none⟩)) (w' := w3) rfl (by kernel_rfl) (by kernel_rfl) ⟨fun _ => hX1, ?_⟩
 refine anyU_one (i := 14) (by kernel_rfl) ?_
 have hc11 := (hX1.cell 11).trans (workCells_starts _ _ _ _ hd8)
 have hf11 := hX1.free 11
 refine op_skip (w' := w3.setCell ⟨X, 11, none⟩ (.slice (some ⟨g', 0, none⟩) (xs.length + 1) cap')) rfl (by kernel_rfl) ?_ ⟨fun h => absurd rfl h, anyU_done (by kernel_rfl) ?_ _⟩
 ·clear hK0 h10 h11 hXf hb' hX1 hf1 hr hr1
  simp only [Act.put, List.setIfInBounds_toArray, List.set_cons_zero, List.set_cons_succ, List.getElem_toArray, List.getElem_cons_zero, List.getElem_cons_succ]
  go_simp
 simp only [Act.put, List.setIfInBounds_toArray, List.set_cons_zero, List.set_cons_succ, List.getElem_toArray, List.getElem_cons_zero, List.getElem_cons_succ]
 have HX1 := hd hX1
 clear hX1 hr hK0 h10 h11 hXf hb' hc11 hf11
 have hf1' : Fr (fun k => (Value.slice so xs.length scap).ownBlock = some k) w w3 := ⟨hf1.os, hf1.tape, hf1.output, hf1.size, hf1.block⟩
 clear hf1
 go_end0
 have hne : (Value.slice (some ⟨g', 0, none⟩) (xs.length + 1) cap').ownBlock ≠ some X := hr1.ne HX1.out (by decide)
 refine ⟨rfl, _, hr1.fr ((Fr.refl (fun k => k = X) w3).setCell ⟨X, 11, none⟩ _ (.inl rfl)) (fun k hk e => hne (by rw [← e]; exact hk)), ?_, ?_, fun k hk => ?_⟩
 ·refine (hf1'.mono (fun i h => .inl (.inr ?_))).setCell ⟨X, 11, none⟩ _ (.inl (.inl rfl))
  rw [Hsv.out]
  exact h
 ·have h5 := HX1.out.set 11 (.slice (some ⟨g', 0, none⟩) (xs.length + 1) cap')
  rw [workCells_setStarts _ _ _ _ hd8] at h5
  exact h5
 ·have e : g' = k := by cases hk; rfl
  subst e
  rcases ha1 with h | h
  ·rw [Hsv.out]
   exact .inl h
  ·refine .inr ?_
   have h2 : g' = w.heap.size + 1 := h
   omega
end Go.Proofs.YtkjfpdfkcfgfkaaGreat

namespace Go.Proofs.YtkjfpdfkcfgfkaaGreat
open Go.RowKit

def wrTo (ss xs : List Value) (fv : Value) : List Value := if ss.isEmpty then xs else xs ++ [fv]
structure TrAt (w : World) (l : Rest) (ss xs : List Value) : Prop where
 starts : Row w l.starts 3 ss
 backs : Row w l.backs 1 xs
theorem TrAt.fr {S : Nat → Prop} {w w' : World} {l : Rest} {ss xs : List Value} (h : TrAt w l ss xs) (f : Fr S w w') (hs : ∀ k, l.starts.ownBlock = some k → ¬ S k) (hb : ∀ k, l.backs.ownBlock = some k → ¬ S k) : TrAt w' l ss xs := ⟨h.starts.fr f hs, h.backs.fr f hb⟩
theorem TrAt.nw {w w' : World} {l : Rest} {ss xs : List Value} (h : TrAt w l ss xs) (f : Nw w w') : TrAt w' l ss xs := h.fr f (fun _ _ x => x) (fun _ _ x => x)
theorem Row.ne_row {w : World} {u v : Value} {e e' : TypeId} {xs ys : List Value} (h : Row w u e xs) (k : Row w v e' ys) (hne : e ≠ e') {j : Nat} (hu : u.ownBlock = some j) : v.ownBlock ≠ some j := by
 intro hv
 obtain ⟨cur, hb, _⟩ := h.blk hu
 exact k.ne hb (fun e => hne e.symm) hv
theorem write_any (X : Nat) (szv : Value) (d : List Nat) (tv : Value) (l : Rest) (ss xs : List Value) (fn : Fn) (fs cs : Array Value) (w : World) (hX : Blk w X (workCells szv d tv l) 66) (hd8 : d.length = 8) (ht : TrAt w l ss xs) (hxs : xs.length ≤ 1000000) :
  Calls Tryz.prog 71 #[.pointer (some ⟨X, 10, none⟩), .func fn fs cs] w fun e w' => e = .returned (.tuple #[]) ∧ ∃ bv, TrAt w' ⟨bv, l.starts, l.busy⟩ ss (wrTo ss xs (.func fn fs cs)) ∧ Fr (fun k => k = X ∨ l.backs.ownBlock = some k) w w' ∧
   Blk w' X (workCells szv d tv ⟨bv, l.starts, l.busy⟩) 66 ∧ (∀ k, bv.ownBlock = some k → l.backs.ownBlock = some k ∨ w.heap.size ≤ k) := by
 obtain ⟨so, sc, hform, _⟩ := ht.starts.form
 have hneX : l.starts.ownBlock ≠ some X := ht.starts.ne hX (by decide)
 cases ss with
 | nil =>
  refine (write_none X so sc _ w ((hX.cell 11).trans ((workCells_starts _ _ _ _ hd8).trans (by rw [hform]; rfl)))).mono ?_
  rintro e w' ⟨rfl, rfl⟩
  exact ⟨rfl, l.backs, ht, Fr.refl _ _, hX, fun k hk => .inl hk⟩
 | cons s ss =>
  refine (write_some X szv d tv l so ss.length sc fn fs cs xs w hX hd8 hform ht.backs hxs).mono ?_
  rintro e w' ⟨rfl, bv, hr, hf, hb, ho⟩
  refine ⟨rfl, bv, ⟨ht.starts.fr hf (fun k hk => ?_), hr⟩, hf, hb, ho⟩
  rintro (rfl | h)
  ·exact hneX hk
  ·exact ht.starts.ne_row ht.backs (by decide) hk h

theorem TS.call_state (t : TS) (a : Array Value) (W : World) : (callFunc t.fnState a).run Tryz.prog W = .ok (.enter t.fnState a) W := by
 cases t with
 | rs nt br live =>
  simp only [TS.fnState]
  kernel_rfl
 | dg nv os root =>
  simp only [TS.fnState]
  kernel_rfl
theorem TS.call_narrow (t : TS) (a : Array Value) (W : World) : (callFunc t.fnNarrow a).run Tryz.prog W = .ok (.enter t.fnNarrow a) W := by
 cases t with
 | rs nt br live =>
  simp only [TS.fnNarrow]
  kernel_rfl
 | dg nv os root =>
  simp only [TS.fnNarrow]
  kernel_rfl
theorem tDom_len8 (vars : List Int) (dn : List Nat) (h : dn.length = 8) (t : TS) : (tDom vars dn t).length = 8 := by
 have key : ∀ s, (replTo vars dn s vars.length).length = 8 := fun s => by rw [replTo_length]; exact h
 cases t with
 | rs nt br live =>
  cases nt with
  | false => exact key _
  | true => exact key _
 | dg nv os root => exact key _
def backN (T S : Nat) : Value := .func (.func 73) #[] #[.pointer (some ⟨T, 0, none⟩), .pointer (some ⟨S, 0, none⟩)]
theorem TAt.tyAt {w : World} {G g cap : Nat} {vars : List Int} {t : TS} (h : TAt w G g cap vars t) {k : Nat} (hk : k = G ∨ k = g ∨ t.nodes k) : ∃ cur e, Blk w k cur e ∧ (e = 131 ∨ e = 125 ∨ e = 3 ∨ e = 151) := by
 cases t with
 | rs nt br live =>
  rcases hk with rfl | rfl | hk
  ·exact ⟨_, _, h.1, .inl rfl⟩
  ·obtain ⟨cur, hb, _⟩ := h.2.1.blk rfl
   exact ⟨_, _, hb, .inr (.inr (.inl rfl))⟩
  ·exact hk.elim
 | dg nv os root =>
  rcases hk with rfl | rfl | hk
  ·exact ⟨_, _, h.1.blk, .inr (.inl rfl)⟩
  ·obtain ⟨cur, hb, _⟩ := h.1.rv.blk rfl
   exact ⟨_, _, hb, .inr (.inr (.inl rfl))⟩
  ·rcases h.1.row.2 with ⟨rfl, _⟩ | ⟨g', cap', cur, rfl, _, hb, _⟩
   ·cases hk
   ·cases hk
    exact ⟨_, _, hb, .inr (.inr (.inr rfl))⟩
theorem TAt.tyG {w : World} {G g cap : Nat} {vars : List Int} {t : TS} (h : TAt w G g cap vars t) : ∃ cur e, Blk w G cur e ∧ (e = 131 ∨ e = 125) := by
 cases t with
 | rs nt br live => exact ⟨_, _, h.1, .inl rfl⟩
 | dg nv os root => exact ⟨_, _, h.1.blk, .inr rfl⟩
theorem TAt.apart {w : World} {G g cap : Nat} {vars : List Int} {t : TS} (h : TAt w G g cap vars t) {X : Nat} {cur : Array Value} (hX : Blk w X cur 66) {bv : Value} {xs : List Value} (hb : Row w bv 1 xs) {k : Nat} (hk : k = G ∨ k = g ∨ t.nodes k) : ¬ (k = X ∨ bv.ownBlock = some k) := by
 obtain ⟨c, e, h1, h2⟩ := h.tyAt hk
 rintro (rfl | h3)
 ·have := (h1.inj hX).2
  subst this
  revert h2
  decide
 ·refine hb.ne h1 ?_ h3
  rintro rfl
  revert h2
  decide
theorem TAt.state_form {w : World} {G g cap : Nat} {vars : List Int} {t : TS} (h : TAt w G g cap vars t) : ∃ (s0 : Int) (so : Option Addr) (sl sc : Nat) (s2 : Int), t.state = #[.int .u64 s0, .slice so sl sc, .int .i64 s2] := by
 cases t with
 | rs nt br live => exact ⟨_, _, _, _, _, rfl⟩
 | dg nv os root =>
  rcases h.1.row.2 with ⟨rfl, _⟩ | ⟨g, cap, cur, rfl, _⟩
  ·exact ⟨_, _, _, _, _, rfl⟩
  ·exact ⟨_, _, _, _, _, rfl⟩
set_option maxHeartbeats 3200000 in
set_option maxRecDepth 1000000 in
theorem narrowW_any (X G g cap : Nat) (szv : Value) (d : List Nat) (tv : Value) (l : Rest) (ss xs : List Value) (vars : List Int) (t : TS) (dn : List Nat) (w : World)
  (hX : Blk w X (workCells szv d tv l) 66) (hd8 : d.length = 8) (htr : TrAt w l ss xs) (hxs : xs.length ≤ 1000000)
  (hT : TAt w G g cap vars t) (h8 : dn.length = 8) (h4 : vars.length ≤ 4) (hv : ∀ i, i < vars.length → 0 ≤ vars.getD i 0 ∧ vars.getD i 0 < 8) (hd64 : ∀ q, dn.getD q 0 < 64) :
  Calls Tryz.prog 46 #[.pointer (some ⟨X, 0, none⟩), .iface t.ty (.pointer (some ⟨G, 0, none⟩)), .agg (domV dn)] w fun e w' => e = .returned (.agg (domV (tDom vars dn t))) ∧ Fr (fun k => k = G ∨ k = X ∨ l.backs.ownBlock = some k) w w' ∧
   ∃ (bv : Value) (t' : TS) (S : Nat), TS.Next vars dn t t' ∧ TAt w' G g cap vars t' ∧ Blk w' X (workCells szv d tv ⟨bv, l.starts, l.busy⟩) 66 ∧ TrAt w' ⟨bv, l.starts, l.busy⟩ ss (wrTo ss xs (backN w.heap.size S)) ∧
    Blk w' w.heap.size #[.iface t.ty (.pointer (some ⟨G, 0, none⟩))] 73 ∧ Blk w' S t.state 137 ∧ w.heap.size ≤ S ∧ (∀ k, t'.nodes k → w.heap.size ≤ k) ∧ (∀ k, bv.ownBlock = some k → l.backs.ownBlock = some k ∨ w.heap.size ≤ k) := by
 obtain ⟨v0, v1, v2, v3, v4, v5, v6, v7, hdv⟩ := domV8 h8
 obtain ⟨nd, hnd⟩ : ∃ nd, tDom vars dn t = nd := ⟨_, rfl⟩
 obtain ⟨n0, n1, n2, n3, n4, n5, n6, n7, hnv⟩ := domV8 (hnd ▸ tDom_len8 vars dn h8 t)
 obtain ⟨⟨y0, rfl⟩, ⟨y1, rfl⟩, ⟨y2, rfl⟩, ⟨y3, rfl⟩, ⟨y4, rfl⟩, ⟨y5, rfl⟩, ⟨y6, rfl⟩, ⟨y7, rfl⟩⟩ := domV_one nd hnv
 rw [hnd]
 have Hnd := hd hnd
 have Hnv := hd hnv
 clear hnd hnv
 have hXlt := hX.lt
 obtain ⟨ty, hty⟩ : ∃ ty, t.ty = ty := ⟨_, rfl⟩
 obtain ⟨W, hW⟩ : ∃ W, W = ((w.alloc (.cells #[.iface ty (.pointer (some ⟨G, 0, none⟩))] 73)).alloc (.cells (domV dn) 60)).alloc (.cells (domV zero8) 60) := ⟨_, rfl⟩
 have hfW : Nw w W := by rw [hW]; exact (((Fr.refl _ w).alloc _).alloc _).alloc _
 have hbT : Blk W w.heap.size #[.iface ty (.pointer (some ⟨G, 0, none⟩))] 73 := by rw [hW]; exact ((Blk.new _ _ _).alloc _).alloc _
 have hbD : Blk W (w.heap.size + 1) (domV dn) 60 := by
  rw [hW]
  have := (Blk.new (w.alloc (.cells #[.iface ty (.pointer (some ⟨G, 0, none⟩))] 73)) (domV dn) 60).alloc (.cells (domV zero8) 60)
  simpa using this
 have hbR : Blk W (w.heap.size + 2) (domV zero8) 60 := by
  rw [hW]
  have := Blk.new ((w.alloc (.cells #[.iface ty (.pointer (some ⟨G, 0, none⟩))] 73)).alloc (.cells (domV dn) 60)) (domV zero8) 60
  simpa using this
 have hsW : W.heap.size = w.heap.size + 3 := by rw [hW]; simp
 have hcT : W.cell? ⟨w.heap.size, 0, none⟩ = some (.iface ty (.pointer (some ⟨G, 0, none⟩))) := hbT.cell 0
 have hms := fun W => hty ▸ TS.meth_state t G W
 have HbT := hd hbT
 have HbD := hd hbD
 have HbR := hd hbR
 have HX := hd (hX.nw hfW)
 have HT := hd (hT.nw hfW)
 have Htr := hd (htr.nw hfW)
 have HW := hd hW
 have HsW := hd hsW
 have Hdv := hd hdv
 have HTw := hd hT
 have HXw := hd hX
 have Htrw := hd htr
 obtain ⟨fs, hfs⟩ : ∃ f, t.fnState = f := ⟨_, rfl⟩
 obtain ⟨s0, so, sl, sc, s2, hst⟩ := HTw.out.state_form
 have hcs := fun a W => TS.call_state t a W
 rw [hfs] at hms hcs
 rw [hty]
 clear hbT hbD hbR hX hT htr hW hsW hdv
 go_enter Tryz.func46, Tryz.ntmps46
 go_upto_region 1 with fail
 rw [show ((w.alloc (Obj.cells #[Value.iface ty (Value.pointer (some ⟨G, 0, none⟩))] 73)).alloc (Obj.cells (domV dn) 60)).alloc (Obj.cells #[Value.int .u8 0, .int .u8 0, .int .u8 0, .int .u8 0, .int .u8 0, .int .u8 0, .int .u8 0, .int .u8 0] 60) = W from HW.out.symm]
 go_wp2_with fail
 rw [← hfs]
 refine (stateT_any G g cap vars t _ HT.out).mono ?_
 rw [hst]
 rintro e w1 ⟨rfl, hf1⟩
 go_upto_region 2 with fail
 obtain ⟨U, hU⟩ : ∃ U, U = w1.alloc (.cells #[.int .u64 s0, .slice so sl sc, .int .i64 s2] 137) := ⟨_, rfl⟩
 have hfU : Nw W U := by rw [hU]; exact hf1.alloc _
 have hbS : Blk U w1.heap.size t.state 137 := by rw [hU, hst]; exact Blk.new _ _ _
 rw [← hU]
 have hsz1 := hf1.size
 obtain ⟨S, hS⟩ : ∃ S, w1.heap.size = S := ⟨_, rfl⟩
 rw [hS] at hbS hsz1 ⊢
 have hSU : S < U.heap.size := hbS.lt
 clear hU hcT hms hS hf1 hcs
 have hXU := HX.out.nw hfU
 have htrU := Htr.out.nw hfU
 have hTU := HT.out.nw hfU
 have hbTU := HbT.out.nw hfU
 have hbDU := HbD.out.nw hfU
 have hbRU := HbR.out.nw hfU
 have hsU := hfU.size
 rw [HsW.out] at hsU hsz1
 have HfU : Hid (Nw w U) := hfW.trans hfU (fun i h => h.elim)
 have hbl : ∀ k, l.backs.ownBlock = some k → k < w.heap.size := fun k hk => Htrw.out.backs.lt hk
 have HTU := hd hTU
 have HbTU := hd hbTU
 have HbDU := hd hbDU
 have HbRU := hd hbRU
 have HbS := hd hbS
 have HXU := hd hXU
 have HtrU := hd htrU
 have Hst := hd hst
 clear hTU hbTU hbDU hbRU hbS hXU htrU hfU hst
 go_wp2_with fail
 refine (write_any X szv d tv l ss xs _ _ _ _ HXU.out hd8 HtrU.out hxs).mono ?_
 rintro e w2 ⟨rfl, bv, htr2, hf2, hX2, ho2⟩
 have Ho2 := hd ho2
 clear ho2
 have hap : ∀ k, (k = G ∨ k = g ∨ t.nodes k) → ¬ (k = X ∨ l.backs.ownBlock = some k) := fun k hk => HTw.out.apart HXw.out Htrw.out.backs hk
 have hout : ∀ k, w.heap.size ≤ k → ¬ (k = X ∨ l.backs.ownBlock = some k) := fun k hk => by
  rintro (rfl | h)
  ·omega
  ·have := hbl k h
   omega
 have hT2 := HTU.out.fr hf2 hap
 have hbT2 := HbTU.out.fr hf2 (hout _ (Nat.le_refl _))
 have hbD2 := HbDU.out.fr hf2 (hout _ (by omega))
 have hbR2 := HbRU.out.fr hf2 (hout _ (by omega))
 have hbS2 := HbS.out.fr hf2 (hout _ (by omega))
 have hs2 := hf2.size
 have hcT : w2.cell? ⟨w.heap.size, 0, none⟩ = some (.iface ty (.pointer (some ⟨G, 0, none⟩))) := hbT2.cell 0
 obtain ⟨c0, c1, c2, c3, c4, c5, c6, c7⟩ := cells8 (Hdv.out ▸ hbD2)
 have hmn := fun W => hty ▸ TS.meth_narrow t G W
 have hcn := fun a W => TS.call_narrow t a W
 obtain ⟨fN, hfN⟩ : ∃ f, t.fnNarrow = f := ⟨_, rfl⟩
 rw [hfN] at hmn hcn
 have HT2 := hd hT2
 have HbT2 := hd hbT2
 have HbR2 := hd hbR2
 have HbS2 := hd hbS2
 have HX2 := hd hX2
 have Htr2 := hd htr2
 have Hf2 := hd hf2
 have Hap := hd hap
 have Hout := hd hout
 clear hT2 hbT2 hbD2 hbR2 hbS2 hX2 htr2 hf2 hap hout hbl
 go_wp2_with fail
 rw [← Hdv.out, ← hfN]
 refine (narrowT_any G g cap vars t dn _ HT2.out h8 h4 hv hd64).mono ?_
 rw [Hnd.out, Hnv.out]
 rintro e w3 ⟨rfl, hf3, t', hnx, hT3, hnew⟩
 have hGlt := HTw.out.lt (.inl rfl)
 have hR3 := HbR2.out.fr hf3 (by omega)
 obtain ⟨r0, r1, r2, r3, r4, r5, r6, r7⟩ := cells8 hR3
 have f0 : ∀ i, w3.frozen? ⟨w.heap.size + 2, i, none⟩ = false := hR3.free
 have hGX : X ≠ G := fun e => (Hap.out G (.inl rfl)) (.inl e.symm)
 have HX3 := hd (HX2.out.fr hf3 hGX)
 have HbT3 := hd (HbT2.out.fr hf3 (by omega))
 have HbS3 := hd (HbS2.out.fr hf3 (by omega))
 have Htr3 := hd (Htr2.out.fr hf3 (fun k hk e => by
   subst e
   obtain ⟨c, ty', h1, h2⟩ := HT2.out.tyG
   refine Htr2.out.starts.ne h1 ?_ hk
   rintro rfl
   revert h2
   decide) (fun k hk e => by
   subst e
   exact (HT2.out.apart HX2.out Htr2.out.backs (.inl rfl)) (.inr hk)))
 have HR3 := hd hR3
 have HT3 := hd hT3
 have HF3 : Hid (Fr (fun k => k = G ∨ k = X ∨ l.backs.ownBlock = some k) w w3) := ((HfU.out.mono (S' := fun k => k = G ∨ k = X ∨ l.backs.ownBlock = some k) (fun i h => h.elim)).trans Hf2.out (fun i h => .inl (.inr h))).trans hf3 (fun i h => .inl (.inl h))
 clear hR3 hT3 hf3 c0 c1 c2 c3 c4 c5 c6 c7 hcT hmn hcn
 go_wp2
 have hB := HR3.out.set8 0 1 2 3 4 5 6 7 (.int .u8 y0) (.int .u8 y1) (.int .u8 y2) (.int .u8 y3) (.int .u8 y4) (.int .u8 y5) (.int .u8 y6) (.int .u8 y7)
 have hF8 := HF3.out.set8 (w.heap.size + 2) 0 1 2 3 4 5 6 7 (.int .u8 y0) (.int .u8 y1) (.int .u8 y2) (.int .u8 y3) (.int .u8 y4) (.int .u8 y5) (.int .u8 y6) (.int .u8 y7) (.inr (by omega))
 have hFg := (Fr.refl (fun k => k = w.heap.size + 2) w3).set8 (w.heap.size + 2) 0 1 2 3 4 5 6 7 (.int .u8 y0) (.int .u8 y1) (.int .u8 y2) (.int .u8 y3) (.int .u8 y4) (.int .u8 y5) (.int .u8 y6) (.int .u8 y7) (.inl rfl)
 have hB' := (arr8 _ _ _ _ _ _ _ _ _ _ _ _ _ _ _ _) ▸ hB
 obtain ⟨q0, q1, q2, q3, q4, q5, q6, q7⟩ := cells8 hB'
 have hT8 := HT3.out.fr hFg (fun k hk e => by
  subst e
  obtain ⟨c, ty', h1, h2⟩ := HT3.out.tyAt hk
  have h3 := (h1.inj HR3.out).2
  subst h3
  revert h2
  decide)
 have hX8 := HX3.out.fr hFg (by omega)
 have htr8 := Htr3.out.fr hFg (fun k hk e => by
  subst e
  exact Htr3.out.starts.ne HR3.out (by decide) hk) (fun k hk e => by
  subst e
  exact Htr3.out.backs.ne HR3.out (by decide) hk)
 have hbT8 := HbT3.out.fr hFg (by omega)
 have hbS8 := HbS3.out.fr hFg (by omega)
 refine bodyPost_ret (v := .agg (domV nd)) ?_ rfl ⟨rfl, hF8, bv, t', S, hnx, hT8, hX8, htr8, hbT8, hbS8, by omega, fun k hk => ?_, fun k hk => (Ho2.out k hk).imp id (fun h => by have := HfU.out.size; omega)⟩
 ·rw [Hnv.out]
  simp [results, Tryz.results46, go_sem, q0, q1, q2, q3, q4, q5, q6, q7]
 ·have := hnew k hk
  omega
end Go.Proofs.YtkjfpdfkcfgfkaaGreat

namespace Go.Proofs.YtkjfpdfkcfgfkaaGreat
open Go.RowKit

def backR (T D : Nat) : Value := .func (.func 72) #[] #[.pointer (some ⟨D, 0, none⟩), .pointer (some ⟨T, 0, none⟩)]

set_option maxHeartbeats 1600000 in
set_option maxRecDepth 1000000 in
theorem replaceW_any (X : Nat) (szv : Value) (d : List Nat) (tv : Value) (l : Rest) (ss xs : List Value) (n : List Nat) (w : World)
  (hX : Blk w X (workCells szv d tv l) 66) (hd8 : d.length = 8) (htr : TrAt w l ss xs) (hxs : xs.length ≤ 1000000) (h8 : n.length = 8) (hd6 : ∀ x ∈ d, x < 64) (hn6 : ∀ x ∈ n, x < 64) :
  Calls Tryz.prog 45 #[.pointer (some ⟨X, 0, none⟩), .agg (domV n)] w fun e w' => e = .returned (.tuple #[]) ∧ Fr (fun k => k = X ∨ l.backs.ownBlock = some k) w w' ∧
   ((n = d ∧ Blk w' X (workCells szv d tv l) 66 ∧ TrAt w' l ss xs) ∨ (n ≠ d ∧ ∃ bv D, Blk w' X (workCells szv n tv ⟨bv, l.starts, l.busy⟩) 66 ∧ TrAt w' ⟨bv, l.starts, l.busy⟩ ss (wrTo ss xs (backR w.heap.size D)) ∧
    Blk w' w.heap.size #[.pointer (some ⟨X, 0, none⟩)] 35 ∧ Blk w' D (domV d) 60 ∧ w.heap.size ≤ D ∧ (∀ k, bv.ownBlock = some k → l.backs.ownBlock = some k ∨ w.heap.size ≤ k))) := by
 obtain ⟨v0, v1, v2, v3, v4, v5, v6, v7, hnv⟩ := domV8 h8
 obtain ⟨u0, u1, u2, u3, u4, u5, u6, u7, hdv⟩ := domV8 hd8
 obtain ⟨⟨x0, rfl⟩, ⟨x1, rfl⟩, ⟨x2, rfl⟩, ⟨x3, rfl⟩, ⟨x4, rfl⟩, ⟨x5, rfl⟩, ⟨x6, rfl⟩, ⟨x7, rfl⟩⟩ := domV_one n hnv
 obtain ⟨⟨y0, rfl⟩, ⟨y1, rfl⟩, ⟨y2, rfl⟩, ⟨y3, rfl⟩, ⟨y4, rfl⟩, ⟨y5, rfl⟩, ⟨y6, rfl⟩, ⟨y7, rfl⟩⟩ := domV_one d hdv
 have hXlt := hX.lt
 obtain ⟨W, hW⟩ : ∃ W, W = (w.alloc (.cells #[.pointer (some ⟨X, 0, none⟩)] 35)).alloc (.cells (domV n) 60) := ⟨_, rfl⟩
 have hfW : Nw w W := by rw [hW]; exact ((Fr.refl _ w).alloc _).alloc _
 have hbP : Blk W w.heap.size #[.pointer (some ⟨X, 0, none⟩)] 35 := by rw [hW]; exact (Blk.new _ _ _).alloc _
 have hbN : Blk W (w.heap.size + 1) (domV n) 60 := by
  rw [hW]
  have := Blk.new (w.alloc (.cells #[.pointer (some ⟨X, 0, none⟩)] 35)) (domV n) 60
  simpa using this
 have hsW : W.heap.size = w.heap.size + 2 := by rw [hW]; simp
 have hXW := hX.nw hfW
 obtain ⟨c0, c1, c2, c3, c4, c5, c6, c7⟩ := work8 hXW hdv
 obtain ⟨e0, e1, e2, e3, e4, e5, e6, e7⟩ := cells8 (hnv ▸ hbN)
 have hcP : W.cell? ⟨w.heap.size, 0, none⟩ = some (.pointer (some ⟨X, 0, none⟩)) := hbP.cell 0
 have HXW := hd hXW
 have HbP := hd hbP
 have HbN := hd hbN
 have HsW := hd hsW
 have HW := hd hW
 have Hnv := hd hnv
 have Hdv := hd hdv
 clear hXW hbP hbN hsW hW hnv hdv hX
 go_enter Tryz.func45, Tryz.ntmps45
 go_upto_region 1 with fail
 rw [← HW.out]
 go_upto_region 2 with fail
 obtain ⟨U, hU⟩ : ∃ U, U = W.alloc (.cells (domV d) 60) := ⟨_, rfl⟩
 have hfU : Nw W U := by rw [hU]; exact (Fr.refl _ W).alloc _
 have hbU : Blk U W.heap.size (domV d) 60 := by rw [hU]; exact Blk.new _ _ _
 rw [← Hdv.out]
 rw [← hU]
 clear hU c0 c1 c2 c3 c4 c5 c6 c7 e0 e1 e2 e3 e4 e5 e6 e7 hcP
 have hXU := HXW.out.nw hfU
 have hcP : U.cell? ⟨w.heap.size, 0, none⟩ = some (.pointer (some ⟨X, 0, none⟩)) := (HbP.out.nw hfU).cell 0
 obtain ⟨e0, e1, e2, e3, e4, e5, e6, e7⟩ := cells8 (Hnv.out ▸ (HbN.out.nw hfU))
 obtain ⟨g0, g1, g2, g3, g4, g5, g6, g7⟩ := cells8 (Hdv.out ▸ hbU)
 obtain ⟨c0, c1, c2, c3, c4, c5, c6, c7⟩ := work8 hXU Hdv.out
 have hfz : ∀ i, U.frozen? ⟨X, i, none⟩ = false := hXU.free
 have HXU := hd hXU
 have HtrU := hd ((htr.nw hfW).nw hfU)
 have Htrw := hd htr
 have HbPU := hd (HbP.out.nw hfU)
 have HbU := hd hbU
 have hsU : w.heap.size + 2 ≤ W.heap.size := by rw [HsW.out]; exact Nat.le_refl _
 clear htr
 have HfWU := hd hfU
 have HfU : Hid (Nw w U) := hfW.trans hfU (fun i h => h.elim)
 clear hbU hXU hfU hfW
 by_cases hnd : n = d
 ·have heq := eql_doms n d h8 hd8 hn6 hd6
  rw [decide_eq_true hnd, Hnv.out, Hdv.out] at heq
  have Hnd := hd hnd
  clear hnd
  go_wp2
  exact bodyPost_ret (v := .tuple #[]) (results_none rfl _ _ _) rfl ⟨rfl, HfU.out.mono (fun i h => h.elim), .inl ⟨Hnd.out, HXU.out, HtrU.out⟩⟩
 ·have heq := eql_doms n d h8 hd8 hn6 hd6
  rw [decide_eq_false hnd, Hnv.out, Hdv.out] at heq
  have Hnd := hd hnd
  clear hnd
  go_wp2_with (go_at_call 71; refine (write_any X szv d tv l ss xs _ _ _ _ HXU.out hd8 HtrU.out hxs).mono ?_; rintro e w2 ⟨rfl, bv, htr2, hf2, hX2, ho2⟩; have Ho2 := hd ho2; clear ho2; clear c0 c1 c2 c3 c4 c5 c6 c7 e0 e1 e2 e3 e4 e5 e6 e7 g0 g1 g2 g3 g4 g5 g6 g7 hcP hfz; have hbl : ∀ k, l.backs.ownBlock = some k → k < w.heap.size := (fun k hk => Htrw.out.backs.lt hk); have hout : ∀ k, w.heap.size ≤ k → ¬ (k = X ∨ l.backs.ownBlock = some k) := (fun k hk h => h.elim (fun h => by omega) (fun h => by have := hbl k h; omega)); have hbN2 := (HbN.out.nw HfWU.out).fr hf2 (hout _ (by omega)); have hbP2 := HbPU.out.fr hf2 (hout _ (Nat.le_refl _)); have hbU2 := HbU.out.fr hf2 (hout _ (by omega)); obtain ⟨e0, e1, e2, e3, e4, e5, e6, e7⟩ := cells8 (Hnv.out ▸ hbN2); obtain ⟨c0, c1, c2, c3, c4, c5, c6, c7⟩ := work8 hX2 Hdv.out; have hcP : w2.cell? ⟨w.heap.size, 0, none⟩ = some (.pointer (some ⟨X, 0, none⟩)) := hbP2.cell 0; have hfz : ∀ i, w2.frozen? ⟨X, i, none⟩ = false := hX2.free; have HX2 := hd hX2; have Htr2 := hd htr2; have Hf2 := hd hf2; have HbP2 := hd hbP2; have HbU2 := hd hbU2; clear hX2 htr2 hf2 hbP2 hbU2 hbN2 hbl hout)
  go_end0
  have hFg := (Fr.refl (fun k => k = X) w2).set8 X 1 2 3 4 5 6 7 8 (.int .u8 x0) (.int .u8 x1) (.int .u8 x2) (.int .u8 x3) (.int .u8 x4) (.int .u8 x5) (.int .u8 x6) (.int .u8 x7) (.inl rfl)
  refine ⟨rfl, ?_, .inr ⟨Hnd.out, bv, W.heap.size, ?_, Htr2.out.fr hFg (fun k hk e => ?_) (fun k hk e => ?_), HbP2.out.fr hFg (by omega), HbU2.out.fr hFg (by omega), by omega, fun k hk => (Ho2.out k hk).imp id (fun h => by have := HfU.out.size; omega)⟩⟩
  ·exact ((HfU.out.mono (S' := fun k => k = X ∨ l.backs.ownBlock = some k) (fun i h => h.elim)).trans Hf2.out (fun i h => .inl h)).set8 X 1 2 3 4 5 6 7 8 _ _ _ _ _ _ _ _ (.inl (.inl rfl))
  ·have h5 := HX2.out.set8 1 2 3 4 5 6 7 8 (.int .u8 x0) (.int .u8 x1) (.int .u8 x2) (.int .u8 x3) (.int .u8 x4) (.int .u8 x5) (.int .u8 x6) (.int .u8 x7)
   rw [workCells_put szv d tv ⟨bv, l.starts, l.busy⟩ hd8 n Hnv.out] at h5
   exact h5
  ·subst e
   exact Htr2.out.starts.ne HX2.out (by decide) hk
  ·subst e
   exact Htr2.out.backs.ne HX2.out (by decide) hk
end Go.Proofs.YtkjfpdfkcfgfkaaGreat

namespace Go.Proofs.YtkjfpdfkcfgfkaaGreat
open Go.RowKit

set_option maxHeartbeats 1600000 in
set_option maxRecDepth 1000000 in
theorem backR_any (X T D : Nat) (szv : Value) (d n : List Nat) (tv : Value) (l : Rest) (w : World) (hX : Blk w X (workCells szv n tv l) 66) (hd8 : d.length = 8) (h8 : n.length = 8)
  (hT : Blk w T #[.pointer (some ⟨X, 0, none⟩)] 35) (hD : Blk w D (domV d) 60) :
  Calls Tryz.prog 72 #[.pointer (some ⟨D, 0, none⟩), .pointer (some ⟨T, 0, none⟩)] w fun e w' => e = .returned (.tuple #[]) ∧ Fr (fun k => k = X) w w' ∧ Blk w' X (workCells szv d tv l) 66 := by
 obtain ⟨v0, v1, v2, v3, v4, v5, v6, v7, hdv⟩ := domV8 hd8
 obtain ⟨u0, u1, u2, u3, u4, u5, u6, u7, hnv⟩ := domV8 h8
 obtain ⟨⟨x0, rfl⟩, ⟨x1, rfl⟩, ⟨x2, rfl⟩, ⟨x3, rfl⟩, ⟨x4, rfl⟩, ⟨x5, rfl⟩, ⟨x6, rfl⟩, ⟨x7, rfl⟩⟩ := domV_one d hdv
 obtain ⟨c0, c1, c2, c3, c4, c5, c6, c7⟩ := work8 hX hnv
 obtain ⟨e0, e1, e2, e3, e4, e5, e6, e7⟩ := cells8 (hdv ▸ hD)
 have hcT : w.cell? ⟨T, 0, none⟩ = some (.pointer (some ⟨X, 0, none⟩)) := hT.cell 0
 have hfz : ∀ i, w.frozen? ⟨X, i, none⟩ = false := hX.free
 have HX := hd hX
 have Hdv := hd hdv
 clear hX hdv hnv hT hD
 go_enter Tryz.func72, Tryz.ntmps72
 go_wp2
 go_end0
 refine ⟨rfl, (Fr.refl _ w).set8 X 1 2 3 4 5 6 7 8 _ _ _ _ _ _ _ _ (.inl rfl), ?_⟩
 have h5 := HX.out.set8 1 2 3 4 5 6 7 8 (.int .u8 x0) (.int .u8 x1) (.int .u8 x2) (.int .u8 x3) (.int .u8 x4) (.int .u8 x5) (.int .u8 x6) (.int .u8 x7)
 rw [workCells_put szv n tv l h8 d Hdv.out] at h5
 exact h5

set_option maxHeartbeats 1600000 in
set_option maxRecDepth 1000000 in
theorem backN_any (T S G g cap : Nat) (vars : List Int) (t t0 : TS) (w : World) (h : TAt w G g cap vars t) (h0 : TS.Was w G vars t t0) (hst : ∃ (s0 : Int) (so : Option Addr) (sl sc : Nat) (s2 : Int), t0.state = #[.int .u64 s0, .slice so sl sc, .int .i64 s2])
  (hT : Blk w T #[.iface t.ty (.pointer (some ⟨G, 0, none⟩))] 73) (hS : Blk w S t0.state 137) :
  Calls Tryz.prog 73 #[.pointer (some ⟨T, 0, none⟩), .pointer (some ⟨S, 0, none⟩)] w fun e w' => e = .returned (.tuple #[]) ∧ Fr (fun k => k = G) w w' ∧ TAt w' G g cap vars t0 := by
 obtain ⟨s0, so, sl, sc, s2, hst⟩ := hst
 have hcT : w.cell? ⟨T, 0, none⟩ = some (.iface t.ty (.pointer (some ⟨G, 0, none⟩))) := hT.cell 0
 have c0 : w.cell? ⟨S, 0, none⟩ = some (.int .u64 s0) := (hS.cell 0).trans (by rw [hst]; rfl)
 have c1 : w.cell? ⟨S, 1, none⟩ = some (.slice so sl sc) := (hS.cell 1).trans (by rw [hst]; rfl)
 have c2 : w.cell? ⟨S, 2, none⟩ = some (.int .i64 s2) := (hS.cell 2).trans (by rw [hst]; rfl)
 obtain ⟨ty, hty⟩ : ∃ ty, t.ty = ty := ⟨_, rfl⟩
 rw [hty] at hcT
 have Hst := hd hst
 clear hst hT hS
 go_enter Tryz.func73, Tryz.ntmps73
 go_wp2_with fail
 rw [← Hst.out, ← hty]
 refine (putBackT_any G g cap vars t t0 _ h h0).mono ?_
 rintro e w1 ⟨rfl, hf, hT⟩
 go_wp2
 go_end0
 exact ⟨rfl, hf, hT⟩
end Go.Proofs.YtkjfpdfkcfgfkaaGreat

namespace Go.Proofs.YtkjfpdfkcfgfkaaGreat
open Go.RowKit

theorem firstAt_spec : ∀ (l : List Bool) (k : Nat), (firstAt true l k = -1 ∧ ∀ i, l.getD i false = false) ∨ ∃ i, i < l.length ∧ firstAt true l k = ((k + i : Nat) : Int) ∧ l.getD i false = true
 | [], k => .inl ⟨rfl, fun i => by simp [List.getD]⟩
 | b :: l, k => by
  cases b with
  | true => exact .inr ⟨0, by simp, by simp [firstAt], rfl⟩
  | false =>
   rcases firstAt_spec l (k + 1) with ⟨h1, h2⟩ | ⟨i, h1, h2, h3⟩
   ·refine .inl ⟨by simpa [firstAt] using h1, fun i => ?_⟩
    cases i with
    | zero => rfl
    | succ i => simpa [List.getD] using h2 i
   ·refine .inr ⟨i + 1, by simp; omega, ?_, by simpa [List.getD] using h3⟩
    have e : firstAt true (false :: l) k = firstAt true l (k + 1) := by simp [firstAt]
    rw [e, h2]
    congr 1
    omega
theorem mksV_get (m : List Bool) (i : Nat) (hi : i < m.length) : (mksV m)[i]? = some (.bool (m.getD i false)) := by
 simp [mksV, List.getD, hi]
theorem index_mks (b : Nat) (m : List Bool) (w : World) (hm : m.length = 12) (h : Blk w b (mksV m) 71) :
  Calls Tryz.prog 44 #[.slice (some ⟨b, 0, none⟩) 12 12, .bool true] w fun e w' => e = .returned (.int .i64 (firstAt true m 0)) ∧ w' = w := by
 have hc := indexBool_any b 0 12 m w (by omega) (fun i hi => by
  rw [Nat.zero_add, h.cell i]
  exact mksV_get m i hi)
 rw [hm] at hc
 exact hc
theorem empty_full {n : Nat} {d : List Nat} (hd : d.length = 8) (hn : n ≤ 8) : emptyB n d = false ↔ Full n d := by
 unfold emptyB Full
 constructor
 ·intro h q hq e
  have : (d.take n).contains 0 = true := by
   rw [List.contains_iff_mem, List.mem_iff_getElem]
   refine ⟨q, by simp; omega, ?_⟩
   have hq' : q < d.length := by omega
   simp only [List.getElem_take]
   simpa [List.getD, hq'] using e
  rw [this] at h
  cases h
 ·intro h
  cases hx : (d.take n).contains 0 with
  | false => rfl
  | true =>
   rw [List.contains_iff_mem, List.mem_iff_getElem] at hx
   obtain ⟨q, hq, e⟩ := hx
   simp at hq
   have hq' : q < d.length := by omega
   refine absurd ?_ (h q (by omega))
   simp only [List.getElem_take] at e
   simpa [List.getD, hq'] using e
end Go.Proofs.YtkjfpdfkcfgfkaaGreat

namespace Go.Proofs.YtkjfpdfkcfgfkaaGreat
open Go.RowKit

def Only (w : World) (S : Nat → Prop) (es : List TypeId) : Prop := ∀ k cur e, S k → Blk w k cur e → e ∈ es
theorem Only.one {w : World} {X : Nat} {cur : Array Value} {e : TypeId} (h : Blk w X cur e) : Only w (fun k => k = X) [e] := by
 rintro k cur' e' rfl h'
 rw [(h'.inj h).2]
 exact List.mem_singleton.2 rfl
theorem Only.or {w : World} {S S' : Nat → Prop} {es es' : List TypeId} (h : Only w S es) (h' : Only w S' es') : Only w (fun k => S k ∨ S' k) (es ++ es') := by
 rintro k cur e (hs | hs) hb
 ·exact List.mem_append_left _ (h k cur e hs hb)
 ·exact List.mem_append_right _ (h' k cur e hs hb)
theorem Only.row {w : World} {v : Value} {e : TypeId} {xs : List Value} (h : Row w v e xs) : Only w (fun k => v.ownBlock = some k) [e] := by
 intro k cur e' hk hb
 refine Classical.byContradiction fun hc => ?_
 exact h.ne hb (fun x => hc (by rw [x]; exact List.mem_singleton.2 rfl)) hk
theorem Only.mono {w : World} {S S' : Nat → Prop} {es es' : List TypeId} (h : Only w S es) (hs : ∀ k, S' k → S k) (he : ∀ e ∈ es, e ∈ es') : Only w S' es' := fun k cur e hk hb => he e (h k cur e (hs k hk) hb)
theorem Only.none (w : World) : Only w (fun _ => False) [] := fun _ _ _ h => h.elim
theorem Blk.frO {S : Nat → Prop} {w w' : World} {g : Nat} {cur : Array Value} {e : TypeId} (h : Blk w g cur e) (f : Fr S w w') {es : List TypeId} (o : Only w S es) (he : e ∉ es) : Blk w' g cur e := h.fr f (fun hs => he (o g cur e hs h))
theorem Row.frO {S : Nat → Prop} {w w' : World} {v : Value} {e : TypeId} {xs : List Value} (h : Row w v e xs) (f : Fr S w w') {es : List TypeId} (o : Only w S es) (he : e ∉ es) : Row w' v e xs := h.fr f (fun k hk hs => by
 obtain ⟨cur, hb, _⟩ := h.blk hk
 exact he (o k cur e hs hb))
theorem ownsRow.blk {w : World} {v : Value} {e : TypeId} {size n : Nat} {xs : List Value} (h : w.ownsRow 0 e size v n xs) {k : Nat} (hk : v.ownBlock = some k) : ∃ cur, Blk w k cur e := by
 rcases h.2 with ⟨rfl, _⟩ | ⟨g, cap, cur, rfl, _, hb, _⟩
 ·cases hk
 ·cases hk
  exact ⟨cur, hb⟩
theorem ownsRow.frO {S : Nat → Prop} {w w' : World} {v : Value} {e : TypeId} {size n : Nat} {xs : List Value} (h : w.ownsRow 0 e size v n xs) (f : Fr S w w') {es : List TypeId} (o : Only w S es) (he : e ∉ es) : w'.ownsRow 0 e size v n xs := ownsRow.fr h f (fun k hk hs => by
 obtain ⟨cur, hb⟩ := ownsRow.blk h hk
 exact he (o k cur e hs hb))
theorem TrAt.frO {S : Nat → Prop} {w w' : World} {l : Rest} {ss xs : List Value} (h : TrAt w l ss xs) (f : Fr S w w') {es : List TypeId} (o : Only w S es) (he : 3 ∉ es ∧ 1 ∉ es) : TrAt w' l ss xs := ⟨h.starts.frO f o he.1, h.backs.frO f o he.2⟩
def tabTys : List TypeId := [131, 125, 3, 151]
theorem TAt.frO {S : Nat → Prop} {w w' : World} {G g cap : Nat} {vars : List Int} {t : TS} (h : TAt w G g cap vars t) (f : Fr S w w') {es : List TypeId} (o : Only w S es) (he : ∀ e ∈ tabTys, e ∉ es) : TAt w' G g cap vars t := h.fr f (fun k hk hs => by
 obtain ⟨cur, e, hb, hc⟩ := h.tyAt hk
 refine he e ?_ (o k cur e hs hb)
 simp only [tabTys, List.mem_cons, List.not_mem_nil, or_false]
 exact hc)
theorem TabsAt.frO {S : Nat → Prop} {w w' : World} {so : Option Addr} {tcap : Nat} {ts : List Tab} (h : TabsAt w so tcap ts) (f : Fr S w w') {es : List TypeId} (o : Only w S es) (he : ∀ e ∈ 73 :: tabTys, e ∉ es) : TabsAt w' so tcap ts :=
 ⟨h.row.frO f o (he _ (List.mem_cons_self ..)), fun i hi => (h.at_ i hi).frO f o (fun e h' => he e (List.mem_cons_of_mem _ h')), h.four, h.ok⟩
theorem TabsAt.nw {w w' : World} {so : Option Addr} {tcap : Nat} {ts : List Tab} (h : TabsAt w so tcap ts) (f : Nw w w') : TabsAt w' so tcap ts := h.frO f (Only.none w) (fun _ _ => List.not_mem_nil)

def TS.Kin : TS → TS → Prop
 | .rs nt br _, .rs nt' br' _ => nt' = nt ∧ br' = br
 | .dg .., .dg .. => True
 | _, _ => False
theorem TS.Kin.refl (t : TS) : TS.Kin t t := by cases t <;> simp [TS.Kin]
theorem TS.Kin.trans {a b c : TS} (h : TS.Kin a b) (k : TS.Kin b c) : TS.Kin a c := by
 cases a <;> cases b <;> cases c <;> simp_all [TS.Kin]
theorem TS.Kin.symm {a b : TS} (h : TS.Kin a b) : TS.Kin b a := by
 cases a <;> cases b <;> simp_all [TS.Kin]
theorem TS.Kin.ty {a b : TS} (h : TS.Kin a b) : b.ty = a.ty := by
 cases a <;> cases b <;> simp_all [TS.Kin, TS.ty]
theorem TS.Next.kin {vars : List Int} {dn : List Nat} {t t' : TS} (h : TS.Next vars dn t t') : TS.Kin t t' := by
 cases t with
 | rs nt br live =>
  have : t' = .rs nt br (nLive br live vars dn) := h
  subst this
  exact ⟨rfl, rfl⟩
 | dg nv os root =>
  obtain ⟨nv', rfl⟩ := h
  trivial
theorem TS.Was.kin {w : World} {G : Nat} {vars : List Int} {t t' t0 : TS} (h : TS.Was w G vars t t0) (k : TS.Kin t t') : TS.Was w G vars t' t0 := by
 cases t <;> cases t' <;> cases t0 <;> simp_all [TS.Kin, TS.Was]
theorem TS.Was.kin0 {w : World} {G : Nat} {vars : List Int} {t t0 : TS} (h : TS.Was w G vars t t0) : TS.Kin t t0 := by
 cases t <;> cases t0 <;> simp_all [TS.Kin, TS.Was]
theorem TS.Was.frO {S : Nat → Prop} {w w' : World} {G : Nat} {vars : List Int} {t t0 : TS} (h : TS.Was w G vars t t0) (f : Fr S w w') {es : List TypeId} (o : Only w S es) (he : 151 ∉ es) : TS.Was w' G vars t t0 := by
 cases t <;> cases t0
 ·exact h
 ·exact h
 ·exact h
 ·exact ⟨ownsRow.frO h.1 f o he, h.2⟩
theorem TAt.was {w : World} {G g cap : Nat} {vars : List Int} {t : TS} (h : TAt w G g cap vars t) : TS.Was w G vars t t := by
 cases t with
 | rs nt br live => exact ⟨rfl, rfl, h.2.2.2.2.1⟩
 | dg nv os root => exact ⟨h.1.row, h.1.ok, h.1.two, fun e => by
   obtain ⟨cur, hb⟩ := ownsRow.blk h.1.row e
   have := (hb.inj h.1.blk).2
   revert this
   decide, h.2⟩
theorem TS.Was.form {w : World} {G : Nat} {vars : List Int} {t t0 : TS} (h : TS.Was w G vars t t0) : ∃ (s0 : Int) (so : Option Addr) (sl sc : Nat) (s2 : Int), t0.state = #[.int .u64 s0, .slice so sl sc, .int .i64 s2] := by
 cases t0 with
 | rs nt br live => exact ⟨_, _, _, _, _, rfl⟩
 | dg nv os root =>
  cases t with
  | rs nt br live => exact h.elim
  | dg nv' os' root' =>
   rcases h.1.2 with ⟨rfl, _⟩ | ⟨g, cap, cur, rfl, _⟩
   ·exact ⟨_, _, _, _, _, rfl⟩
   ·exact ⟨_, _, _, _, _, rfl⟩

structure SameT (ts ts' : List Tab) : Prop where
 len : ts'.length = ts.length
 at_ : ∀ i, i < ts.length → (ts'.getD i tab0).G = (ts.getD i tab0).G ∧ (ts'.getD i tab0).g = (ts.getD i tab0).g ∧ (ts'.getD i tab0).cap = (ts.getD i tab0).cap ∧ (ts'.getD i tab0).vars = (ts.getD i tab0).vars ∧ TS.Kin (ts.getD i tab0).t (ts'.getD i tab0).t
theorem SameT.refl (ts : List Tab) : SameT ts ts := ⟨rfl, fun _ _ => ⟨rfl, rfl, rfl, rfl, TS.Kin.refl _⟩⟩
theorem SameT.trans {a b c : List Tab} (h : SameT a b) (k : SameT b c) : SameT a c := ⟨k.len.trans h.len, fun i hi => by
 obtain ⟨h1, h2, h3, h4, h5⟩ := h.at_ i hi
 obtain ⟨k1, k2, k3, k4, k5⟩ := k.at_ i (by rw [h.len]; exact hi)
 exact ⟨k1.trans h1, k2.trans h2, k3.trans h3, k4.trans h4, h5.trans k5⟩⟩
theorem SameT.val {ts ts' : List Tab} (h : SameT ts ts') (i : Nat) (hi : i < ts.length) : (ts'.getD i tab0).val = (ts.getD i tab0).val := by
 obtain ⟨h1, _, _, _, h5⟩ := h.at_ i hi
 simp only [Tab.val, h1, h5.ty]
theorem SameT.vals {ts ts' : List Tab} (h : SameT ts ts') : ts'.map Tab.val = ts.map Tab.val := by
 refine List.ext_getElem (by simp [h.len]) fun i h1 h2 => ?_
 have hi : i < ts.length := by simpa using h2
 have hi' : i < ts'.length := by simpa using h1
 have := h.val i hi
 simpa [List.getD, hi, hi'] using this
theorem getD_setT (ts : List Tab) (k i : Nat) (x : Tab) (hk : k < ts.length) : (ts.set k x).getD i tab0 = if k = i then x else ts.getD i tab0 := by
 simp only [List.getD, List.getElem?_set]
 by_cases h : k = i
 ·subst h
  simp [hk]
 ·simp [h]
theorem SameT.set {ts : List Tab} {k : Nat} (hk : k < ts.length) {t' : TS} (h : TS.Kin (ts.getD k tab0).t t') : SameT ts (ts.set k { ts.getD k tab0 with t := t' }) := ⟨by simp, fun i hi => by
 rw [getD_setT _ _ _ _ hk]
 by_cases e : k = i
 ·subst e
  simpa using h
 ·rw [if_neg e]
  exact ⟨rfl, rfl, rfl, rfl, TS.Kin.refl _⟩⟩
theorem SameT.fits {bs : List Tb} {ts ts' : List Tab} (h : SameT ts ts') (hf : Fits bs ts) : Fits bs ts' := ⟨h.len.trans hf.1, fun k hk => by
 rw [← hf.2 k hk]
 exact (h.at_ k (by rw [hf.1]; exact hk)).2.2.2.1⟩

inductive Un where
 | n (T S k : Nat) (t0 : TS)
 | r (T D : Nat) (d0 : List Nat)
def Un.val : Un → Value
 | .n T S _ _ => backN T S
 | .r T D _ => backR T D
def Un.isN : Un → Prop
 | .n .. => True
 | .r .. => False
def Un.boxes : Un → Nat → Prop
 | .n T S _ _ => fun k => k = T ∨ k = S
 | .r T D _ => fun k => k = T ∨ k = D
def Un.At (w : World) (X : Nat) (ts : List Tab) : Un → Prop
 | .n T S k t0 => k < ts.length ∧ Blk w T #[(ts.getD k tab0).val] 73 ∧ Blk w S t0.state 137 ∧ TS.Was w (ts.getD k tab0).G (ts.getD k tab0).vars (ts.getD k tab0).t t0
 | .r T D d0 => Blk w T #[.pointer (some ⟨X, 0, none⟩)] 35 ∧ Blk w D (domV d0) 60 ∧ d0.length = 8 ∧ ∀ x ∈ d0, x < 64
def Un.undo : Un → List Nat × List TS → List Nat × List TS
 | .n _ _ k t0, s => (s.1, s.2.set k t0)
 | .r _ _ d0, s => (d0, s.2)
theorem Un.At.frO {S : Nat → Prop} {w w' : World} {X : Nat} {ts : List Tab} {u : Un} (h : u.At w X ts) (f : Fr S w w') {es : List TypeId} (o : Only w S es) (he : 73 ∉ es ∧ 137 ∉ es ∧ 151 ∉ es ∧ 35 ∉ es) (hD : u.isN ∨ 60 ∉ es) : u.At w' X ts := by
 cases u with
 | n T S' k t0 => exact ⟨h.1, h.2.1.frO f o he.1, h.2.2.1.frO f o he.2.1, h.2.2.2.frO f o he.2.2.1⟩
 | r T D d0 =>
  rcases hD with hD | hD
  ·exact hD.elim
  ·exact ⟨h.1.frO f o he.2.2.2, h.2.1.frO f o hD, h.2.2⟩
theorem Un.At.same {w : World} {X : Nat} {ts ts' : List Tab} {u : Un} (h : u.At w X ts) (s : SameT ts ts') : u.At w X ts' := by
 cases u with
 | n T S' k t0 =>
  obtain ⟨h1, h2, h3, h4⟩ := h
  obtain ⟨e1, e2, e3, e4, e5⟩ := s.at_ k h1
  refine ⟨by rw [s.len]; exact h1, by rw [s.val k h1]; exact h2, h3, ?_⟩
  rw [e1, e4]
  exact h4.kin e5
 | r T D d0 => exact h
def Inj (ts : List Tab) : Prop := ∀ i j, i < ts.length → j < ts.length → (ts.getD i tab0).G = (ts.getD j tab0).G → i = j
theorem SameT.inj {ts ts' : List Tab} (h : SameT ts ts') (k : Inj ts) : Inj ts' := fun i j hi hj e => by
 rw [h.len] at hi hj
 rw [(h.at_ i hi).1, (h.at_ j hj).1] at e
 exact k i j hi hj e
theorem TabsAt.step {S : Nat → Prop} {w w' : World} {so : Option Addr} {tcap : Nat} {ts : List Tab} (h : TabsAt w so tcap ts) (hi : Inj ts) {k : Nat} (hk : k < ts.length) {es : List TypeId} (o : Only w S es) (f : Fr (fun q => q = (ts.getD k tab0).G ∨ S q) w w')
  (he : ∀ e ∈ 73 :: tabTys, e ∉ es) {t' : TS} (kin : TS.Kin (ts.getD k tab0).t t') (ht : TAt w' (ts.getD k tab0).G (ts.getD k tab0).g (ts.getD k tab0).cap (ts.getD k tab0).vars t') : TabsAt w' so tcap (ts.set k { ts.getD k tab0 with t := t' }) := by
 have hs := SameT.set hk kin
 obtain ⟨cG, eG, hbG, hcG⟩ := (h.at_ k hk).tyG
 have oG : Only w (fun q => q = (ts.getD k tab0).G ∨ S q) (eG :: es) := (Only.one hbG).or o
 refine ⟨?_, fun i hi' => ?_, fun i hi' => ?_, fun i hi' => ?_⟩
 ·rw [hs.len, hs.vals]
  refine h.row.frO f oG ?_
  rw [List.mem_cons]
  rintro (rfl | hx)
  ·revert hcG; decide
  ·exact he _ (List.mem_cons_self ..) hx
 ·rw [List.length_set] at hi'
  rw [getD_setT _ _ _ _ hk]
  by_cases e : k = i
  ·subst e
   rw [if_pos rfl]
   exact ht
  ·rw [if_neg e]
   refine (h.at_ i hi').fr f ?_
   rintro q hq (hx | hx)
   ·obtain ⟨cur, e', hb, hc⟩ := (h.at_ i hi').tyAt hq
    subst hx
    have e2 := (hb.inj hbG).2
    rcases hq with hq | hq | hq
    ·exact e (hi k i hk hi' hq)
    ·obtain ⟨cur2, hb2, _⟩ := (show Row w (.slice (some ⟨(ts.getD i tab0).g, 0, none⟩) (ts.getD i tab0).vars.length (ts.getD i tab0).cap) 3 ((ts.getD i tab0).vars.map (Value.int .i64)) from by
      have := h.at_ i hi'
      revert this
      cases (ts.getD i tab0).t with
      | rs nt br live => exact fun h => h.2.1
      | dg nv os root => exact fun h => h.1.rv).blk (k := (ts.getD i tab0).g) rfl
     rw [hq] at hbG
     have e3 := (hb2.inj hbG).2
     subst e3
     revert hcG
     decide
    ·have h3 := h.at_ i hi'
     revert h3 hq
     cases (ts.getD i tab0).t with
     | rs nt br live => exact fun hq => hq.elim
     | dg nv os root =>
      intro h3 hq
      obtain ⟨cur2, hb2⟩ := ownsRow.blk hq.1.row h3
      have e3 := (hb2.inj hbG).2
      subst e3
      revert hcG
      decide
   ·obtain ⟨cur, e', hb, hc⟩ := (h.at_ i hi').tyAt hq
    refine he e' (List.mem_cons_of_mem _ ?_) (o q cur e' hx hb)
    simp only [tabTys, List.mem_cons, List.not_mem_nil, or_false]
    exact hc
 ·rw [List.length_set] at hi'
  rw [(hs.at_ i hi').2.2.2.1]
  exact h.four i hi'
 ·rw [List.length_set] at hi'
  rw [(hs.at_ i hi').2.2.2.1]
  exact h.ok i hi'
theorem undo_app (us : List Un) (u : Un) (s s' : List Nat × List TS) (h : u.undo s' = s) : (us ++ [u]).foldr Un.undo s' = us.foldr Un.undo s := by
 simp [List.foldr_append, h]
theorem undo_set (ts : List Tab) (k : Nat) (hk : k < ts.length) (t' : TS) (d : List Nat) (T S : Nat) : (Un.n T S k (ts.getD k tab0).t).undo (d, (ts.set k { ts.getD k tab0 with t := t' }).map Tab.t) = (d, ts.map Tab.t) := by
 simp only [Un.undo, List.map_set, List.set_set, Prod.mk.injEq, true_and]
 refine List.ext_getElem (by simp) fun i h1 h2 => ?_
 simp only [List.getElem_set, List.getElem_map]
 split
 ·rename_i e
  subst e
  simp [List.getD, hk]
 ·rfl
end Go.Proofs.YtkjfpdfkcfgfkaaGreat

namespace Go.Proofs.YtkjfpdfkcfgfkaaGreat
open Go.RowKit

def cellsOf (w : World) (g : Nat) : List Value := match w.heap[g]? with
 | some (.cells c _ _) => c.toList
 | _ => []
def natOf : Value → Nat
 | .int _ z => z.toNat
 | _ => 0
def boolOf : Value → Bool
 | .bool b => b
 | _ => false
theorem cellsOf_blk {w : World} {g : Nat} {cur : Array Value} {e : TypeId} (h : Blk w g cur e) : cellsOf w g = cur.toList := by
 have h' : w.heap[g]? = some (.cells cur e (0, 0)) := h
 simp [cellsOf, h']
def muOf (w : World) (N : Nat) : Nat := bitsOf ((cellsOf w N).map natOf) * 13 + marksOf ((cellsOf w (N + 1)).map boolOf)
theorem mu_at {w : World} {N : Nat} {next : List Nat} {m : List Bool} (h : Blk w N (domV next) 60) (h' : Blk w (N + 1) (mksV m) 71) : muOf w N = bitsOf next * 13 + marksOf m := by
 have e1 : (domV next).toList.map natOf = next := by
  exact List.ext_getElem (by simp) (fun i h1 h2 => by simp [natOf])
 have e2 : (mksV m).toList.map boolOf = m := by
  exact List.ext_getElem (by simp [mksV]) (fun i h1 h2 => by simp [mksV, boolOf])
 simp only [muOf, cellsOf_blk h, cellsOf_blk h', e1, e2]

structure SCtx where
 X : Nat
 szv : Value
 zs : List Int
 d : List Nat
 so : Option Addr
 tcap : Nat
 l : Rest
 ss : List Value
 xs : List Value
 ts : List Tab
 bs : List Tb
 start : List Nat
def SFr (X : Nat) (ts : List Tab) (bv : Value) (k : Nat) : Prop := k = X ∨ (∃ i, i < ts.length ∧ k = (ts.getD i tab0).G) ∨ bv.ownBlock = some k
def keepIf (ss xs : List Value) (us : List Un) : List Value := if ss.isEmpty then xs else xs ++ us.map Un.val
theorem keepIf_nil (ss xs : List Value) : keepIf ss xs [] = xs := by simp [keepIf]
theorem keepIf_wr (ss xs : List Value) (us : List Un) (u : Un) : wrTo ss (keepIf ss xs us) u.val = keepIf ss xs (us ++ [u]) := by
 unfold wrTo keepIf
 split <;> simp
theorem keepIf_len (ss xs : List Value) (us : List Un) : (keepIf ss xs us).length ≤ xs.length + us.length := by
 unfold keepIf
 split <;> simp
structure SMem (c : SCtx) (w wr : World) (next : List Nat) (m : List Bool) (ts : List Tab) (bv : Value) (us : List Un) : Prop where
 fr : Fr (SFr c.X c.ts c.l.backs) w wr
 own : ∀ k, bv.ownBlock = some k → c.l.backs.ownBlock = some k ∨ w.heap.size ≤ k
 blk : Blk wr c.X (workCells c.szv c.d (.slice c.so ts.length c.tcap) ⟨bv, c.l.starts, c.l.busy⟩) 66
 nx : Blk wr w.heap.size (domV next) 60
 mks : Blk wr (w.heap.size + 1) (mksV m) 71
 sz : Row wr c.szv 3 (c.zs.map (Value.int .i64))
 tabs : TabsAt wr c.so c.tcap ts
 tr : TrAt wr ⟨bv, c.l.starts, c.l.busy⟩ c.ss (keepIf c.ss c.xs us)
 same : SameT c.ts ts
 un : ∀ u ∈ us, u.At wr c.X ts ∧ u.isN
 new : ∀ u ∈ us, ∀ k, u.boxes k → w.heap.size ≤ k
 back : us.foldr Un.undo (c.d, ts.map Tab.t) = (c.d, c.ts.map Tab.t)
theorem SMem.wr {c : SCtx} {w wr wr' : World} {next next' : List Nat} {m m' : List Bool} {ts : List Tab} {bv : Value} {us : List Un} {S : Nat → Prop} (h : SMem c w wr next m ts bv us) (f : Fr S wr wr') (o : Only wr S [71, 60]) (hs : ∀ k, S k → w.heap.size ≤ k)
  (nx' : Blk wr' w.heap.size (domV next') 60) (mk' : Blk wr' (w.heap.size + 1) (mksV m') 71) : SMem c w wr' next' m' ts bv us :=
 ⟨h.fr.trans f (fun i hi => .inr (hs i hi)), h.own, h.blk.frO f o (by decide), nx', mk', h.sz.frO f o (by decide), h.tabs.frO f o (by decide), h.tr.frO f o (by decide), h.same, fun u hu => ⟨(h.un u hu).1.frO f o (by decide) (.inl (h.un u hu).2), (h.un u hu).2⟩, h.new, h.back⟩
theorem SMem.nw {c : SCtx} {w wr wr' : World} {next : List Nat} {m : List Bool} {ts : List Tab} {bv : Value} {us : List Un} (h : SMem c w wr next m ts bv us) (f : Nw wr wr') : SMem c w wr' next m ts bv us :=
 h.wr f ((Only.none wr).mono (fun _ x => x) (fun _ x => by cases x)) (fun _ x => x.elim) (h.nx.nw f) (h.mks.nw f)
theorem SMem.only {c : SCtx} {w wr : World} {next : List Nat} {m : List Bool} {ts : List Tab} {bv : Value} {us : List Un} (h : SMem c w wr next m ts bv us) {k : Nat} (hk : k < ts.length) :
  Only wr (fun q => q = (ts.getD k tab0).G ∨ q = c.X ∨ bv.ownBlock = some q) [131, 125, 66, 1] := by
 obtain ⟨cG, eG, hbG, hcG⟩ := (h.tabs.at_ k hk).tyG
 have oR : Only wr (fun q => q = c.X ∨ bv.ownBlock = some q) [66, 1] := (Only.one h.blk).or (Only.row h.tr.backs)
 refine ((Only.one hbG).or oR).mono (fun _ x => x) ?_
 intro e he
 rcases hcG with rfl | rfl
 ·revert e; decide
 ·revert e; decide
theorem SMem.reads {c : SCtx} {w wr : World} {next : List Nat} {m : List Bool} {ts : List Tab} {bv : Value} {us : List Un} (h : SMem c w wr next m ts bv us) (hd8 : c.d.length = 8) {k : Nat} (hk : k < ts.length) {tb : Nat} (hso : c.so = some ⟨tb, 0, none⟩) :
  wr.cell? ⟨c.X, 9, none⟩ = some (.slice (some ⟨tb, 0, none⟩) ts.length c.tcap) ∧ wr.cell? ⟨tb, k, none⟩ = some (ts.getD k tab0).val ∧ Blk wr w.heap.size (domV next) 60 := by
 refine ⟨(h.blk.cell 9).trans ((workCells_tabs _ _ _ _ hd8).trans (by rw [hso])), ?_, h.nx⟩
 have hr := h.tabs.row
 rw [hso] at hr
 rw [(hr.at_ k (by simpa using hk)).1]
 simp [List.getD, hk]
theorem SMem.narrowed {c : SCtx} {w wr w3 : World} {next : List Nat} {m : List Bool} {ts : List Tab} {bv bv' : Value} {us : List Un} (h : SMem c w wr next m ts bv us) (hinj : Inj c.ts) {k : Nat} (hk : k < ts.length) {t' : TS} {T S : Nat} (kin : TS.Kin (ts.getD k tab0).t t')
  (f : Fr (fun q => q = (ts.getD k tab0).G ∨ q = c.X ∨ bv.ownBlock = some q) wr w3) (hT : TAt w3 (ts.getD k tab0).G (ts.getD k tab0).g (ts.getD k tab0).cap (ts.getD k tab0).vars t')
  (hX : Blk w3 c.X (workCells c.szv c.d (.slice c.so ts.length c.tcap) ⟨bv', c.l.starts, c.l.busy⟩) 66) (htr : TrAt w3 ⟨bv', c.l.starts, c.l.busy⟩ c.ss (wrTo c.ss (keepIf c.ss c.xs us) (backN T S)))
  (hbT : Blk w3 T #[(ts.getD k tab0).val] 73) (hbS : Blk w3 S (ts.getD k tab0).t.state 137) (hown : ∀ q, bv'.ownBlock = some q → bv.ownBlock = some q ∨ wr.heap.size ≤ q) (hTl : wr.heap.size ≤ T) (hSl : wr.heap.size ≤ S) :
  SMem c w w3 next m (ts.set k { ts.getD k tab0 with t := t' }) bv' (us ++ [Un.n T S k (ts.getD k tab0).t]) := by
 have hs := SameT.set hk kin
 have oR : Only wr (fun q => q = c.X ∨ bv.ownBlock = some q) [66, 1] := (Only.one h.blk).or (Only.row h.tr.backs)
 have o := h.only hk
 have hk0 : k < c.ts.length := by rw [← h.same.len]; exact hk
 refine ⟨h.fr.trans f ?_, fun q hq => ?_, ?_, h.nx.frO f o (by decide), h.mks.frO f o (by decide), h.sz.frO f o (by decide), h.tabs.step (h.same.inj hinj) hk oR f (by decide) kin hT, ?_, h.same.trans hs, ?_, ?_, ?_⟩
 ·rintro i (rfl | rfl | hi)
  ·exact .inl (.inr (.inl ⟨k, hk0, (h.same.at_ k hk0).1⟩))
  ·exact .inl (.inl rfl)
  ·exact (h.own i hi).imp (fun x => .inr (.inr x)) id
 ·rcases hown q hq with h1 | h1
  ·exact h.own q h1
  ·exact .inr (Nat.le_trans h.fr.size h1)
 ·rw [hs.len]
  exact hX
 ·rw [← keepIf_wr]
  exact htr
 ·intro u hu
  rcases List.mem_append.1 hu with hu | hu
  ·exact ⟨((h.un u hu).1.frO f o (by decide) (.inl (h.un u hu).2)).same hs, (h.un u hu).2⟩
  ·rw [List.mem_singleton] at hu
   subst hu
   refine ⟨Un.At.same (ts := ts) ⟨hk, hbT, hbS, ?_⟩ hs, trivial⟩
   exact (h.tabs.at_ k hk).was.frO f o (by decide)
 ·intro u hu q hq
  rcases List.mem_append.1 hu with hu | hu
  ·exact h.new u hu q hq
  ·rw [List.mem_singleton] at hu
   subst hu
   have := h.fr.size
   rcases hq with rfl | rfl
   ·omega
   ·omega
 ·rw [undo_app _ _ (c.d, ts.map Tab.t) _ (undo_set ts k hk t' c.d T S)]
  exact h.back
structure Settled (c : SCtx) (B : Nat) (w w' : World) (d' : List Nat) (bv : Value) (ts : List Tab) (us : List Un) : Prop where
 fr : Fr (SFr c.X c.ts c.l.backs) w w'
 own : ∀ k, bv.ownBlock = some k → c.l.backs.ownBlock = some k ∨ w.heap.size ≤ k
 blk : Blk w' c.X (workCells c.szv d' (.slice c.so ts.length c.tcap) ⟨bv, c.l.starts, c.l.busy⟩) 66
 sz : Row w' c.szv 3 (c.zs.map (Value.int .i64))
 tabs : TabsAt w' c.so c.tcap ts
 tr : TrAt w' ⟨bv, c.l.starts, c.l.busy⟩ c.ss (keepIf c.ss c.xs us)
 same : SameT c.ts ts
 un : ∀ u ∈ us, u.At w' c.X ts
 new : ∀ u ∈ us, ∀ k, u.boxes k → w.heap.size ≤ k
 back : us.foldr Un.undo (d', ts.map Tab.t) = (c.d, c.ts.map Tab.t)
 clo : Closure c.zs.length c.bs c.start d'
 dm : Dm d'
 rep : ∀ k, k < c.bs.length → TRep (c.bs.getD k tb0) d' (ts.getD k tab0).t
 cnt : us.length + bitsOf d' * 13 ≤ B + (if d' = c.d then 0 else 1)
theorem SMem.replaced {c : SCtx} {w wr w' : World} {next n : List Nat} {m : List Bool} {ts : List Tab} {bv : Value} {us : List Un} (h : SMem c w wr next m ts bv us) {B : Nat} (hd8 : c.d.length = 8) (hd6 : ∀ x ∈ c.d, x < 64)
  (hclo : Closure c.zs.length c.bs c.start n) (hdm : Dm n) (hrep : ∀ k, k < c.bs.length → TRep (c.bs.getD k tb0) n (ts.getD k tab0).t) (hcnt : us.length + bitsOf n * 13 ≤ B)
  (f : Fr (fun k => k = c.X ∨ bv.ownBlock = some k) wr w') {tv : Value} (htv : tv = .slice c.so ts.length c.tcap)
  (hp : (n = c.d ∧ Blk w' c.X (workCells c.szv c.d tv ⟨bv, c.l.starts, c.l.busy⟩) 66 ∧ TrAt w' ⟨bv, c.l.starts, c.l.busy⟩ c.ss (keepIf c.ss c.xs us)) ∨ (n ≠ c.d ∧ ∃ bv' D, Blk w' c.X (workCells c.szv n tv ⟨bv', c.l.starts, c.l.busy⟩) 66 ∧ TrAt w' ⟨bv', c.l.starts, c.l.busy⟩ c.ss (wrTo c.ss (keepIf c.ss c.xs us) (backR wr.heap.size D)) ∧
    Blk w' wr.heap.size #[.pointer (some ⟨c.X, 0, none⟩)] 35 ∧ Blk w' D (domV c.d) 60 ∧ wr.heap.size ≤ D ∧ (∀ k, bv'.ownBlock = some k → bv.ownBlock = some k ∨ wr.heap.size ≤ k))) :
  ∃ bv us, Settled c B w w' n bv ts us := by
 subst htv
 have o : Only wr (fun q => q = c.X ∨ bv.ownBlock = some q) [66, 1] := (Only.one h.blk).or (Only.row h.tr.backs)
 have hfr := h.fr.trans f (fun i hi => hi.elim (fun e => .inl (.inl e)) (fun e => (h.own i e).imp (fun x => .inr (.inr x)) id))
 have hun : ∀ u ∈ us, u.At w' c.X ts := fun u hu => (h.un u hu).1.frO f o (by decide) (.inl (h.un u hu).2)
 rcases hp with ⟨rfl, hX, htr⟩ | ⟨hne, bv', D, hX, htr, hbP, hbD, hDl, hown⟩
 ·exact ⟨bv, us, hfr, h.own, hX, h.sz.frO f o (by decide), h.tabs.frO f o (by decide), htr, h.same, hun, h.new, h.back, hclo, hdm, hrep, by rw [if_pos rfl]; exact hcnt⟩
 ·refine ⟨bv', us ++ [Un.r wr.heap.size D c.d], hfr, fun q hq => ?_, hX, h.sz.frO f o (by decide), h.tabs.frO f o (by decide), ?_, h.same, fun u hu => ?_, fun u hu q hq => ?_, ?_, hclo, hdm, hrep, ?_⟩
  ·rcases hown q hq with h1 | h1
   ·exact h.own q h1
   ·exact .inr (Nat.le_trans h.fr.size h1)
  ·rw [← keepIf_wr]
   exact htr
  ·rcases List.mem_append.1 hu with hu | hu
   ·exact hun u hu
   ·rw [List.mem_singleton] at hu
    subst hu
    exact ⟨hbP, hbD, hd8, hd6⟩
  ·rcases List.mem_append.1 hu with hu | hu
   ·exact h.new u hu q hq
   ·rw [List.mem_singleton] at hu
    subst hu
    have := h.fr.size
    rcases hq with rfl | rfl
    ·omega
    ·omega
  ·rw [undo_app _ _ (c.d, ts.map Tab.t) _ rfl]
   exact h.back
  ·rw [if_neg hne, List.length_append]
   simp only [List.length_singleton]
   omega
end Go.Proofs.YtkjfpdfkcfgfkaaGreat

namespace Go.Proofs.YtkjfpdfkcfgfkaaGreat
open Go.RowKit

theorem Dm.mem {d : List Nat} (h : Dm d) : ∀ x ∈ d, x < 64 := by
 intro x hx
 obtain ⟨i, hi, e⟩ := List.getElem_of_mem hx
 have := h.lt i
 simpa [List.getD, hi, e] using this
theorem zero8_dm : Dm zero8 := ⟨rfl, fun q => by rw [zero8_get]; decide⟩
theorem zero8_sub (d : List Nat) : SubD zero8 d := fun q v h => by rw [zero8_get] at h; simp at h
theorem bits_zero8 : bitsOf zero8 = 0 := by decide

set_option maxHeartbeats 6400000 in
set_option maxRecDepth 1000000 in
theorem settle_any (c : SCtx) (next : List Nat) (m : List Bool) (w : World)
  (hX : Blk w c.X (workCells c.szv c.d (.slice c.so c.ts.length c.tcap) c.l) 66) (hsz : Row w c.szv 3 (c.zs.map (Value.int .i64))) (hz0 : 0 < c.zs.length) (hzl : c.zs.length ≤ 8) (hd8 : c.d.length = 8) (hd6 : ∀ x ∈ c.d, x < 64)
  (ht : TabsAt w c.so c.tcap c.ts) (hinj : Inj c.ts) (h12 : c.ts.length ≤ 12) (hm : m.length = 12) (hmo : ∀ k, c.ts.length ≤ k → m.getD k false = false)
  (htr : TrAt w c.l c.ss c.xs) (hxs : c.xs.length + (bitsOf next * 13 + marksOf m) ≤ 900000) (hS : SInv c.bs c.ts m c.start next) (hb : TbsOk c.zs.length c.bs) (hf : Fits c.bs c.ts) :
  Calls Tryz.prog 27 #[.pointer (some ⟨c.X, 0, none⟩), .agg (domV next), .agg (mksV m)] w fun e w' => e = .returned (.tuple #[]) ∧ ∃ d' bv ts us, Settled c (bitsOf next * 13 + marksOf m) w w' d' bv ts us := by
 obtain ⟨B, hB⟩ : ∃ B, bitsOf next * 13 + marksOf m = B := ⟨_, rfl⟩
 rw [hB] at hxs ⊢
 obtain ⟨W, hW⟩ : ∃ W, W = (w.alloc (.cells (domV next) 60)).alloc (.cells (mksV m) 71) := ⟨_, rfl⟩
 have hfW : Nw w W := by rw [hW]; exact ((Fr.refl _ w).alloc _).alloc _
 have hbN : Blk W w.heap.size (domV next) 60 := by rw [hW]; exact (Blk.new _ _ _).alloc _
 have hbM : Blk W (w.heap.size + 1) (mksV m) 71 := by
  rw [hW]
  have := Blk.new (w.alloc (.cells (domV next) 60)) (mksV m) 71
  simpa using this
 have hM0 : SMem c w W next m c.ts c.l.backs [] := ⟨hfW.mono (fun i h => h.elim), fun k hk => .inl hk, hX.nw hfW, hbN, hbM, hsz.nw hfW, ht.nw hfW, by rw [keepIf_nil]; exact htr.nw hfW, SameT.refl _, fun u hu => (by cases hu), fun u hu => (by cases hu), rfl⟩
 have hXlt := hX.lt
 have HW := hd hW
 have H0 : Hid (∃ next m ts bv us, Hid (SMem c w W next m ts bv us) ∧ Hid (SInv c.bs ts m c.start next) ∧ Hid (us.length + (bitsOf next * 13 + marksOf m) ≤ B) ∧ Hid (m.length = 12) ∧ Hid (∀ k, c.ts.length ≤ k → m.getD k false = false)) :=
  ⟨next, m, c.ts, c.l.backs, [], hM0, hS, by show 0 + _ ≤ B; omega, hm, hmo⟩
 have hsm := slice_marks (w.heap.size + 1)
 have Hb := hd hb
 have Hf := hd hf
 have Hinj := hd hinj
 have Hd6 := hd hd6
 clear hX hsz ht htr hbN hbM hW hM0 hfW hS hm hmo hB hb hf hinj hd6
 go_enter Tryz.func27, Tryz.ntmps27
 go_wp2_with fail
 rw [← HW.out]
 go_loopw [] (fun wr => ∃ next m ts bv us, Hid (SMem c w wr next m ts bv us) ∧ Hid (SInv c.bs ts m c.start next) ∧ Hid (us.length + (bitsOf next * 13 + marksOf m) ≤ B) ∧ Hid (m.length = 12) ∧ Hid (∀ k, c.ts.length ≤ k → m.getD k false = false)) (fun wr => muOf wr w.heap.size)
 case atStart => exact H0
 case round =>
  obtain ⟨next, m, ts, bv, us, HM, HS, HC, Hml, Hmo⟩ := hrel
  clear H0 HW
  have h8 : next.length = 8 := HS.out.dm.len
  obtain ⟨v0, v1, v2, v3, v4, v5, v6, v7, hdv⟩ := domV8 h8
  obtain ⟨⟨x0, rfl⟩, ⟨x1, rfl⟩, ⟨x2, rfl⟩, ⟨x3, rfl⟩, ⟨x4, rfl⟩, ⟨x5, rfl⟩, ⟨x6, rfl⟩, ⟨x7, rfl⟩⟩ := domV_one next hdv
  obtain ⟨c0, c1, c2, c3, c4, c5, c6, c7⟩ := cells8 (hdv ▸ HM.out.nx)
  have Hdv := hd hdv
  have hxl : (keepIf c.ss c.xs us).length ≤ 1000000 := by
   have h1 := keepIf_len c.ss c.xs us
   have h2 := HC.out
   omega
  clear hdv
  go_wp2_with fail
  rw [← Hdv.out]
  refine (emptied_any c.X c.szv c.d _ _ c.zs next _ HM.out.blk HM.out.sz hzl h8).mono ?_
  have hef := empty_full (n := c.zs.length) h8 hzl
  cases hE : emptyB c.zs.length next with
  | true =>
   have Hnf : Hid (¬ Full c.zs.length next) := fun h => by rw [hef.2 h] at hE; cases hE
   clear hef hE
   rintro e w1 ⟨rfl, hf1⟩
   have HM1 := hd (HM.out.nw hf1)
   clear hf1 c0 c1 c2 c3 c4 c5 c6 c7
   go_wp2_with (go_at_call 45; refine (replaceW_any c.X c.szv c.d _ ⟨bv, c.l.starts, c.l.busy⟩ c.ss (keepIf c.ss c.xs us) zero8 _ HM1.out.blk hd8 HM1.out.tr hxl rfl Hd6.out zero8_dm.mem).mono ?_; rintro e w2 ⟨rfl, hf2, hp2⟩)
   go_end0
   obtain ⟨bv', us', hset⟩ := HM1.out.replaced (B := B) hd8 Hd6.out (HS.out.dead hz0 Hnf.out) zero8_dm (fun k hk => (HS.out.rep k hk).mono (zero8_sub _)) (by rw [bits_zero8]; have := HC.out; omega) hf2 rfl hp2
   exact ⟨rfl, zero8, bv', ts, us', hset⟩
  | false =>
   have Hfull : Hid (Full c.zs.length next) := hef.1 hE
   clear hef hE
   rintro e w1 ⟨rfl, hf1⟩
   have HM1 := hd (HM.out.nw hf1)
   clear hf1 c0 c1 c2 c3 c4 c5 c6 c7
   rcases firstAt_spec m 0 with ⟨hfi, hq⟩ | ⟨k, hk12, hfi, hkm⟩
   ·obtain ⟨c0, c1, c2, c3, c4, c5, c6, c7⟩ := cells8 (Hdv.out ▸ HM1.out.nx)
    have Hfi := hd hfi
    have Hq := hd hq
    clear hfi hq
    go_wp2_with (first
     | (go_at_call 44; refine (index_mks (w.heap.size + 1) m _ Hml.out HM1.out.mks).mono ?_; rw [Hfi.out]; rintro e w2 ⟨rfl, rfl⟩)
     | (go_at_call 45; rw [← Hdv.out]; refine (replaceW_any c.X c.szv c.d _ ⟨bv, c.l.starts, c.l.busy⟩ c.ss (keepIf c.ss c.xs us) next _ HM1.out.blk hd8 HM1.out.tr hxl h8 Hd6.out HS.out.dm.mem).mono ?_; rintro e w3 ⟨rfl, hf3, hp3⟩))
    obtain ⟨bv', us', hset⟩ := HM1.out.replaced (B := B) hd8 Hd6.out (HS.out.done Hfull.out (fun k _ => Hq.out k)) HS.out.dm HS.out.rep (by have := HC.out; omega) hf3 rfl hp3
    exact bodyPost_ret (v := .tuple #[]) (results_none rfl _ _ _) rfl ⟨rfl, next, bv', ts, us', hset⟩
   ·have hkt : k < ts.length := by
     refine Classical.byContradiction fun hc => ?_
     have h1 := Hmo.out k (by rw [← HM.out.same.len]; omega)
     rw [h1] at hkm
     cases hkm
    have hfi' : firstAt true m 0 = (k : Int) := by rw [hfi, Nat.zero_add]
    have Hfi := hd hfi'
    have Hkm := hd hkm
    clear hfi hfi' hkm
    go_wp2_with (go_at_call 44; refine (index_mks (w.heap.size + 1) m _ Hml.out HM1.out.mks).mono ?_; rw [Hfi.out]; rintro e w2 ⟨rfl, rfl⟩)
    have hro := HM1.out.tabs.row
    obtain ⟨tb, tc, hso, _, hck, _⟩ := hro.cell k (by simpa using hkt)
    have hso' : c.so = some ⟨tb, 0, none⟩ := by simp at hso; exact hso.1
    obtain ⟨x, hx⟩ : ∃ x, ts.getD k tab0 = x := ⟨_, rfl⟩
    have hxk : ts[k] = x := by rw [← hx]; simp [List.getD, hkt]
    have hcI : w2.cell? ⟨tb, k, none⟩ = some (.iface x.t.ty (.pointer (some ⟨x.G, 0, none⟩))) := by
     rw [hck]
     simp only [List.getElem_map, hxk]
     rfl
    have hcT : w2.cell? ⟨c.X, 9, none⟩ = some (.slice (some ⟨tb, 0, none⟩) ts.length c.tcap) := (HM1.out.blk.cell 9).trans ((workCells_tabs _ _ _ _ hd8).trans (by rw [hso']))
    have htbl : tb < w2.heap.size := by
     have := hro.lt (k := tb) (by rw [hso']; rfl)
     exact this
    have hXl2 := HM1.out.blk.lt
    have hNl2 := HM1.out.nx.lt
    have hMl2 := HM1.out.mks.lt
    obtain ⟨ty, hty⟩ : ∃ ty, x.t.ty = ty := ⟨_, rfl⟩
    rw [hty] at hcI
    obtain ⟨nd, hnd⟩ : ∃ nd, tDom x.vars next x.t = nd := ⟨_, rfl⟩
    have hn8 : nd.length = 8 := by rw [← hnd]; exact tDom_len8 _ _ h8 _
    obtain ⟨n0, n1, n2, n3, n4, n5, n6, n7, hnv⟩ := domV8 hn8
    obtain ⟨⟨y0, rfl⟩, ⟨y1, rfl⟩, ⟨y2, rfl⟩, ⟨y3, rfl⟩, ⟨y4, rfl⟩, ⟨y5, rfl⟩, ⟨y6, rfl⟩, ⟨y7, rfl⟩⟩ := domV_one nd hnv
    have hat := HM1.out.tabs.at_ k hkt
    have h4 := HM1.out.tabs.four k hkt
    have hok := HM1.out.tabs.ok k hkt
    rw [hx] at hat h4 hok
    have hk31 : (k : Int) < ts.length := by omega
    have hts12 : ts.length ≤ 12 := by rw [HM1.out.same.len]; exact h12
    have Hat := hd hat
    have Hok := hd hok
    have Hnd := hd hnd
    have Hnv := hd hnv
    have Hty := hd hty
    have Hx := hd hx
    clear hro hso hck hxk hat hok hnd hnv hty hx
    go_cut [7] (fun p wx => ∃ N, p = .pointer (some ⟨N, 0, none⟩) ∧ Hid (Blk wx N (domV nd) 60) ∧ ∃ t' bv' T S, Hid (TS.Next x.vars next x.t t') ∧ Hid (SMem c w wx next m (ts.set k { x with t := t' }) bv' (us ++ [Un.n T S k x.t])) ∧ w.heap.size + 2 ≤ N)
    case first =>
     have hKx : ∀ (wa : World) (ts' : List Tab) (bv' : Value) (us' : List Un), SMem c w wa next m ts' bv' us' → ts'.length = ts.length → (ts'.getD k tab0).val = .iface ty (.pointer (some ⟨x.G, 0, none⟩)) → wa.cell? ⟨c.X, 9, none⟩ = some (.slice (some ⟨tb, 0, none⟩) ts.length c.tcap) ∧ wa.cell? ⟨tb, k, none⟩ = some (.iface ty (.pointer (some ⟨x.G, 0, none⟩))) ∧ Blk wa w.heap.size (domV next) 60 := by
      intro wa ts' bv' us' hm hl hv
      have h := hm.reads hd8 (k := k) (by omega) hso'
      rw [hl, hv] at h
      exact h
     have hval : (ts.getD k tab0).val = .iface ty (.pointer (some ⟨x.G, 0, none⟩)) := by rw [Hx.out, ← Hty.out]; rfl
     have hval' : ∀ t', TS.Kin x.t t' → ((ts.set k { x with t := t' }).getD k tab0).val = .iface ty (.pointer (some ⟨x.G, 0, none⟩)) := by
      intro t' ht'
      rw [getD_setT _ _ _ _ hkt, if_pos rfl, ← Hty.out]
      show Value.iface t'.ty _ = _
      rw [ht'.ty]
     have HMd : Hid (SMem c w w2.drew next m ts bv us) := HM1.out.nw ((Fr.refl _ w2).drew)
     have hK0 := hKx _ _ _ _ HMd.out rfl hval
     refine wp_region_held (S := fun w' => w'.cell? ⟨c.X, 9, none⟩ = some (.slice (some ⟨tb, 0, none⟩) ts.length c.tcap) ∧ w'.cell? ⟨tb, k, none⟩ = some (.iface ty (.pointer (some ⟨x.G, 0, none⟩))) ∧ Blk w' w.heap.size (domV next) 60) (by kernel_rfl) ?_
     refine wpAnyH_take (i := 0) (v := .pointer (some ⟨c.X, 0, none⟩)) rfl (by kernel_rfl) (by kernel_rfl) (by kernel_rfl) (fun _ _ _ h => h) (.inl ⟨by kernel_rfl, fun w' _ => rfl⟩) hK0 ?_
     refine wpAnyH_take (i := 1) (v := .pointer (some ⟨c.X, 0, none⟩)) rfl (by kernel_rfl) (by kernel_rfl) (by kernel_rfl) (fun _ _ _ h => h) (.inl ⟨by kernel_rfl, fun w' _ => rfl⟩) hK0 ?_
     refine wpAnyH_take (i := 2) (v := .pointer (some ⟨c.X, 0, none⟩)) rfl (by kernel_rfl) (by kernel_rfl) (by kernel_rfl) (fun _ _ _ h => h) (.inl ⟨by kernel_rfl, fun w' hS => by kernel_rfl⟩) hK0 ?_
     refine wpAnyH_take (i := 3) (v := .pointer (some ⟨c.X, 9, none⟩)) rfl (by kernel_rfl) (by kernel_rfl) (by kernel_rfl) (fun _ _ _ h => h) (.inl ⟨by kernel_rfl, fun w' hS => by kernel_rfl⟩) hK0 ?_
     refine wpAnyH_take (i := 4) (v := .slice (some ⟨tb, 0, none⟩) ts.length c.tcap) rfl (by kernel_rfl) (by kernel_rfl) (by kernel_rfl) (fun _ _ _ h => h) (.inl ⟨by kernel_rfl, fun w' hS => ?_⟩) hK0 ?_
     ·have hc := hS.1
      clear hS hK0 hKx hval hval' hcT hcI hso'
      go_simp
     refine wpAnyH_take (i := 5) (v := .int .i64 (k : Int)) rfl (by kernel_rfl) (by kernel_rfl) (by kernel_rfl) (fun _ _ _ h => h) (.inl ⟨by kernel_rfl, fun w' hS => rfl⟩) hK0 ?_
     refine wpAnyH_take (i := 6) (v := .pointer (some ⟨tb, k, none⟩)) rfl (by kernel_rfl) (by kernel_rfl) (by kernel_rfl) (fun _ _ _ h => h) (.inl ⟨by kernel_rfl, fun w' hS => ?_⟩) hK0 ?_
     ·clear hS hK0 hKx hval hval' hcT hcI hso'
      simp only [Act.put, List.setIfInBounds_toArray, List.set_cons_zero, List.set_cons_succ, List.getElem_toArray, List.getElem_cons_zero, List.getElem_cons_succ]
      go_simp
     refine wpAnyH_take (i := 7) (v := .iface ty (.pointer (some ⟨x.G, 0, none⟩))) rfl (by kernel_rfl) (by kernel_rfl) (by kernel_rfl) (fun _ _ _ h => h) (.inl ⟨by kernel_rfl, fun w' hS => ?_⟩) hK0 ?_
     ·have hc := hS.2.1
      clear hS hK0 hKx hval hval' hcT hcI hso'
      go_simp
     refine wpAnyH_take (i := 8) (v := .agg (domV next)) rfl (by kernel_rfl) (by kernel_rfl) (by kernel_rfl) (fun _ _ _ h => h) (.inl ⟨by kernel_rfl, fun w' hS => ?_⟩) hK0 ?_
     ·obtain ⟨k0, k1, k2, k3, k4, k5, k6, k7⟩ := cells8 (Hdv.out ▸ hS.2.2)
      clear hS hK0 hKx hval hval' hcT hcI hso'
      rw [Hdv.out]
      go_simp
     refine wpAnyH_all (rs := [9, 10]) (by kernel_rfl) (by simp) (fun i hi => ?_)
     rcases List.mem_cons.1 hi with rfl | hi
     ·refine op_enter (f := 46) (args := #[.pointer (some ⟨c.X, 0, none⟩), .iface ty (.pointer (some ⟨x.G, 0, none⟩)), .agg (domV next)]) (w' := w2.drew) rfl (by kernel_rfl) (by kernel_rfl) ?_
      have hnar := narrowW_any c.X x.G x.g x.cap c.szv c.d _ _ c.ss _ x.vars x.t next _ HMd.out.blk hd8 HMd.out.tr hxl (Hat.out.nw ((Fr.refl _ w2).drew)) h8 h4 Hok.out HS.out.dm.lt
      rw [Hty.out, Hnd.out] at hnar
      refine hnar.mono ?_
      clear hnar
      rintro e w3 ⟨rfl, hf3, bv', t', S, hnx, hT3, hX3, htr3, hbT3, hbS3, hSl, _, hown⟩
      have hM3 := HMd.out.narrowed Hinj.out hkt (t' := t') (T := w2.drew.heap.size) (S := S) (by rw [Hx.out]; exact hnx.kin) (by rw [Hx.out]; exact hf3) (by rw [Hx.out]; exact hT3) hX3 htr3 (by rw [hval]; exact hbT3) (by rw [Hx.out]; exact hbS3) hown (Nat.le_refl _) hSl
      rw [Hx.out] at hM3
      have hs3 : w2.heap.size ≤ w3.heap.size := hf3.size
      have hK1 := hKx _ _ _ _ hM3 (by simp) (hval' t' hnx.kin)
      refine ⟨_, rfl, hK1, ?_⟩
      refine wpAnyH_all (rs := [10]) (by kernel_rfl) (by simp) (fun i hi => ?_)
      rcases List.mem_cons.1 hi with rfl | hi
      ·obtain ⟨Y, hY⟩ : ∃ Y, Y = w3.alloc (.cells (domV zero8) 60) := ⟨_, rfl⟩
       have hfY : Nw w3 Y := by rw [hY]; exact (Fr.refl _ w3).alloc _
       have hZ : Blk Y w3.heap.size (domV zero8) 60 := by rw [hY]; exact Blk.new _ _ _
       have hMY := hM3.nw hfY
       have hKY := hKx _ _ _ _ hMY (by simp) (hval' t' hnx.kin)
       refine op_value (v := .pointer (some ⟨w3.heap.size, 0, none⟩)) (w' := Y) rfl (by kernel_rfl) ?_ ⟨hKY, ?_⟩
       ·rw [hY]
        kernel_rfl
       ·refine wpAnyH_all (rs := [11]) (by kernel_rfl) (by simp) (fun i hi => ?_)
        rcases List.mem_cons.1 hi with rfl | hi
        ·have hF8 := (Fr.refl (fun k => k = w3.heap.size) Y).set8 w3.heap.size 0 1 2 3 4 5 6 7 (.int .u8 y0) (.int .u8 y1) (.int .u8 y2) (.int .u8 y3) (.int .u8 y4) (.int .u8 y5) (.int .u8 y6) (.int .u8 y7) (.inl rfl)
         have hB8 := hZ.put8 Hnv.out
         obtain ⟨q0, q1, q2, q3, q4, q5, q6, q7⟩ := cells8 hZ
         have hfz := hZ.free
         have hM8 := hMY.wr hF8 ((Only.one hZ).mono (fun _ x => x) (by decide)) (fun k hk => by omega) (hMY.nx.fr hF8 (by omega)) (hMY.mks.fr hF8 (by omega))
         have hK8 := hKx _ _ _ _ hM8 (by simp) (hval' t' hnx.kin)
         clear hY
         refine op_skip (w' := _) rfl (by kernel_rfl) ?_ ⟨hK8, wpAnyH_done (by kernel_rfl) ?_ _⟩
         ·clear hK1 hK0 hKY hf3 hF8 hB8 hM8 hK8 hMY hM3 hX3 hT3 hbT3 hbS3 htr3 hval hval' hKx hcT hcI hso' hnx hown
          rw [Hnv.out]
          go_simp
         ·simp only [Act.put, List.setIfInBounds_toArray, List.set_cons_zero, List.set_cons_succ, List.getElem_toArray, List.getElem_cons_zero, List.getElem_cons_succ]
          go_wp2_with fail
          go_meet
          case rel => exact ⟨w3.heap.size, rfl, hB8, t', bv', _, S, hnx, hM8, by omega⟩
        ·simp at hi
      ·simp at hi
     ·rcases List.mem_cons.1 hi with rfl | hi
      ·obtain ⟨Y, hY⟩ : ∃ Y, Y = w2.drew.alloc (.cells (domV zero8) 60) := ⟨_, rfl⟩
       have hfY : Nw w2 Y := by rw [hY]; exact ((Fr.refl _ w2).drew).alloc _
       have hZ : Blk Y w2.heap.size (domV zero8) 60 := by rw [hY]; exact Blk.new _ _ _
       have hMY := HM1.out.nw hfY
       have hKY := hKx _ _ _ _ hMY rfl hval
       refine op_value (v := .pointer (some ⟨w2.heap.size, 0, none⟩)) (w' := Y) rfl (by kernel_rfl) ?_ ⟨hKY, ?_⟩
       ·rw [hY]
        kernel_rfl
       ·refine wpAnyH_all (rs := [9]) (by kernel_rfl) (by simp) (fun i hi => ?_)
        rcases List.mem_cons.1 hi with rfl | hi
        ·refine op_enter (f := 46) (args := #[.pointer (some ⟨c.X, 0, none⟩), .iface ty (.pointer (some ⟨x.G, 0, none⟩)), .agg (domV next)]) (w' := Y) rfl (by kernel_rfl) (by kernel_rfl) ?_
         have hnar := narrowW_any c.X x.G x.g x.cap c.szv c.d _ _ c.ss _ x.vars x.t next _ hMY.blk hd8 hMY.tr hxl (Hat.out.nw hfY) h8 h4 Hok.out HS.out.dm.lt
         rw [Hty.out, Hnd.out] at hnar
         refine hnar.mono ?_
         clear hnar
         rintro e w3 ⟨rfl, hf3, bv', t', S, hnx, hT3, hX3, htr3, hbT3, hbS3, hSl, _, hown⟩
         have hM3 := hMY.narrowed Hinj.out hkt (t' := t') (T := Y.heap.size) (S := S) (by rw [Hx.out]; exact hnx.kin) (by rw [Hx.out]; exact hf3) (by rw [Hx.out]; exact hT3) hX3 htr3 (by rw [hval]; exact hbT3) (by rw [Hx.out]; exact hbS3) hown (Nat.le_refl _) hSl
         rw [Hx.out] at hM3
         have hs3 := hf3.size
         have hK1 := hKx _ _ _ _ hM3 (by simp) (hval' t' hnx.kin)
         refine ⟨_, rfl, hK1, ?_⟩
         refine wpAnyH_all (rs := [11]) (by kernel_rfl) (by simp) (fun i hi => ?_)
         rcases List.mem_cons.1 hi with rfl | hi
         ·have hZ3 := hZ.frO hf3 (Hx.out ▸ hMY.only hkt) (by decide)
          have hF8 := (Fr.refl (fun k => k = w2.heap.size) w3).set8 w2.heap.size 0 1 2 3 4 5 6 7 (.int .u8 y0) (.int .u8 y1) (.int .u8 y2) (.int .u8 y3) (.int .u8 y4) (.int .u8 y5) (.int .u8 y6) (.int .u8 y7) (.inl rfl)
          have hB8 := hZ3.put8 Hnv.out
          obtain ⟨q0, q1, q2, q3, q4, q5, q6, q7⟩ := cells8 hZ3
          have hfz := hZ3.free
          have hM8 := hM3.wr hF8 ((Only.one hZ3).mono (fun _ x => x) (by decide)) (fun k hk => by omega) (hM3.nx.fr hF8 (by omega)) (hM3.mks.fr hF8 (by omega))
          have hK8 := hKx _ _ _ _ hM8 (by simp) (hval' t' hnx.kin)
          clear hY
          refine op_skip (w' := _) rfl (by kernel_rfl) ?_ ⟨hK8, wpAnyH_done (by kernel_rfl) ?_ _⟩
          ·clear hK1 hK0 hKY hf3 hF8 hB8 hM8 hK8 hMY hM3 hX3 hT3 hbT3 hbS3 htr3 hval hval' hKx hcT hcI hso' hnx hown hZ hZ3
           rw [Hnv.out]
           go_simp
          ·simp only [Act.put, List.setIfInBounds_toArray, List.set_cons_zero, List.set_cons_succ, List.getElem_toArray, List.getElem_cons_zero, List.getElem_cons_succ]
           go_wp2_with fail
           go_meet
           case rel => exact ⟨w2.heap.size, rfl, hB8, t', bv', _, S, hnx, hM8, by omega⟩
         ·simp at hi
        ·simp at hi
      ·simp at hi
    case rest =>
     obtain ⟨N, rfl, hN, t', bv', T, S, HNx, HM3, hNl⟩ := hcut
     clear hcT hcI
     have hlen : (ts.set k { x with t := t' }).length = ts.length := by simp
     obtain ⟨ts', hts'⟩ : ∃ ts', ts.set k { x with t := t' } = ts' := ⟨_, rfl⟩
     obtain ⟨us', hus'⟩ : ∃ us', us ++ [Un.n T S k x.t] = us' := ⟨_, rfl⟩
     have hM3 := HM3.out
     rw [hts', hus'] at hM3
     rw [hts'] at hlen
     obtain ⟨c0, c1, c2, c3, c4, c5, c6, c7⟩ := cells8 (Hdv.out ▸ hM3.nx)
     obtain ⟨k0, k1, k2, k3, k4, k5, k6, k7⟩ := cells8 (Hnv.out ▸ hN.out)
     have hwk : ∀ j, wakeTo ts' next nd m j = wakeTo ts next nd m j := by
      intro j
      induction j with
      | zero => rfl
      | succ j ih =>
       have e : (ts'.getD j tab0).vars = (ts.getD j tab0).vars := by
        rw [← hts', getD_setT _ _ _ _ hkt]
        by_cases e : k = j
        ·subst e
         rw [if_pos rfl, Hx.out]
        ·rw [if_neg e]
       simp only [wakeTo, ih, e]
     have Hwk := hd hwk
     have Hts' := hd hts'
     have Hus' := hd hus'
     have HM3' := hd hM3
     have hst : ∀ o, c.so = some o → o.block ≠ w.heap.size + 1 := fun o ho e => by
      have h1 := hM3.tabs.row
      refine h1.ne hM3.mks (by decide) ?_
      rw [hso'] at ho ⊢
      cases ho
      exact congrArg some e
     have hnM : ∀ i, i < ts'.length → (ts'.getD i tab0).G ≠ w.heap.size + 1 ∧ (ts'.getD i tab0).g ≠ w.heap.size + 1 := fun i hi => by
      have h1 := hM3.tabs.at_ i hi
      refine ⟨fun e => ?_, fun e => ?_⟩
      ·obtain ⟨cu, e', hb', hc'⟩ := h1.tyAt (.inl rfl)
       rw [e] at hb'
       have := (hb'.inj hM3.mks).2
       subst this
       revert hc'
       decide
      ·obtain ⟨cu, e', hb', hc'⟩ := h1.tyAt (.inr (.inl rfl))
       rw [e] at hb'
       have := (hb'.inj hM3.mks).2
       subst this
       revert hc'
       decide
     have Hst := hd hst
     have HnM := hd hnM
     clear HM3 hts' hus' hM3 hwk hst hnM
     go_wp2_with fail
     rw [← Hdv.out, ← Hnv.out]
     refine (wake_any c.X (w.heap.size + 1) c.so c.tcap c.szv c.d _ ts' next nd m _ HM3'.out.blk hd8 HM3'.out.tabs (by omega) Hml.out HnM.out Hst.out h8 hn8 HM3'.out.mks).mono ?_
     rw [Hwk.out, hlen]
     rintro e w4 ⟨rfl, hf4, hM4⟩
     have hN4 := hN.out.fr hf4 (by omega)
     have hS4 := HM3'.out.wr hf4 ((Only.one HM3'.out.mks).mono (fun _ x => x) (by decide)) (fun k hk => by omega) (HM3'.out.nx.fr hf4 (by omega)) hM4
     have hwl : (wakeTo ts next nd m ts.length).length = 12 := by rw [wakeTo_length]; exact Hml.out
     obtain ⟨bm, hbm⟩ : ∃ b, w4.cell? ⟨w.heap.size + 1, k, none⟩ = some b := ⟨_, (hM4.cell k).trans (mksV_get _ _ (by omega))⟩
     have hfm := hM4.free k
     have hk12' : k < 12 := by omega
     have HS4 := hd hS4
     have HN4 := hd hN4
     have HM4 := hd hM4
     have Hwl := hd hwl
     clear hf4 hS4 hN4 hM4 hwl c0 c1 c2 c3 c4 c5 c6 c7 k0 k1 k2 k3 k4 k5 k6 k7
     go_upto_region 8 with fail
     obtain ⟨U, hU⟩ : ∃ U, U = w4.setCell ⟨w.heap.size + 1, k, none⟩ (.bool false) := ⟨_, rfl⟩
     have hfU : Fr (fun k => k = w.heap.size + 1) w4 U := by rw [hU]; exact (Fr.refl _ w4).setCell _ _ (.inl rfl)
     have hMU : Blk U (w.heap.size + 1) (mksV ((wakeTo ts next nd m ts.length).set k false)) 71 := by
      have h5 := HM4.out.set k (.bool false)
      have e6 : mksV ((wakeTo ts next nd m ts.length).set k false) = (mksV (wakeTo ts next nd m ts.length)).setIfInBounds k (.bool false) := by simp [mksV, List.map_set]
      rw [hU, e6]
      exact h5
     rw [← hU]
     have hSU := HS4.out.wr hfU ((Only.one HM4.out).mono (fun _ x => x) (by decide)) (fun k hk => by omega) (HS4.out.nx.fr hfU (by omega)) hMU
     have hNU := HN4.out.fr hfU (by omega)
     obtain ⟨c0, c1, c2, c3, c4, c5, c6, c7⟩ := cells8 (Hdv.out ▸ hSU.nx)
     obtain ⟨k0, k1, k2, k3, k4, k5, k6, k7⟩ := cells8 (Hnv.out ▸ hNU)
     have hfz := hSU.nx.free
     have hB8 := Blk.set8 (cur := #[Value.int .u8 x0, Value.int .u8 x1, Value.int .u8 x2, Value.int .u8 x3, Value.int .u8 x4, Value.int .u8 x5, Value.int .u8 x6, Value.int .u8 x7]) (Hdv.out ▸ hSU.nx) 0 1 2 3 4 5 6 7 (.int .u8 y0) (.int .u8 y1) (.int .u8 y2) (.int .u8 y3) (.int .u8 y4) (.int .u8 y5) (.int .u8 y6) (.int .u8 y7)
     rw [arr8, ← Hnv.out] at hB8
     have hF8 := (Fr.refl (fun k => k = w.heap.size) U).set8 w.heap.size 0 1 2 3 4 5 6 7 (.int .u8 y0) (.int .u8 y1) (.int .u8 y2) (.int .u8 y3) (.int .u8 y4) (.int .u8 y5) (.int .u8 y6) (.int .u8 y7) (.inl rfl)
     have hSV := hSU.wr hF8 ((Only.one hSU.nx).mono (fun _ x => x) (by decide)) (fun k hk => by omega) hB8 (hMU.fr hF8 (by omega))
     have HSV := hd hSV
     have HB8 := hd hB8
     have HMV := hd (hMU.fr hF8 (by omega))
     clear hU hMU hSU hNU hB8 hF8 hfU hbm hfm hSV
     go_wp2_with fail
     have hfits := HM.out.same.fits Hf.out
     have hkb : k < c.bs.length := by rw [← hfits.1]; exact hkt
     have hblen : c.bs.length ≤ m.length := by rw [← hfits.1, HM.out.same.len, Hml.out]; exact h12
     have hstep := HS.out.step Hb.out hfits hblen Hfull.out hkb (t' := t') (by rw [Hx.out]; exact HNx.out)
     rw [Hx.out, Hnd.out, Hts'.out] at hstep
     have hsub : SubD nd next := by
      have hv := hfits.2 k hkb
      have hr := HS.out.rep k hkb
      rw [Hx.out] at hv hr
      rw [← Hnd.out, hv]
      exact tDom_sub (Hb.out k hkb).1 HS.out.dm hr (full_out Hfull.out (Hb.out k hkb).2)
     have hless := round_less (ts := ts) Hml.out HS.out.dm hstep.dm hsub Hkm.out
     refine ⟨⟨nd, (wakeTo ts next nd m ts.length).set k false, ts', bv', us', HSV.out, hstep, ?_, ?_, ?_⟩, ?_⟩
     ·show us'.length + _ ≤ B
      have h1 := HC.out
      rw [← Hus'.out, List.length_append]
      simp only [List.length_singleton]
      omega
     ·show List.length _ = 12
      rw [List.length_set]
      exact Hwl.out
     ·show ∀ j, c.ts.length ≤ j → _
      intro j hj
      rw [getD_setB]
      split
      ·rfl
      ·have hw := wakeTo_get ts next nd m (by rw [HM.out.same.len, Hml.out]; exact h12) j ts.length (Nat.le_refl _)
       cases hx : (wakeTo ts next nd m ts.length).getD j false with
       | false => rfl
       | true =>
        rcases hw.1 hx with h1 | ⟨h1, _⟩
        ·rw [Hmo.out j hj] at h1
         cases h1
        ·rw [HM.out.same.len] at h1
         omega
     ·rw [mu_at HSV.out.nx HSV.out.mks, mu_at HM.out.nx HM.out.mks]
      exact hless
end Go.Proofs.YtkjfpdfkcfgfkaaGreat
