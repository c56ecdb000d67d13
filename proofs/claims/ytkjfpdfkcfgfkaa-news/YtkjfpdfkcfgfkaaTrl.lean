/- Contracts at level 0: Level, Write, State of a table of Way 1, narrow, replace. -/
import Derived.Test.YtkjfpdfkcfgfkaaWake
import Derived.Stop.BytesEq
namespace Go.Proofs.Ytkjfpdfkcfgfkaa
open Go.RowKit

set_option maxHeartbeats 400000 in
theorem level_any (X : Nat) (so : Option Addr) (n sc : Nat) (w : World) (h : w.cell? ⟨X, 11, none⟩ = some (.slice so n sc)) :
    Calls Try.prog 36 #[.pointer (some ⟨X, 10, none⟩)] w fun e w' => e = .returned (.int .i64 n) ∧ w' = w := by
  go_enter Try.func36, Try.ntmps36
  go_wp2
  go_ret
  exact ⟨rfl, rfl⟩

set_option maxHeartbeats 400000 in
/-- Outside all levels Write keeps nothing. -/
theorem write_none (X : Nat) (so : Option Addr) (sc : Nat) (fv : Value) (w : World) (h : w.cell? ⟨X, 11, none⟩ = some (.slice so 0 sc)) :
    Calls Try.prog 78 #[.pointer (some ⟨X, 10, none⟩), fv] w fun e w' => e = .returned (.tuple #[]) ∧ w' = w := by
  go_enter Try.func78, Try.ntmps78
  go_wp2_with (go_at_call 36; refine (level_any X so 0 sc _ h).mono ?_; rintro e w' ⟨rfl, rfl⟩)
  go_end0
  exact ⟨rfl, rfl⟩

set_option maxHeartbeats 400000 in
theorem state_any (G : Nat) (vv : Value) (nt : Bool) (br : List Nat) (live : Nat) (w : World) (hG : Blk w G (rsCells vv nt br live) 142) (h24 : br.length = 24) :
    Calls Try.prog 114 #[.pointer (some ⟨G, 0, none⟩)] w fun e w' => e = .returned (.agg #[.int .u64 live, .slice none 0 0, .int .i64 0]) ∧ Nw w w' := by
  have h1 : w.cell? ⟨G, 26, none⟩ = some (.int .u64 (live : Int)) := (hG.cell 26).trans (by simp [rsCells, h24])
  have hGlt := hG.lt
  clear hG
  go_enter Try.func114, Try.ntmps114
  go_wp2
  refine bodyPost_ret (v := .agg #[.int .u64 live, .slice none 0 0, .int .i64 0]) ?_ rfl ⟨rfl, (Fr.refl _ w).alloc _⟩
  simp [results, Try.results114, go_sem]

theorem meth_state (G : Nat) (W : World) : (method 286 115 (.pointer (some ⟨G, 0, none⟩)) "State").run Try.prog W = .ok (114, .pointer (some ⟨G, 0, none⟩)) W := by kernel_rfl

set_option maxHeartbeats 1600000 in
set_option maxRecDepth 1000000 in
/-- narrow at a table of Way 1 (not Not), at level 0. -/
theorem narrow1_any (X G g cap : Nat) (szv : Value) (d : List Nat) (tv : Value) (l : Rest) (so : Option Addr) (sc : Nat) (br : List Nat) (live : Nat) (vars : List Int) (dn : List Nat) (w : World)
    (hX : Blk w X (workCells szv d tv l) 82) (hd8 : d.length = 8) (hl : l.starts = .slice so 0 sc)
    (hG : Blk w G (rsCells (.slice (some ⟨g, 0, none⟩) vars.length cap) false br live) 142)
    (hvs : Row w (.slice (some ⟨g, 0, none⟩) vars.length cap) 3 (vars.map (Value.int .i64)))
    (h8 : dn.length = 8) (h24 : br.length = 24) (hbr : ∀ j, br.getD j 0 < 18446744073709551616) (hlive : live < 18446744073709551616)
    (h4 : vars.length ≤ 4) (hv : ∀ i, i < vars.length → 0 ≤ vars.getD i 0 ∧ vars.getD i 0 < 8) (hd64 : ∀ q, dn.getD q 0 < 64) :
    Calls Try.prog 68 #[.pointer (some ⟨X, 0, none⟩), .iface 115 (.pointer (some ⟨G, 0, none⟩)), .agg (domV dn)] w fun e w' => e = .returned (.agg (domV (nDom br live vars dn))) ∧ Fr (fun k => k = G) w w' ∧
      Blk w' G (rsCells (.slice (some ⟨g, 0, none⟩) vars.length cap) false br (nLive br live vars dn)) 142 := by
  obtain ⟨v0, v1, v2, v3, v4, v5, v6, v7, hdv⟩ := domV8 h8
  obtain ⟨nd, hnd⟩ : ∃ nd, nDom br live vars dn = nd := ⟨_, rfl⟩
  have hn8 : nd.length = 8 := by rw [← hnd]; simp only [nDom, replTo_length]; exact h8
  obtain ⟨n0, n1, n2, n3, n4, n5, n6, n7, hnv⟩ := domV8 hn8
  obtain ⟨⟨y0, rfl⟩, ⟨y1, rfl⟩, ⟨y2, rfl⟩, ⟨y3, rfl⟩, ⟨y4, rfl⟩, ⟨y5, rfl⟩, ⟨y6, rfl⟩, ⟨y7, rfl⟩⟩ := domV_one nd hnv
  rw [hnd]
  have hXlt := hX.lt
  have hGlt := hG.lt
  have hglt : g < w.heap.size := hvs.lt rfl
  have hXG : X ≠ G := fun e => by subst e; have := (hX.inj hG).2; revert this; decide
  have hgG : g ≠ G := fun e => by subst e; exact hvs.ne hG (by decide) rfl
  obtain ⟨W, hW⟩ : ∃ W, W = ((w.alloc (.cells #[.iface 115 (.pointer (some ⟨G, 0, none⟩))] 93)).alloc (.cells (domV dn) 76)).alloc (.cells (domV zero8) 76) := ⟨_, rfl⟩
  have hfW : Nw w W := by rw [hW]; exact (((Fr.refl _ w).alloc _).alloc _).alloc _
  have hbT : Blk W w.heap.size #[.iface 115 (.pointer (some ⟨G, 0, none⟩))] 93 := by rw [hW]; exact ((Blk.new _ _ _).alloc _).alloc _
  have hbD : Blk W (w.heap.size + 1) (domV dn) 76 := by
    rw [hW]
    have := (Blk.new (w.alloc (.cells #[.iface 115 (.pointer (some ⟨G, 0, none⟩))] 93)) (domV dn) 76).alloc (.cells (domV zero8) 76)
    simpa using this
  have hbR : Blk W (w.heap.size + 2) (domV zero8) 76 := by
    rw [hW]
    have := Blk.new ((w.alloc (.cells #[.iface 115 (.pointer (some ⟨G, 0, none⟩))] 93)).alloc (.cells (domV dn) 76)) (domV zero8) 76
    simpa using this
  have hsW : W.heap.size = w.heap.size + 3 := by rw [hW]; simp
  have hcT : W.cell? ⟨w.heap.size, 0, none⟩ = some (.iface 115 (.pointer (some ⟨G, 0, none⟩))) := hbT.cell 0
  have hms := meth_state G
  have HbT := hd hbT
  have HbD := hd hbD
  have HbR := hd hbR
  have HX := hd (hX.nw hfW)
  have HG := hd (hG.nw hfW)
  have Hvs := hd (hvs.nw hfW)
  have HW := hd hW
  have HsW := hd hsW
  have Hdv := hd hdv
  have Hnd := hd hnd
  have Hnv := hd hnv
  clear hbT hbD hbR hX hG hvs hW hsW hdv hnd hnv
  go_enter Try.func68, Try.ntmps68
  go_upto_region 1 with fail
  rw [show ((w.alloc (Obj.cells #[Value.iface 115 (Value.pointer (some ⟨G, 0, none⟩))] 93)).alloc (Obj.cells (domV dn) 76)).alloc (Obj.cells #[Value.int .u8 0, .int .u8 0, .int .u8 0, .int .u8 0, .int .u8 0, .int .u8 0, .int .u8 0, .int .u8 0] 76) = W from HW.out.symm]
  go_wp2_with (go_at_call 114; refine (state_any G _ false br live _ HG.out h24).mono ?_; rintro e w1 ⟨rfl, hf1⟩)
  obtain ⟨U, hU⟩ : ∃ U, U = w1.alloc (.cells #[.int .u64 (live : Int), .slice none 0 0, .int .i64 0] 148) := ⟨_, rfl⟩
  have hfU : Nw W U := by rw [hU]; exact hf1.alloc _
  rw [← hU]
  clear hU hcT hms
  have hXU := HX.out.nw hfU
  have hcL : U.cell? ⟨X, 11, none⟩ = some (.slice so 0 sc) := (hXU.cell 11).trans ((workCells_starts _ _ _ _ hd8).trans (by rw [hl]))
  have hcT : U.cell? ⟨w.heap.size, 0, none⟩ = some (.iface 115 (.pointer (some ⟨G, 0, none⟩))) := (HbT.out.nw hfU).cell 0
  obtain ⟨c0, c1, c2, c3, c4, c5, c6, c7⟩ := cells8 (Hdv.out ▸ (HbD.out.nw hfU))
  have hmn := meth_narrow G
  have HGU := hd (HG.out.nw hfU)
  have HvU := hd (Hvs.out.nw hfU)
  have HRU := hd (HbR.out.nw hfU)
  have hsU : w.heap.size + 3 ≤ U.heap.size := by have := hfU.size; have := HsW.out; omega
  have HfU : Hid (Nw w U) := hfW.trans hfU (fun i h => h.elim)
  clear hXU hfU hf1
  refine (write_none X so sc _ _ hcL).mono ?_
  rintro e w2 ⟨rfl, rfl⟩
  go_wp2_with fail
  rw [← Hdv.out]
  refine (narrow_any G g cap br live vars dn _ HGU.out HvU.out h8 h24 hbr hlive h4 hv hd64).mono ?_
  rw [Hnd.out, Hnv.out]
  rintro e w3 ⟨rfl, hf3, hG3⟩
  have hR3 := HRU.out.fr hf3 (by omega)
  obtain ⟨s0, s1, s2, s3, s4, s5, s6, s7⟩ := cells8 hR3
  have f0 : ∀ i, w3.frozen? ⟨w.heap.size + 2, i, none⟩ = false := hR3.free
  have HR3 := hd hR3
  have HG3 := hd hG3
  have HF3 : Hid (Fr (fun k => k = G) w w3) := (HfU.out.mono (fun i h => h.elim)).trans hf3 (fun i h => .inl h)
  clear hR3 hG3 hf3 c0 c1 c2 c3 c4 c5 c6 c7 hcL hcT hmn
  go_wp2
  have hB := HR3.out.set8 0 1 2 3 4 5 6 7 (.int .u8 y0) (.int .u8 y1) (.int .u8 y2) (.int .u8 y3) (.int .u8 y4) (.int .u8 y5) (.int .u8 y6) (.int .u8 y7)
  have hF8 := HF3.out.set8 (w.heap.size + 2) 0 1 2 3 4 5 6 7 (.int .u8 y0) (.int .u8 y1) (.int .u8 y2) (.int .u8 y3) (.int .u8 y4) (.int .u8 y5) (.int .u8 y6) (.int .u8 y7) (.inr (by omega))
  have hFg := (Fr.refl (fun k => k = w.heap.size + 2) w3).set8 (w.heap.size + 2) 0 1 2 3 4 5 6 7 (.int .u8 y0) (.int .u8 y1) (.int .u8 y2) (.int .u8 y3) (.int .u8 y4) (.int .u8 y5) (.int .u8 y6) (.int .u8 y7) (.inl rfl)
  have hG8 := HG3.out.fr hFg (by omega)
  have hB' := (arr8 _ _ _ _ _ _ _ _ _ _ _ _ _ _ _ _) ▸ (show Blk _ _ (((((((((#[Value.int .u8 0, Value.int .u8 0, Value.int .u8 0, Value.int .u8 0, Value.int .u8 0, Value.int .u8 0, Value.int .u8 0, Value.int .u8 0] : Array Value).setIfInBounds 0 (.int .u8 y0)).setIfInBounds 1 (.int .u8 y1)).setIfInBounds 2 (.int .u8 y2)).setIfInBounds 3 (.int .u8 y3)).setIfInBounds 4 (.int .u8 y4)).setIfInBounds 5 (.int .u8 y5)).setIfInBounds 6 (.int .u8 y6)).setIfInBounds 7 (.int .u8 y7)) _ from hB)
  rw [show w.heap.size + 2 = w.heap.size + 1 + 1 from rfl] at hB' hF8 hG8
  clear hB
  generalize hX8 : ((((((((w3.setCell ⟨w.heap.size + 1 + 1, 0, none⟩ (Value.int .u8 y0)).setCell ⟨w.heap.size + 1 + 1, 1, none⟩ (Value.int .u8 y1)).setCell ⟨w.heap.size + 1 + 1, 2, none⟩ (Value.int .u8 y2)).setCell ⟨w.heap.size + 1 + 1, 3, none⟩ (Value.int .u8 y3)).setCell ⟨w.heap.size + 1 + 1, 4, none⟩ (Value.int .u8 y4)).setCell ⟨w.heap.size + 1 + 1, 5, none⟩ (Value.int .u8 y5)).setCell ⟨w.heap.size + 1 + 1, 6, none⟩ (Value.int .u8 y6)).setCell ⟨w.heap.size + 1 + 1, 7, none⟩ (Value.int .u8 y7)) = X8 at hB' hF8 hG8 ⊢
  obtain ⟨q0, q1, q2, q3, q4, q5, q6, q7⟩ := cells8 hB'
  refine bodyPost_ret (v := .agg (domV nd)) ?_ rfl ⟨rfl, hF8, hG8⟩
  rw [Hnv.out]
  simp [results, Try.results68, go_sem, q0, q1, q2, q3, q4, q5, q6, q7]

theorem Try.arrDomains : Try.prog.underlying 76 = some (.array 8 74) := by kernel_rfl
theorem Try.underSet : Try.prog.underlying 74 = some (.int .u8) := by kernel_rfl
theorem domV_bytes (d : List Nat) (h : ∀ x ∈ d, x < 64) : domV d = ((d.map UInt8.ofNat).map Extern.Stop.cell).toArray := by
  simp only [domV, List.map_map]
  congr 1
  refine List.map_congr_left (fun x hx => ?_)
  have := h x hx
  simp [Extern.Stop.cell, UInt8.toNat_ofNat', Nat.mod_eq_of_lt (show x < 256 by omega)]
theorem bytes_inj : ∀ (a b : List Nat), (∀ x ∈ a, x < 64) → (∀ x ∈ b, x < 64) → a.map UInt8.ofNat = b.map UInt8.ofNat → a = b
  | [], [], _, _, _ => rfl
  | [], _ :: _, _, _, h => by simp at h
  | _ :: _, [], _, _, h => by simp at h
  | x :: a, y :: b, ha, hb, h => by
    simp only [List.map_cons, List.cons.injEq] at h
    have h1 := congrArg UInt8.toNat h.1
    have hx := ha x (by simp)
    have hy := hb y (by simp)
    rw [UInt8.toNat_ofNat', UInt8.toNat_ofNat', Nat.mod_eq_of_lt (by omega), Nat.mod_eq_of_lt (by omega)] at h1
    rw [h1, bytes_inj a b (fun z hz => ha z (by simp [hz])) (fun z hz => hb z (by simp [hz])) h.2]
/-- == of domains. -/
theorem eql_doms (a b : List Nat) (ha : a.length = 8) (hb : b.length = 8) (ha6 : ∀ x ∈ a, x < 64) (hb6 : ∀ x ∈ b, x < 64) (w : World) :
    (binOp .eql 76 (.agg (domV a)) (.agg (domV b))).run Try.prog w = .ok (.bool (decide (a = b))) w := by
  rw [domV_bytes a ha6, domV_bytes b hb6, run_eql_bytes w 76 74 8 Try.arrDomains Try.underSet (fun w => by kernel_rfl) _ _ (by simpa using ha) (by simpa using hb)]
  congr 2
  rw [Bool.eq_iff_iff]
  simp only [beq_iff_eq, decide_eq_true_eq]
  exact ⟨bytes_inj a b ha6 hb6, fun h => by rw [h]⟩

theorem workCells_lit (szv tv : Value) (l : Rest) (d0 d1 d2 d3 d4 d5 d6 d7 n0 n1 n2 n3 n4 n5 n6 n7 : Nat) :
    (((((((((workCells szv [d0, d1, d2, d3, d4, d5, d6, d7] tv l).setIfInBounds 1 (Value.int .u8 (n0 : Int))).setIfInBounds 2 (Value.int .u8 (n1 : Int))).setIfInBounds 3 (Value.int .u8 (n2 : Int))).setIfInBounds 4 (Value.int .u8 (n3 : Int))).setIfInBounds 5 (Value.int .u8 (n4 : Int))).setIfInBounds 6 (Value.int .u8 (n5 : Int))).setIfInBounds 7 (Value.int .u8 (n6 : Int))).setIfInBounds 8 (Value.int .u8 (n7 : Int))) = workCells szv [n0, n1, n2, n3, n4, n5, n6, n7] tv l := by
  simp [workCells]
theorem lit8 {n0 n1 n2 n3 n4 n5 n6 n7 : Nat} {v0 v1 v2 v3 v4 v5 v6 v7 : Value} (h : domV [n0, n1, n2, n3, n4, n5, n6, n7] = #[v0, v1, v2, v3, v4, v5, v6, v7]) :
    v0 = .int .u8 (n0 : Int) ∧ v1 = .int .u8 (n1 : Int) ∧ v2 = .int .u8 (n2 : Int) ∧ v3 = .int .u8 (n3 : Int) ∧ v4 = .int .u8 (n4 : Int) ∧ v5 = .int .u8 (n5 : Int) ∧ v6 = .int .u8 (n6 : Int) ∧ v7 = .int .u8 (n7 : Int) := by
  simp only [domV, List.map_cons, List.map_nil] at h
  injection h with h
  simp only [List.cons.injEq, and_true] at h
  obtain ⟨h0, h1, h2, h3, h4, h5, h6, h7⟩ := h
  exact ⟨h0.symm, h1.symm, h2.symm, h3.symm, h4.symm, h5.symm, h6.symm, h7.symm⟩
theorem workCells_put (szv : Value) (d : List Nat) (tv : Value) (l : Rest) (h8 : d.length = 8) (n : List Nat) {v0 v1 v2 v3 v4 v5 v6 v7 : Value} (hn : domV n = #[v0, v1, v2, v3, v4, v5, v6, v7]) :
    (((((((((workCells szv d tv l).setIfInBounds 1 v0).setIfInBounds 2 v1).setIfInBounds 3 v2).setIfInBounds 4 v3).setIfInBounds 5 v4).setIfInBounds 6 v5).setIfInBounds 7 v6).setIfInBounds 8 v7) = workCells szv n tv l := by
  have hl : n.length = 8 := by have := congrArg Array.size hn; simpa [domV] using this
  obtain ⟨d0, d1, d2, d3, d4, d5, d6, d7, hd'⟩ := list8 h8
  obtain ⟨n0, n1, n2, n3, n4, n5, n6, n7, hn'⟩ := list8 hl
  have key : v0 = .int .u8 (n0 : Int) ∧ v1 = .int .u8 (n1 : Int) ∧ v2 = .int .u8 (n2 : Int) ∧ v3 = .int .u8 (n3 : Int) ∧ v4 = .int .u8 (n4 : Int) ∧ v5 = .int .u8 (n5 : Int) ∧ v6 = .int .u8 (n6 : Int) ∧ v7 = .int .u8 (n7 : Int) := lit8 (hn' ▸ hn)
  obtain ⟨rfl, rfl, rfl, rfl, rfl, rfl, rfl, rfl⟩ := key
  rw [hd', hn']
  exact workCells_lit ..

theorem work8 {w : World} {X : Nat} {szv : Value} {d : List Nat} {tv : Value} {l : Rest} {e : TypeId} (h : Blk w X (workCells szv d tv l) e) {v0 v1 v2 v3 v4 v5 v6 v7 : Value} (hd8 : domV d = #[v0, v1, v2, v3, v4, v5, v6, v7]) :
    w.cell? ⟨X, 1, none⟩ = some v0 ∧ w.cell? ⟨X, 2, none⟩ = some v1 ∧ w.cell? ⟨X, 3, none⟩ = some v2 ∧ w.cell? ⟨X, 4, none⟩ = some v3 ∧ w.cell? ⟨X, 5, none⟩ = some v4 ∧ w.cell? ⟨X, 6, none⟩ = some v5 ∧ w.cell? ⟨X, 7, none⟩ = some v6 ∧ w.cell? ⟨X, 8, none⟩ = some v7 := by
  have hs : d.length = 8 := by have := congrArg Array.size hd8; simpa [domV] using this
  have hg : ∀ i, i < 8 → w.cell? ⟨X, 1 + i, none⟩ = (domV d)[i]? := fun i hi => (h.cell _).trans ((workCells_dom szv d tv l i (by omega)).trans (domV_get d i (by omega)).symm)
  rw [hd8] at hg
  exact ⟨hg 0 (by omega), hg 1 (by omega), hg 2 (by omega), hg 3 (by omega), hg 4 (by omega), hg 5 (by omega), hg 6 (by omega), hg 7 (by omega)⟩

set_option maxHeartbeats 1600000 in
set_option maxRecDepth 1000000 in
/-- replace at level 0. -/
theorem replace_any (X : Nat) (szv : Value) (d : List Nat) (tv : Value) (l : Rest) (so : Option Addr) (sc : Nat) (n : List Nat) (w : World)
    (hX : Blk w X (workCells szv d tv l) 82) (hd8 : d.length = 8) (hl : l.starts = .slice so 0 sc) (h8 : n.length = 8) (hd6 : ∀ x ∈ d, x < 64) (hn6 : ∀ x ∈ n, x < 64) :
    Calls Try.prog 67 #[.pointer (some ⟨X, 0, none⟩), .agg (domV n)] w fun e w' => e = .returned (.tuple #[]) ∧ Fr (fun k => k = X) w w' ∧
      Blk w' X (workCells szv n tv l) 82 := by
  obtain ⟨v0, v1, v2, v3, v4, v5, v6, v7, hnv⟩ := domV8 h8
  obtain ⟨u0, u1, u2, u3, u4, u5, u6, u7, hdv⟩ := domV8 hd8
  obtain ⟨⟨x0, rfl⟩, ⟨x1, rfl⟩, ⟨x2, rfl⟩, ⟨x3, rfl⟩, ⟨x4, rfl⟩, ⟨x5, rfl⟩, ⟨x6, rfl⟩, ⟨x7, rfl⟩⟩ := domV_one n hnv
  obtain ⟨⟨y0, rfl⟩, ⟨y1, rfl⟩, ⟨y2, rfl⟩, ⟨y3, rfl⟩, ⟨y4, rfl⟩, ⟨y5, rfl⟩, ⟨y6, rfl⟩, ⟨y7, rfl⟩⟩ := domV_one d hdv
  have hXlt := hX.lt
  obtain ⟨W, hW⟩ : ∃ W, W = (w.alloc (.cells #[.pointer (some ⟨X, 0, none⟩)] 36)).alloc (.cells (domV n) 76) := ⟨_, rfl⟩
  have hfW : Nw w W := by rw [hW]; exact ((Fr.refl _ w).alloc _).alloc _
  have hbP : Blk W w.heap.size #[.pointer (some ⟨X, 0, none⟩)] 36 := by rw [hW]; exact (Blk.new _ _ _).alloc _
  have hbN : Blk W (w.heap.size + 1) (domV n) 76 := by
    rw [hW]
    have := Blk.new (w.alloc (.cells #[.pointer (some ⟨X, 0, none⟩)] 36)) (domV n) 76
    simpa using this
  have hsW : W.heap.size = w.heap.size + 2 := by rw [hW]; simp
  have hXW := hX.nw hfW
  obtain ⟨c0, c1, c2, c3, c4, c5, c6, c7⟩ := work8 hXW hdv
  obtain ⟨e0, e1, e2, e3, e4, e5, e6, e7⟩ := cells8 (hnv ▸ hbN)
  have hcP : W.cell? ⟨w.heap.size, 0, none⟩ = some (.pointer (some ⟨X, 0, none⟩)) := hbP.cell 0
  have HXW := hd hXW
  have HbP := hd hbP
  have HbN := hd hbN
  have HsW := hd hsW
  have HW := hd hW
  have Hnv := hd hnv
  have Hdv := hd hdv
  clear hXW hbP hbN hsW hW hnv hdv hX
  go_enter Try.func67, Try.ntmps67
  go_upto_region 1 with fail
  rw [← HW.out]
  go_upto_region 2 with fail
  obtain ⟨U, hU⟩ : ∃ U, U = W.alloc (.cells (domV d) 76) := ⟨_, rfl⟩
  have hfU : Nw W U := by rw [hU]; exact (Fr.refl _ W).alloc _
  have hbU : Blk U W.heap.size (domV d) 76 := by rw [hU]; exact Blk.new _ _ _
  rw [← Hdv.out]
  rw [← hU]
  clear hU c0 c1 c2 c3 c4 c5 c6 c7 e0 e1 e2 e3 e4 e5 e6 e7 hcP
  have hXU := HXW.out.nw hfU
  have hcL : U.cell? ⟨X, 11, none⟩ = some (.slice so 0 sc) := (hXU.cell 11).trans ((workCells_starts _ _ _ _ hd8).trans (by rw [hl]))
  have hcP : U.cell? ⟨w.heap.size, 0, none⟩ = some (.pointer (some ⟨X, 0, none⟩)) := (HbP.out.nw hfU).cell 0
  obtain ⟨e0, e1, e2, e3, e4, e5, e6, e7⟩ := cells8 (Hnv.out ▸ (HbN.out.nw hfU))
  obtain ⟨g0, g1, g2, g3, g4, g5, g6, g7⟩ := cells8 (Hdv.out ▸ hbU)
  obtain ⟨c0, c1, c2, c3, c4, c5, c6, c7⟩ := work8 hXU Hdv.out
  have hfz : ∀ i, U.frozen? ⟨X, i, none⟩ = false := hXU.free
  have HXU := hd hXU
  have HfU : Hid (Nw w U) := hfW.trans hfU (fun i h => h.elim)
  clear hbU hXU hfU hfW
  by_cases hnd : n = d
  · have heq := eql_doms n d h8 hd8 hn6 hd6
    rw [decide_eq_true hnd, Hnv.out, Hdv.out] at heq
    have Hnd := hd hnd
    clear hnd
    go_wp2
    refine bodyPost_ret (v := .tuple #[]) (results_none rfl _ _ _) rfl ⟨rfl, HfU.out.mono (fun i h => h.elim), ?_⟩
    rw [Hnd.out]
    exact HXU.out
  · have heq := eql_doms n d h8 hd8 hn6 hd6
    rw [decide_eq_false hnd, Hnv.out, Hdv.out] at heq
    clear hnd
    go_wp2_with (go_at_call 78; refine (write_none X so sc _ _ hcL).mono ?_; rintro e w2 ⟨rfl, rfl⟩)
    go_end0
    refine ⟨rfl, (HfU.out.mono (fun i h => h.elim)).set8 X 1 2 3 4 5 6 7 8 _ _ _ _ _ _ _ _ (.inl rfl), ?_⟩
    rw [← workCells_put szv d tv l hd8 n Hnv.out]
    exact HXU.out.set8 1 2 3 4 5 6 7 8 _ _ _ _ _ _ _ _
end Go.Proofs.Ytkjfpdfkcfgfkaa
