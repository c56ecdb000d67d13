/- Contract of wake where there is one table, of Way 1. -/
import Derived.Test.YtkjfpdfkcfgfkaaNarrow
namespace Go.Proofs.Ytkjfpdfkcfgfkaa
open Go.RowKit

/-- Twelve marks as cells. -/
abbrev mkV (b : Bool) : Array Value := #[.bool b, .bool false, .bool false, .bool false, .bool false, .bool false, .bool false, .bool false, .bool false, .bool false, .bool false, .bool false]

theorem meth_changed (G : Nat) (v : Value) (W : World) (h : W.cell? ⟨G, 0, none⟩ = some v) :
    (method 286 115 (.pointer (some ⟨G, 0, none⟩)) "Changed").run Try.prog W = .ok (105, .agg #[v]) W := by
  have h1 : (method 286 115 (.pointer (some ⟨G, 0, none⟩)) "Changed").run Try.prog W =
      match W.cell? ⟨G, 0, none⟩ with
      | some v => .ok (105, .agg #[v]) W
      | none => match W.farLoad Try.prog ⟨G, 0, none⟩ (Mode.plain == .atomic) with
        | .ok (v, _) => .ok (105, .agg #[v]) W
        | .error h => .halt h W := by kernel_rfl
  rw [h1, h]
theorem meth_narrow (G : Nat) (W : World) : (method 286 115 (.pointer (some ⟨G, 0, none⟩)) "Narrow").run Try.prog W = .ok (113, .pointer (some ⟨G, 0, none⟩)) W := by kernel_rfl

set_option maxHeartbeats 1600000 in
set_option maxRecDepth 1000000 in
theorem wake_one (X M tb tcap G g cap : Nat) (szv : Value) (d : List Nat) (l : Rest) (nt : Bool) (br : List Nat) (live : Nat) (vars : List Int) (a b : List Nat) (mk : Bool) (w : World)
    (hX : Blk w X (workCells szv d (.slice (some ⟨tb, 0, none⟩) 1 tcap) l) 82) (hd8 : d.length = 8) (ht : Row w (.slice (some ⟨tb, 0, none⟩) 1 tcap) 93 [.iface 115 (.pointer (some ⟨G, 0, none⟩))])
    (hG : Blk w G (rsCells (.slice (some ⟨g, 0, none⟩) vars.length cap) nt br live) 142) (hvs : Row w (.slice (some ⟨g, 0, none⟩) vars.length cap) 3 (vars.map (Value.int .i64)))
    (h4 : vars.length ≤ 4) (hv : ∀ i, i < vars.length → 0 ≤ vars.getD i 0 ∧ vars.getD i 0 < 8) (ha : a.length = 8) (hb : b.length = 8) (hM : Blk w M (mkV mk) 91) :
    Calls Try.prog 56 #[.pointer (some ⟨X, 0, none⟩), .pointer (some ⟨M, 0, none⟩), .agg (domV a), .agg (domV b)] w fun e w' => e = .returned (.tuple #[]) ∧ Fr (fun k => k = M) w w' ∧
      Blk w' M (mkV (mk || changedB vars a b vars.length)) 91 := by
  obtain ⟨a0, a1, a2, a3, a4, a5, a6, a7, hav⟩ := domV8 ha
  obtain ⟨b0, b1, b2, b3, b4, b5, b6, b7, hbv⟩ := domV8 hb
  obtain ⟨W, hW⟩ : ∃ W, W = (w.alloc (.cells (domV a) 76)).alloc (.cells (domV b) 76) := ⟨_, rfl⟩
  have hfW : Nw w W := by rw [hW]; exact ((Fr.refl _ w).alloc _).alloc _
  have hbA : Blk W w.heap.size (domV a) 76 := by rw [hW]; exact (Blk.new _ _ _).alloc _
  have hbB : Blk W (w.heap.size + 1) (domV b) 76 := by
    rw [hW]
    have := Blk.new (w.alloc (.cells (domV a) 76)) (domV b) 76
    simpa using this
  obtain ⟨c0, c1, c2, c3, c4, c5, c6, c7⟩ := cells8 (hav ▸ hbA)
  obtain ⟨e0, e1, e2, e3, e4, e5, e6, e7⟩ := cells8 (hbv ▸ hbB)
  have hct : W.cell? ⟨X, 9, none⟩ = some (.slice (some ⟨tb, 0, none⟩) 1 tcap) := ((hX.nw hfW).cell 9).trans (workCells_tabs _ _ _ _ hd8)
  have hc1 : W.cell? ⟨tb, 0, none⟩ = some (.iface 115 (.pointer (some ⟨G, 0, none⟩))) := ((ht.nw hfW).at_ 0 (by simp)).1
  have hcG : W.cell? ⟨G, 0, none⟩ = some (.slice (some ⟨g, 0, none⟩) vars.length cap) := (hG.nw hfW).cell 0
  have hvW := hd ((hvs.nw hfW).ints)
  have hMW := hd (hM.nw hfW)
  have hcM : W.cell? ⟨M, 0, none⟩ = some (.bool mk) := hMW.out.cell 0
  have hfM := hMW.out.free 0
  have HW := hd hW
  have Hav := hd hav
  have Hbv := hd hbv
  clear hW hav hbv hbA hbB hX ht hG hvs hM
  have hmc := meth_changed G _ W hcG
  go_enter Try.func56, Try.ntmps56
  go_upto_region 1 with fail
  rw [← HW.out]
  go_wp2_with fail
  refine wp_loop_rounds 2 ?_
  rw [rounds_succ]
  go_wp2_with fail
  rw [← Hav.out, ← Hbv.out]
  refine (changed_any (some ⟨g, 0, none⟩) cap vars a b W h4 hv hvW.out ha hb).mono ?_
  cases hch : changedB vars a b vars.length with
  | true =>
    have Hch := hd hch
    rintro e w1 ⟨rfl, hf1⟩
    have hM1 := hMW.out.nw hf1
    have hcM1 : w1.cell? ⟨M, 0, none⟩ = some (.bool mk) := hM1.cell 0
    have hfM1 := hM1.free 0
    have HM1 := hd hM1
    clear hch hcM hfM hM1 c0 c1 c2 c3 c4 c5 c6 c7 e0 e1 e2 e3 e4 e5 e6 e7 hct hc1 hcG hmc
    go_wp2
    rw [rounds_succ]
    go_wp2
    go_end0
    have hF := ((hfW.trans hf1 (fun i h => h.elim)).mono (S' := fun k => k = M) (fun i h => h.elim)).setCell ⟨M, 0, none⟩ (.bool true) (.inl rfl)
    refine ⟨rfl, hF, ?_⟩
    have h5 := HM1.out.set 0 (.bool true)
    rw [Hch.out, Bool.or_true]
    simpa using h5
  | false =>
    have Hch := hd hch
    rintro e w1 ⟨rfl, hf1⟩
    have HM1 := hd (hMW.out.nw hf1)
    clear hch hcM hfM c0 c1 c2 c3 c4 c5 c6 c7 e0 e1 e2 e3 e4 e5 e6 e7 hct hc1 hcG hmc
    go_wp2
    rw [rounds_succ]
    go_wp2
    go_end0
    refine ⟨rfl, (hfW.trans hf1 (fun i h => h.elim)).mono (fun i h => h.elim), ?_⟩
    rw [Hch.out, Bool.or_false]
    exact HM1.out
end Go.Proofs.Ytkjfpdfkcfgfkaa
