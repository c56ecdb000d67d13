/- Contract of rowSets.Narrow where the table is not Not. -/
import Derived.Test.YtkjfpdfkcfgfkaaMark
namespace Go.Proofs.Ytkjfpdfkcfgfkaa
open Go.RowKit

theorem Row.ints {w : World} {g cap : Nat} {zs : List Int} (h : Row w (.slice (some ⟨g, 0, none⟩) zs.length cap) 3 (zs.map (Value.int .i64))) : IntsAt w (some ⟨g, 0, none⟩) zs := fun i hi => by
  refine ⟨g, 0, rfl, h.lt rfl, ?_⟩
  rw [Nat.zero_add, (h.at_ i (by simpa using hi)).1]
  simp [hi]

def zero8 : List Nat := [0, 0, 0, 0, 0, 0, 0, 0]
/-- What a table of Way 1 (not Not) makes of domains: the live rows, and the domains. -/
def nLive (br : List Nat) (live : Nat) (vars : List Int) (dn : List Nat) : Nat := dropTo br vars dn live vars.length
def nDom (br : List Nat) (live : Nat) (vars : List Int) (dn : List Nat) : List Nat := replTo vars dn (markTo br (nLive br live vars dn) vars dn zero8 vars.length) vars.length

theorem domV8 {d : List Nat} (h : d.length = 8) : ∃ v0 v1 v2 v3 v4 v5 v6 v7 : Value, domV d = #[v0, v1, v2, v3, v4, v5, v6, v7] := by
  obtain ⟨d0, d1, d2, d3, d4, d5, d6, d7, rfl⟩ := list8 h
  exact ⟨_, _, _, _, _, _, _, _, rfl⟩

theorem domV_one (d : List Nat) {v0 v1 v2 v3 v4 v5 v6 v7 : Value} (h : domV d = #[v0, v1, v2, v3, v4, v5, v6, v7]) :
    (∃ x : Int, v0 = .int .u8 x) ∧ (∃ x : Int, v1 = .int .u8 x) ∧ (∃ x : Int, v2 = .int .u8 x) ∧ (∃ x : Int, v3 = .int .u8 x) ∧ (∃ x : Int, v4 = .int .u8 x) ∧ (∃ x : Int, v5 = .int .u8 x) ∧ (∃ x : Int, v6 = .int .u8 x) ∧ (∃ x : Int, v7 = .int .u8 x) := by
  have hl : d.length = 8 := by have := congrArg Array.size h; simpa [domV] using this
  obtain ⟨d0, d1, d2, d3, d4, d5, d6, d7, rfl⟩ := list8 hl
  simp only [domV, List.map_cons, List.map_nil] at h
  injection h with h
  simp only [List.cons.injEq, and_true] at h
  obtain ⟨h0, h1, h2, h3, h4, h5, h6, h7⟩ := h
  exact ⟨⟨_, h0.symm⟩, ⟨_, h1.symm⟩, ⟨_, h2.symm⟩, ⟨_, h3.symm⟩, ⟨_, h4.symm⟩, ⟨_, h5.symm⟩, ⟨_, h6.symm⟩, ⟨_, h7.symm⟩⟩

theorem zero8_lt (q : Nat) : zero8.getD q 0 < 64 := by
  simp only [zero8, List.getD]
  rcases q with _ | _ | _ | _ | _ | _ | _ | _ | q <;> simp

set_option maxHeartbeats 1600000 in
set_option maxRecDepth 1000000 in
theorem narrow_any (G g cap : Nat) (br : List Nat) (live : Nat) (vars : List Int) (dn : List Nat) (w : World) (hG : Blk w G (rsCells (.slice (some ⟨g, 0, none⟩) vars.length cap) false br live) 142)
    (hvs : Row w (.slice (some ⟨g, 0, none⟩) vars.length cap) 3 (vars.map (Value.int .i64)))
    (h8 : dn.length = 8) (h24 : br.length = 24) (hbr : ∀ j, br.getD j 0 < 18446744073709551616) (hlive : live < 18446744073709551616)
    (h4 : vars.length ≤ 4) (hv : ∀ i, i < vars.length → 0 ≤ vars.getD i 0 ∧ vars.getD i 0 < 8) (hd64 : ∀ q, dn.getD q 0 < 64) :
    Calls Try.prog 113 #[.pointer (some ⟨G, 0, none⟩), .agg (domV dn)] w fun e w' => e = .returned (.agg (domV (nDom br live vars dn))) ∧ Fr (fun k => k = G) w w' ∧
      Blk w' G (rsCells (.slice (some ⟨g, 0, none⟩) vars.length cap) false br (nLive br live vars dn)) 142 := by
  obtain ⟨v0, v1, v2, v3, v4, v5, v6, v7, hdv⟩ := domV8 h8
  have hGlt := hG.lt
  have hglt : g < w.heap.size := hvs.lt rfl
  have hgG : g ≠ G := fun e => by subst e; exact hvs.ne hG (by decide) rfl
  obtain ⟨W, hW⟩ : ∃ W, W = (w.alloc (.cells (domV dn) 76)).alloc (.cells (domV zero8) 76) := ⟨_, rfl⟩
  have hfW : Nw w W := by rw [hW]; exact ((Fr.refl _ w).alloc _).alloc _
  have hbD : Blk W w.heap.size (domV dn) 76 := by rw [hW]; exact (Blk.new _ _ _).alloc _
  have hbR : Blk W (w.heap.size + 1) (domV zero8) 76 := by
    rw [hW]
    have := Blk.new (w.alloc (.cells (domV dn) 76)) (domV zero8) 76
    simpa using this
  have hsW : W.heap.size = w.heap.size + 2 := by rw [hW]; simp
  have hGW := hG.nw hfW
  have hvW := hvs.nw hfW
  obtain ⟨c0, c1, c2, c3, c4, c5, c6, c7⟩ := cells8 (hdv ▸ hbD)
  have HbD := hd hbD
  have HbR := hd hbR
  have HW := hd hW
  have HsW := hd hsW
  have Hdv := hd hdv
  have HGW := hd hGW
  have HvW := hd hvW
  clear hW hsW hbD hbR hdv hG hvs hGW hvW
  go_enter Try.func113, Try.ntmps113
  go_upto_region 1 with fail
  rw [show (w.alloc (Obj.cells (domV dn) 76)).alloc (Obj.cells #[Value.int .u8 0, .int .u8 0, .int .u8 0, .int .u8 0, .int .u8 0, .int .u8 0, .int .u8 0, .int .u8 0] 76) = W from HW.out.symm]
  go_wp2_with fail
  rw [← Hdv.out]
  refine (drop_any G g cap false br live vars dn W HGW.out HvW.out h8 h24 hbr hlive h4 hv hd64).mono ?_
  rintro e w1 ⟨rfl, hf1, hb1⟩
  have hs1 : w.heap.size + 2 ≤ w1.heap.size := by have := hf1.size; have := HsW.out; omega
  have hbD1 : Blk w1 w.heap.size (domV dn) 76 := HbD.out.fr hf1 (by omega)
  have hbR1 : Blk w1 (w.heap.size + 1) (domV zero8) 76 := HbR.out.fr hf1 (by omega)
  have hrv1 := HvW.out.fr hf1 (fun k hk e => hgG (by cases hk; exact e))
  have hnt : w1.cell? ⟨G, 1, none⟩ = some (.bool false) := hb1.cell 1
  have hb1' : Blk w1 G (rsCells (.slice (some ⟨g, 0, none⟩) vars.length cap) false br (nLive br live vars dn)) 142 := hb1
  have hlv : nLive br live vars dn < 18446744073709551616 := dropTo_lt br vars dn live hlive _
  obtain ⟨X, hX⟩ : ∃ X, X = w1.alloc (.cells (domV zero8) 76) := ⟨_, rfl⟩
  have hfX : Nw w1 X := by rw [hX]; exact (Fr.refl _ w1).alloc _
  have hbS : Blk X w1.heap.size (domV zero8) 76 := by rw [hX]; exact Blk.new _ _ _
  have hntX : X.cell? ⟨G, 1, none⟩ = some (.bool false) := (hb1.nw hfX).cell 1
  have HX := hd hX
  have HbS := hd hbS
  have Hb1 := hd (hb1'.nw hfX)
  have HbD1 := hd (hbD1.nw hfX)
  have HbR1 := hd (hbR1.nw hfX)
  have Hrv1 := hd (hrv1.nw hfX)
  clear hb1 hb1' hbD1 hbR1 hrv1 hX hbS c0 c1 c2 c3 c4 c5 c6 c7 hnt
  go_upto_region 3 with fail
  rw [show w1.alloc (Obj.cells #[Value.int .u8 0, .int .u8 0, .int .u8 0, .int .u8 0, .int .u8 0, .int .u8 0, .int .u8 0, .int .u8 0] 76) = X from HX.out.symm]
  obtain ⟨m, hm⟩ : ∃ m, markTo br (nLive br live vars dn) vars dn zero8 vars.length = m := ⟨_, rfl⟩
  have hmlen : m.length = 8 := by rw [← hm, markTo_length]; rfl
  have hfin : nDom br live vars dn = replTo vars dn m vars.length := by simp only [nDom]; rw [hm]
  have Hm := hd hm
  have Hfin := hd hfin
  clear hm hfin
  go_wp2_with (go_at_call 117; refine (markCovered_any G g cap w.heap.size w1.heap.size false br (nLive br live vars dn) vars dn zero8 X Hb1.out Hrv1.out HbD1.out HbS.out (by omega) h8 rfl h24 hbr hlv h4 hv hd64 zero8_lt).mono ?_; rintro e w2 ⟨rfl, hf2, hb2⟩)
  have hs2 := hf2.size
  have hfXs := hfX.size
  have hb2' : Blk w2 w1.heap.size (domV m) 76 := by rw [← Hm.out]; exact hb2
  have hG2 := Hb1.out.fr hf2 (by omega)
  have hD2 := HbD1.out.fr hf2 (by omega)
  have hR2 := HbR1.out.fr hf2 (by omega)
  have hv2 := Hrv1.out.fr hf2 (fun k hk e => by have e' : g = w1.heap.size := by cases hk; exact e
                                                omega)
  have hcG : w2.cell? ⟨G, 0, none⟩ = some (.slice (some ⟨g, 0, none⟩) vars.length cap) := hG2.cell 0
  obtain ⟨m0, m1, m2, m3, m4, m5, m6, m7, hmv⟩ := domV8 hmlen
  obtain ⟨c0, c1, c2, c3, c4, c5, c6, c7⟩ := cells8 (Hdv.out ▸ hD2)
  obtain ⟨s0, s1, s2, s3, s4, s5, s6, s7⟩ := cells8 (hmv ▸ hb2')
  have Hv2 := hd (hv2.drew.ints)
  have HG2 := hd hG2
  have HR2 := hd hR2
  have Hmv := hd hmv
  have HF2 : Hid (Fr (fun k => k = G) w w2) := ((hfW.mono (fun i h => h.elim)).trans hf1 (fun i h => .inl h)).trans (hfX.mono (fun i h => h.elim)) (fun i h => .inl h) |>.trans hf2 (fun i h => .inr (by omega))
  clear hb2 hb2' hG2 hD2 hR2 hv2 hmv
  go_still_tail 6, (by kernel_rfl)
  go_wp2_with fail
  rw [← Hdv.out, ← Hmv.out]
  refine (replaced_any (some ⟨g, 0, none⟩) cap vars dn m _ h4 hv Hv2.out h8 hmlen).mono ?_
  rintro e w3 ⟨rfl, hf3⟩
  have hrl : (replTo vars dn m vars.length).length = 8 := by rw [replTo_length]; exact h8
  obtain ⟨r0, r1, r2, r3, r4, r5, r6, r7, hrv⟩ := domV8 hrl
  obtain ⟨a0, a1, a2, a3, a4, a5, a6, a7, hav⟩ := domV8 (d := zero8) rfl
  have hR3 : Blk w3 (w.heap.size + 1) #[a0, a1, a2, a3, a4, a5, a6, a7] 76 := hav ▸ (HR2.out.drew.nw hf3)
  obtain ⟨t0, t1, t2, t3, t4, t5, t6, t7⟩ := cells8 hR3
  have hfz : ∀ i, w3.frozen? ⟨w.heap.size + 1, i, none⟩ = false := hR3.free
  have o0 : ∀ i, i < 8 → (#[r0, r1, r2, r3, r4, r5, r6, r7] : Array Value).size = 8 := fun _ _ => rfl
  rw [hrv]
  have Hrv := hd hrv
  have HR3 := hd hR3
  have HF3 : Hid (Fr (fun k => k = G) w w3) := (HF2.out.drew).trans hf3 (fun i h => h.elim)
  have HG3 := hd (HG2.out.drew.nw hf3)
  have ho := domV_one (replTo vars dn m vars.length) hrv
  clear hrv hav hR3 c0 c1 c2 c3 c4 c5 c6 c7 s0 s1 s2 s3 s4 s5 s6 s7 o0
  obtain ⟨⟨y0, rfl⟩, ⟨y1, rfl⟩, ⟨y2, rfl⟩, ⟨y3, rfl⟩, ⟨y4, rfl⟩, ⟨y5, rfl⟩, ⟨y6, rfl⟩, ⟨y7, rfl⟩⟩ := ho
  go_wp2
  have hB := HR3.out.set8 0 1 2 3 4 5 6 7 (.int .u8 y0) (.int .u8 y1) (.int .u8 y2) (.int .u8 y3) (.int .u8 y4) (.int .u8 y5) (.int .u8 y6) (.int .u8 y7)
  have hF8 := HF3.out.set8 (w.heap.size + 1) 0 1 2 3 4 5 6 7 (.int .u8 y0) (.int .u8 y1) (.int .u8 y2) (.int .u8 y3) (.int .u8 y4) (.int .u8 y5) (.int .u8 y6) (.int .u8 y7) (.inr (by omega))
  have hFg := (Fr.refl (fun k => k = w.heap.size + 1) w3).set8 (w.heap.size + 1) 0 1 2 3 4 5 6 7 (.int .u8 y0) (.int .u8 y1) (.int .u8 y2) (.int .u8 y3) (.int .u8 y4) (.int .u8 y5) (.int .u8 y6) (.int .u8 y7) (.inl rfl)
  have hG8 := HG3.out.fr hFg (by omega)
  rw [arr8] at hB
  generalize hX8 : ((((((((w3.setCell ⟨w.heap.size + 1, 0, none⟩ (Value.int .u8 y0)).setCell ⟨w.heap.size + 1, 1, none⟩ (Value.int .u8 y1)).setCell ⟨w.heap.size + 1, 2, none⟩ (Value.int .u8 y2)).setCell ⟨w.heap.size + 1, 3, none⟩ (Value.int .u8 y3)).setCell ⟨w.heap.size + 1, 4, none⟩ (Value.int .u8 y4)).setCell ⟨w.heap.size + 1, 5, none⟩ (Value.int .u8 y5)).setCell ⟨w.heap.size + 1, 6, none⟩ (Value.int .u8 y6)).setCell ⟨w.heap.size + 1, 7, none⟩ (Value.int .u8 y7)) = X8 at hB hF8 hG8 ⊢
  obtain ⟨q0, q1, q2, q3, q4, q5, q6, q7⟩ := cells8 hB
  refine bodyPost_ret (v := .agg (domV (nDom br live vars dn))) ?_ rfl ⟨rfl, hF8, hG8⟩
  rw [Hfin.out, Hrv.out]
  simp [results, Try.results113, go_sem, q0, q1, q2, q3, q4, q5, q6, q7]
end Go.Proofs.Ytkjfpdfkcfgfkaa
