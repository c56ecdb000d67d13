/- Parts of the proof, number 1: contracts of the functions that the statement calls. -/
import Derived.Test.YtkjfpdfkcfgfkaaM0
import Derived.StillTailTactics
import Derived.Stop.BytesEq
import Derived.OrdersHeld
import Derived.Maps.OwnSet
import Derived.Maps.Views
import Derived.DeepKeys4

/- Contracts about domains: Changed, replaced, emptied. -/
namespace Go.Proofs.Ytkjfpdfkcfgfkaa
open Go.RowKit

/-- Eight domains as a value. -/
abbrev domV (d : List Nat) : Array Value := (d.map (fun (x : Nat) => Value.int .u8 (x : Int))).toArray
theorem domV_get (d : List Nat) (i : Nat) (h : i < d.length) : (domV d)[i]? = some (.int .u8 (d.getD i 0 : Nat)) := by
  simp [domV, h]
theorem domV_set (d : List Nat) (i x : Nat) : (domV d).setIfInBounds i (.int .u8 (x : Int)) = domV (d.set i x) := by
  simp [domV, List.map_set]
theorem list8 {d : List Nat} (h : d.length = 8) : ∃ d0 d1 d2 d3 d4 d5 d6 d7, d = [d0, d1, d2, d3, d4, d5, d6, d7] := by
  match d, h with
  | [d0, d1, d2, d3, d4, d5, d6, d7], _ => exact ⟨d0, d1, d2, d3, d4, d5, d6, d7, rfl⟩

/-- Eight cells of one block stored one after the other. -/
theorem Fr.set8 {S : Nat → Prop} {a b : World} (h : Fr S a b) (g o0 o1 o2 o3 o4 o5 o6 o7 : Nat) (v0 v1 v2 v3 v4 v5 v6 v7 : Value) (hg : S g ∨ a.heap.size ≤ g) :
    Fr S a ((((((((b.setCell ⟨g, o0, none⟩ v0).setCell ⟨g, o1, none⟩ v1).setCell ⟨g, o2, none⟩ v2).setCell ⟨g, o3, none⟩ v3).setCell ⟨g, o4, none⟩ v4).setCell ⟨g, o5, none⟩ v5).setCell ⟨g, o6, none⟩ v6).setCell ⟨g, o7, none⟩ v7) :=
  (((((((h.setCell ⟨g, o0, none⟩ v0 hg).setCell ⟨g, o1, none⟩ v1 hg).setCell ⟨g, o2, none⟩ v2 hg).setCell ⟨g, o3, none⟩ v3 hg).setCell ⟨g, o4, none⟩ v4 hg).setCell ⟨g, o5, none⟩ v5 hg).setCell ⟨g, o6, none⟩ v6 hg).setCell ⟨g, o7, none⟩ v7 hg
theorem Blk.set8 {b : World} {g : Nat} {cur : Array Value} {e : TypeId} (h : Blk b g cur e) (o0 o1 o2 o3 o4 o5 o6 o7 : Nat) (v0 v1 v2 v3 v4 v5 v6 v7 : Value) :
    Blk ((((((((b.setCell ⟨g, o0, none⟩ v0).setCell ⟨g, o1, none⟩ v1).setCell ⟨g, o2, none⟩ v2).setCell ⟨g, o3, none⟩ v3).setCell ⟨g, o4, none⟩ v4).setCell ⟨g, o5, none⟩ v5).setCell ⟨g, o6, none⟩ v6).setCell ⟨g, o7, none⟩ v7) g ((((((((cur.setIfInBounds o0 v0).setIfInBounds o1 v1).setIfInBounds o2 v2).setIfInBounds o3 v3).setIfInBounds o4 v4).setIfInBounds o5 v5).setIfInBounds o6 v6).setIfInBounds o7 v7) e :=
  (((((((h.set o0 v0).set o1 v1).set o2 v2).set o3 v3).set o4 v4).set o5 v5).set o6 v6).set o7 v7

theorem arr8 (a0 a1 a2 a3 a4 a5 a6 a7 v0 v1 v2 v3 v4 v5 v6 v7 : Value) : ((((((((#[a0, a1, a2, a3, a4, a5, a6, a7].setIfInBounds 0 v0).setIfInBounds 1 v1).setIfInBounds 2 v2).setIfInBounds 3 v3).setIfInBounds 4 v4).setIfInBounds 5 v5).setIfInBounds 6 v6).setIfInBounds 7 v7) = #[v0, v1, v2, v3, v4, v5, v6, v7] := by simp
theorem cells8 {w : World} {g : Nat} {v0 v1 v2 v3 v4 v5 v6 v7 : Value} {e : TypeId} (h : Blk w g #[v0, v1, v2, v3, v4, v5, v6, v7] e) :
    w.cell? ⟨g, 0, none⟩ = some v0 ∧ w.cell? ⟨g, 1, none⟩ = some v1 ∧ w.cell? ⟨g, 2, none⟩ = some v2 ∧ w.cell? ⟨g, 3, none⟩ = some v3 ∧ w.cell? ⟨g, 4, none⟩ = some v4 ∧ w.cell? ⟨g, 5, none⟩ = some v5 ∧ w.cell? ⟨g, 6, none⟩ = some v6 ∧ w.cell? ⟨g, 7, none⟩ = some v7 :=
  ⟨h.cell 0, h.cell 1, h.cell 2, h.cell 3, h.cell 4, h.cell 5, h.cell 6, h.cell 7⟩

/-- Does a variable of the table have another domain? -/
def changedB (vars : List Int) (a b : List Nat) (k : Nat) : Bool := (List.range k).any (fun i => a.getD (vars.getD i 0).toNat 0 != b.getD (vars.getD i 0).toNat 0)

set_option maxHeartbeats 1600000 in
set_option maxRecDepth 1000000 in
theorem changed_any (vo : Option Addr) (cap : Nat) (vars : List Int) (a b : List Nat) (w : World) (h4 : vars.length ≤ 4) (hv : ∀ i, i < vars.length → 0 ≤ vars.getD i 0 ∧ vars.getD i 0 < 8) (hvs : IntsAt w vo vars)
    (ha : a.length = 8) (hb : b.length = 8) :
    Calls Try.prog 105 #[.agg #[.slice vo vars.length cap], .agg (domV a), .agg (domV b)] w fun e w' =>
      e = .returned (.bool (changedB vars a b vars.length)) ∧ Nw w w' := by
  obtain ⟨T, hT⟩ : ∃ T, T = w.heap.size := ⟨_, rfl⟩
  obtain ⟨W, hW⟩ : ∃ W, W = ((w.alloc (.cells #[.slice vo vars.length cap] 129)).alloc (.cells (domV a) 76)).alloc (.cells (domV b) 76) := ⟨_, rfl⟩
  have hfW : Nw w W := by rw [hW]; exact (((Fr.refl _ w).alloc _).alloc _).alloc _
  have hbA : Blk W (T + 1) (domV a) 76 := by
    rw [hW, hT]
    have := (Blk.new (w.alloc (.cells #[.slice vo vars.length cap] 129)) (domV a) 76).alloc (.cells (domV b) 76)
    simpa using this
  have hbB : Blk W (T + 2) (domV b) 76 := by
    rw [hW, hT]
    have := Blk.new ((w.alloc (.cells #[.slice vo vars.length cap] 129)).alloc (.cells (domV a) 76)) (domV b) 76
    simpa using this
  have hvW := hvs.nw hfW
  go_enter Try.func105, Try.ntmps105
  go_wp2_with fail
  rw [← hW, ← hT]
  clear hW hT hvs
  go_loopw [12] (fun i wr => ∃ k : Nat, k ≤ vars.length ∧ i = .int .i64 k ∧ (∃ n, wr = W.drewN n) ∧ Hid (changedB vars a b k = false)) (fun i _ => vars.length - (intOf i).toNat)
  case atStart => exact ⟨0, Nat.zero_le _, rfl, ⟨0, rfl⟩, rfl⟩
  case round =>
    obtain ⟨k, hk, rfl, ⟨n, rfl⟩, HC⟩ := hrel
    by_cases hlt : k < vars.length
    · obtain ⟨b1, o1, rfl, _, hck⟩ := hvW k hlt
      obtain ⟨hv0, hv8⟩ := hv k hlt
      obtain ⟨q, hq⟩ : ∃ q : Nat, vars.getD k 0 = (q : Int) := ⟨(vars.getD k 0).toNat, by omega⟩
      have hcs : changedB vars a b (k + 1) = (changedB vars a b k || (a.getD q 0 != b.getD q 0)) := by
        simp only [changedB, List.range_succ, List.any_append, List.any_cons, List.any_nil, Bool.or_false]
        rw [hq, Int.toNat_natCast]
      have hmono : changedB vars a b (k + 1) = true → changedB vars a b vars.length = true := fun h => by
        simp only [changedB, List.any_eq_true, List.mem_range] at h ⊢
        obtain ⟨i, hi, h'⟩ := h
        exact ⟨i, by omega, h'⟩
      rw [hq] at hck hv0 hv8
      have hcA : W.cell? ⟨T + 1, q, none⟩ = some (.int .u8 (a.getD q 0 : Nat)) := (hbA.cell q).trans (domV_get a q (by omega))
      have hcB : W.cell? ⟨T + 2, q, none⟩ = some (.int .u8 (b.getD q 0 : Nat)) := (hbB.cell q).trans (domV_get b q (by omega))
      have Hcs := hd hcs
      have Hmono := hd hmono
      obtain ⟨x, hx⟩ : ∃ x, a.getD q 0 = x := ⟨_, rfl⟩
      obtain ⟨y, hy⟩ : ∃ y, b.getD q 0 = y := ⟨_, rfl⟩
      rw [hx] at hcA Hcs
      rw [hy] at hcB Hcs
      clear hcs hmono hq hx hy hvW hv hbA hbB
      by_cases hxy : x = y
      · subst hxy
        go_wp2
        go_quiet (fail)
        go_wp2
        refine ⟨⟨k + 1, by omega, by go_num, ⟨_, rfl⟩, ?_⟩, by simp [intOf]; omega⟩
        show _ = _
        rw [Hcs.out, HC.out]
        simp
      · have hxy' : ((x : Int) != (y : Int)) = true := by simp; omega
        go_wp2
        go_quiet (fail)
        go_wp2
        go_ret
        refine ⟨?_, (hfW.drewN _).drewN _⟩
        rw [Hmono.out (by rw [Hcs.out, HC.out]; simp [hxy])]
        rfl
    · obtain rfl : k = vars.length := by omega
      go_wp2
      go_ret
      exact ⟨by rw [HC.out]; rfl, hfW.drewN _⟩

/-- The domains with those of the table's first k variables taken from another list. -/
def replTo (vars : List Int) (d s : List Nat) : Nat → List Nat
  | 0 => d
  | k + 1 => (replTo vars d s k).set (vars.getD k 0).toNat (s.getD (vars.getD k 0).toNat 0)
theorem replTo_length (vars : List Int) (d s : List Nat) : ∀ k, (replTo vars d s k).length = d.length
  | 0 => rfl
  | k + 1 => by simp [replTo, replTo_length vars d s k]

set_option maxHeartbeats 1600000 in
set_option maxRecDepth 1000000 in
theorem replaced_any (vo : Option Addr) (cap : Nat) (vars : List Int) (a b : List Nat) (w : World) (h4 : vars.length ≤ 4) (hv : ∀ i, i < vars.length → 0 ≤ vars.getD i 0 ∧ vars.getD i 0 < 8) (hvs : IntsAt w vo vars)
    (ha : a.length = 8) (hb : b.length = 8) :
    Calls Try.prog 111 #[.agg #[.slice vo vars.length cap], .agg (domV a), .agg (domV b)] w fun e w' =>
      e = .returned (.agg (domV (replTo vars a b vars.length))) ∧ Nw w w' := by
  obtain ⟨T, hT⟩ : ∃ T, T = w.heap.size := ⟨_, rfl⟩
  obtain ⟨Z, hZ⟩ : ∃ Z, Z = #[Value.int .u8 0, .int .u8 0, .int .u8 0, .int .u8 0, .int .u8 0, .int .u8 0, .int .u8 0, .int .u8 0] := ⟨_, rfl⟩
  obtain ⟨W, hW⟩ : ∃ W, W = (((w.alloc (.cells #[.slice vo vars.length cap] 129)).alloc (.cells (domV a) 76)).alloc (.cells (domV b) 76)).alloc (.cells Z 76) := ⟨_, rfl⟩
  have hfW : Nw w W := by rw [hW]; exact ((((Fr.refl _ w).alloc _).alloc _).alloc _).alloc _
  have hbA : Blk W (T + 1) (domV a) 76 := by
    rw [hW, hT]
    have := ((Blk.new (w.alloc (.cells #[.slice vo vars.length cap] 129)) (domV a) 76).alloc (.cells (domV b) 76)).alloc (.cells Z 76)
    simpa using this
  have hbB : Blk W (T + 2) (domV b) 76 := by
    rw [hW, hT]
    have := (Blk.new ((w.alloc (.cells #[.slice vo vars.length cap] 129)).alloc (.cells (domV a) 76)) (domV b) 76).alloc (.cells Z 76)
    simpa using this
  have hbR : Blk W (T + 3) Z 76 := by
    rw [hW, hT]
    have := Blk.new (((w.alloc (.cells #[.slice vo vars.length cap] 129)).alloc (.cells (domV a) 76)).alloc (.cells (domV b) 76)) Z 76
    simpa using this
  have hvW := hvs.nw hfW
  have hvlt : ∀ b o, vo = some ⟨b, o, none⟩ → 0 < vars.length → b < T := fun b o e h0 => by
    obtain ⟨b', o', e', hb', _⟩ := hvs 0 h0
    rw [e] at e'
    cases e'
    omega
  have HsT := hd hT.symm
  have HZ := hd hZ
  have HW := hd hW
  have HT := hd hT
  clear hW hT hZ
  go_enter Try.func111, Try.ntmps111
  go_wp2_with fail
  rw [← HZ.out, ← HW.out, ← HT.out]
  clear hvs HW HT
  go_loopw [12] (fun i wr => ∃ k : Nat, k ≤ vars.length ∧ i = .int .i64 k ∧ Fr (fun j => j = T + 1) W wr ∧ Hid (Blk wr (T + 1) (domV (replTo vars a b k)) 76)) (fun i _ => vars.length - (intOf i).toNat)
  case atStart => exact ⟨0, Nat.zero_le _, rfl, Fr.refl _ _, hbA⟩
  case round =>
    obtain ⟨k, hk, rfl, hf, hbk⟩ := hrel
    have hrlen : (replTo vars a b k).length = 8 := by rw [replTo_length]; exact ha
    by_cases hlt : k < vars.length
    · obtain ⟨b1, o1, rfl, hb1, hck0⟩ := hvW k hlt
      have hb1T := hvlt b1 o1 rfl (by omega)
      have hck : wr.cell? ⟨b1, o1 + k, none⟩ = some (.int .i64 (vars.getD k 0)) := (hf.cell hb1 (by omega)).trans hck0
      obtain ⟨hv0, hv8⟩ := hv k hlt
      obtain ⟨q, hq⟩ : ∃ q : Nat, vars.getD k 0 = (q : Int) := ⟨(vars.getD k 0).toNat, by omega⟩
      have hcs : replTo vars a b (k + 1) = (replTo vars a b k).set q (b.getD q 0) := by
        simp only [replTo]
        rw [hq, Int.toNat_natCast]
      rw [hq] at hck hv0 hv8
      have hbB' : Blk wr (T + 2) (domV b) 76 := hbB.fr hf (by omega)
      have hcB : wr.cell? ⟨T + 2, q, none⟩ = some (.int .u8 (b.getD q 0 : Nat)) := (hbB'.cell q).trans (domV_get b q (by omega))
      have hcA : wr.cell? ⟨T + 1, q, none⟩ = some (.int .u8 ((replTo vars a b k).getD q 0 : Nat)) := (hbk.out.cell q).trans (domV_get _ q (by omega))
      have hfz := hbk.out.free q
      have Hcs := hd hcs
      obtain ⟨y, hy⟩ : ∃ y, b.getD q 0 = y := ⟨_, rfl⟩
      obtain ⟨x, hx⟩ : ∃ x, (replTo vars a b k).getD q 0 = x := ⟨_, rfl⟩
      rw [hy] at hcB Hcs
      rw [hx] at hcA
      clear hcs hq hx hy hvW hv hbA hbB hbB' hck0 hbR
      go_wp2
      refine ⟨⟨k + 1, by omega, by go_num, hf.setCell _ _ (.inl rfl), ?_⟩, by simp [intOf]; omega⟩
      show Blk _ _ _ _
      rw [Hcs.out, ← domV_set]
      exact hbk.out.set q _
    · obtain rfl : k = vars.length := by omega
      have hbR' : Blk wr (T + 3) Z 76 := hbR.fr hf (by omega)
      rw [HZ.out] at hbR'
      obtain ⟨d0, d1, d2, d3, d4, d5, d6, d7, hd8⟩ := list8 hrlen
      have hb8 := hbk.out
      rw [hd8] at hb8
      have r0 : wr.cell? ⟨T + 1, 0, none⟩ = some (.int .u8 (d0 : Int)) := hb8.cell 0
      have r1 : wr.cell? ⟨T + 1, 1, none⟩ = some (.int .u8 (d1 : Int)) := hb8.cell 1
      have r2 : wr.cell? ⟨T + 1, 2, none⟩ = some (.int .u8 (d2 : Int)) := hb8.cell 2
      have r3 : wr.cell? ⟨T + 1, 3, none⟩ = some (.int .u8 (d3 : Int)) := hb8.cell 3
      have r4 : wr.cell? ⟨T + 1, 4, none⟩ = some (.int .u8 (d4 : Int)) := hb8.cell 4
      have r5 : wr.cell? ⟨T + 1, 5, none⟩ = some (.int .u8 (d5 : Int)) := hb8.cell 5
      have r6 : wr.cell? ⟨T + 1, 6, none⟩ = some (.int .u8 (d6 : Int)) := hb8.cell 6
      have r7 : wr.cell? ⟨T + 1, 7, none⟩ = some (.int .u8 (d7 : Int)) := hb8.cell 7
      have s0 : wr.cell? ⟨T + 3, 0, none⟩ = some (.int .u8 0) := hbR'.cell 0
      have s1 : wr.cell? ⟨T + 3, 1, none⟩ = some (.int .u8 0) := hbR'.cell 1
      have s2 : wr.cell? ⟨T + 3, 2, none⟩ = some (.int .u8 0) := hbR'.cell 2
      have s3 : wr.cell? ⟨T + 3, 3, none⟩ = some (.int .u8 0) := hbR'.cell 3
      have s4 : wr.cell? ⟨T + 3, 4, none⟩ = some (.int .u8 0) := hbR'.cell 4
      have s5 : wr.cell? ⟨T + 3, 5, none⟩ = some (.int .u8 0) := hbR'.cell 5
      have s6 : wr.cell? ⟨T + 3, 6, none⟩ = some (.int .u8 0) := hbR'.cell 6
      have s7 : wr.cell? ⟨T + 3, 7, none⟩ = some (.int .u8 0) := hbR'.cell 7
      have f0 : ∀ i, wr.frozen? ⟨T + 3, i, none⟩ = false := hbR'.free
      have Hd8 := hd hd8
      have HR := hd hbR'
      clear hb8 hd8 hbk hvW hv hbA hbB hbR hbR' hrlen
      go_wp2
      have hB := HR.out.set8 0 1 2 3 4 5 6 7 (.int .u8 (d0 : Int)) (.int .u8 (d1 : Int)) (.int .u8 (d2 : Int)) (.int .u8 (d3 : Int)) (.int .u8 (d4 : Int)) (.int .u8 (d5 : Int)) (.int .u8 (d6 : Int)) (.int .u8 (d7 : Int))
      have hF : Nw w wr := hfW.trans hf (fun i h => .inr (by have := HsT.out; omega))
      have hF8 := hF.set8 (T + 3) 0 1 2 3 4 5 6 7 (.int .u8 (d0 : Int)) (.int .u8 (d1 : Int)) (.int .u8 (d2 : Int)) (.int .u8 (d3 : Int)) (.int .u8 (d4 : Int)) (.int .u8 (d5 : Int)) (.int .u8 (d6 : Int)) (.int .u8 (d7 : Int)) (.inr (by have := HsT.out; omega))
      have hv8 : domV (replTo vars a b vars.length) = #[.int .u8 (d0 : Int), .int .u8 (d1 : Int), .int .u8 (d2 : Int), .int .u8 (d3 : Int), .int .u8 (d4 : Int), .int .u8 (d5 : Int), .int .u8 (d6 : Int), .int .u8 (d7 : Int)] := by rw [Hd8.out]; rfl
      generalize hX : ((((((((wr.setCell ⟨T + 1 + 1 + 1, 0, none⟩ (Value.int .u8 (d0 : Int))).setCell ⟨T + 1 + 1 + 1, 1, none⟩ (Value.int .u8 (d1 : Int))).setCell ⟨T + 1 + 1 + 1, 2, none⟩ (Value.int .u8 (d2 : Int))).setCell ⟨T + 1 + 1 + 1, 3, none⟩ (Value.int .u8 (d3 : Int))).setCell ⟨T + 1 + 1 + 1, 4, none⟩ (Value.int .u8 (d4 : Int))).setCell ⟨T + 1 + 1 + 1, 5, none⟩ (Value.int .u8 (d5 : Int))).setCell ⟨T + 1 + 1 + 1, 6, none⟩ (Value.int .u8 (d6 : Int))).setCell ⟨T + 1 + 1 + 1, 7, none⟩ (Value.int .u8 (d7 : Int))) = X
      rw [show T + 3 = T + 1 + 1 + 1 from rfl] at hB hF8
      rw [hX] at hB hF8
      rw [arr8] at hB
      obtain ⟨q0, q1, q2, q3, q4, q5, q6, q7⟩ := cells8 hB
      refine bodyPost_ret (v := .agg (domV (replTo vars a b vars.length))) ?_ rfl ⟨rfl, hF8⟩
      rw [hv8]
      simp [results, Try.results111, go_sem, q0, q1, q2, q3, q4, q5, q6, q7]
end Go.Proofs.Ytkjfpdfkcfgfkaa

/- Contract of the program's emptied. -/
namespace Go.Proofs.Ytkjfpdfkcfgfkaa
open Go.RowKit

theorem Try.arrDom : Try.prog.underlying 76 = some (.array 8 74) := by kernel_rfl
theorem slice_doms (n : Nat) (hn : n ≤ 8) (b : Nat) (W : World) : (Instr.sliceAt 76 (.pointer (some ⟨b, 0, none⟩)) none (some (.int .i64 (n : Int))) none).run Try.prog W = .ok (.slice (some ⟨b, 0, none⟩) n 8) W := by
  have h1 : Try.prog.arrayLen 76 = 8 := by kernel_rfl
  have h2 : Try.prog.elem 76 = 74 := by kernel_rfl
  rw [run_sliceAt_array_h W 76 ⟨b, 0, none⟩ (by rw [h1, h2]; exact Try.arrDom) .i64 n (by omega) (by rw [h1]; omega), h1, h2]
  simp [go_sem, slicedAt]

theorem containsSet_at (b o n cap : Nat) (xs : List Nat) (w : World) (hn : xs.length = n) (hl : xs.length ≤ 1000)
    (hc : ∀ i, i < xs.length → w.cell? ⟨b, o + i, none⟩ = some (.int .u8 (xs.getD i 0 : Nat))) :
    Calls Try.prog 77 #[.slice (some ⟨b, o, none⟩) n cap, .int .u8 0] w fun e w' => e = .returned (.bool (xs.contains 0)) ∧ w' = w := by
  subst hn
  exact containsSet_any b o cap xs w hl hc

/-- Has one of the first n domains no value? -/
def emptyB (n : Nat) (dn : List Nat) : Bool := (dn.take n).contains 0

set_option maxHeartbeats 800000 in
set_option maxRecDepth 1000000 in
theorem emptied_any (X : Nat) (szv : Value) (d : List Nat) (tv : Value) (l : Rest) (zs : List Int) (dn : List Nat) (w : World) (hX : Blk w X (workCells szv d tv l) 82)
    (hsz : Row w szv 3 (zs.map (Value.int .i64))) (hl : zs.length ≤ 8) (h8 : dn.length = 8) :
    Calls Try.prog 65 #[.pointer (some ⟨X, 0, none⟩), .agg (domV dn)] w fun e w' => e = .returned (.bool (emptyB zs.length dn)) ∧ Nw w w' := by
  have hf0 : Nw w (w.alloc (.cells (domV dn) 76)) := (Fr.refl _ w).alloc _
  have hb0 : Blk (w.alloc (.cells (domV dn) 76)) w.heap.size (domV dn) 76 := Blk.new _ _ _
  have hXlt := hX.lt
  have h1 : w.cell? ⟨X, 0, none⟩ = some szv := (hX.cell 0).trans (workCells_sz ..)
  have htl : (dn.take zs.length).length = zs.length := by simp; omega
  have hcs : ∀ i, i < (dn.take zs.length).length → (w.alloc (.cells (domV dn) 76)).cell? ⟨w.heap.size, 0 + i, none⟩ = some (.int .u8 ((dn.take zs.length).getD i 0 : Nat)) := fun i hi => by
    rw [Nat.zero_add, hb0.cell, domV_get dn i (by omega)]
    rw [htl] at hi
    simp [List.getElem?_take_of_lt hi]
  obtain ⟨ao, cap, hf, _⟩ := hsz.form
  simp only [List.length_map] at hf
  rw [hf] at h1
  have hsl := slice_doms zs.length hl
  obtain ⟨eb, heb⟩ : ∃ eb, emptyB zs.length dn = eb := ⟨_, rfl⟩
  have heb' : (dn.take zs.length).contains 0 = eb := heb
  rw [heb]
  have Heb := hd heb'
  clear heb heb'
  have Hcs := hd hcs
  have Hb0 := hd hb0
  clear hf hX hsz hcs hb0
  go_enter Try.func65, Try.ntmps65
  go_wp2_with (go_at_call 77; refine (containsSet_at w.heap.size 0 zs.length _ (dn.take zs.length) _ htl (by omega) Hcs.out).mono ?_; rw [Heb.out]; rintro e w' ⟨rfl, rfl⟩)
  go_ret
  exact ⟨rfl, hf0⟩
end Go.Proofs.Ytkjfpdfkcfgfkaa

/- The marks that ranges over a function leave among an activation's deferred calls. -/
namespace Go.Proofs.Ytkjfpdfkcfgfkaa
open Go.RowKit Go.Shelf

/-- The blocks of the marks Ds lie from base on, and nothing was deferred in a round. -/
def Marks (A : World) (base : Nat) (Ds : List Nat) : Prop := Ds.Nodup ∧ ∀ D ∈ Ds, base ≤ D ∧ A.heap[D]? = some (.deferred (some []))
theorem Marks.nil (A : World) (base : Nat) : Marks A base [] := ⟨List.nodup_nil, fun D h => by cases h⟩
theorem Marks.keeps {A B : World} {base : Nat} {Ds : List Nat} (h : Marks A base Ds) (k : KeepsLD A B) : Marks B base Ds :=
  ⟨h.1, fun D hD => ⟨(h.2 D hD).1, k.same D _ (h.2 D hD).2 rfl⟩⟩
theorem Marks.lt {A : World} {base : Nat} {Ds : List Nat} (h : Marks A base Ds) : ∀ D ∈ Ds, D < A.heap.size := fun D hD => lt_of_block (h.2 D hD).2
theorem Marks.bk {A B : World} {base lo : Nat} {Ds : List Nat} (h : Marks A base Ds) (hl : ∀ D ∈ Ds, D < lo) (hb : Bk lo A B) : Marks B base Ds := by
  obtain ⟨row, hg, hr⟩ := hb
  refine ⟨h.1, fun D hD => ⟨(h.2 D hD).1, ?_⟩⟩
  rw [hg.block D (h.lt D hD) (fun e => by have := (hr D e.symm).1; have := hl D hD; omega)]
  exact (h.2 D hD).2
theorem Marks.cons {A : World} {base D : Nat} {Ds : List Nat} (h : Marks A base Ds) (hb : base ≤ D) (hn : ∀ E ∈ Ds, E < D) (hD : A.heap[D]? = some (.deferred (some []))) : Marks A base (D :: Ds) := by
  refine ⟨List.nodup_cons.2 ⟨fun hm => ?_, h.1⟩, fun E hE => ?_⟩
  · have := hn D hm; omega
  · rcases List.mem_cons.1 hE with rfl | hE
    · exact ⟨hb, hD⟩
    · exact h.2 E hE

theorem leaves_marks {n : Nat} {fn : Func} {tmps : Array Value} {R : Ending → World → Prop} (J : World → Prop) (base : Nat) (hJ : ∀ A B, J A → Bk base A B → J B)
    (hend : ∀ A, J A → LeavesInM Fence.wide n Try.prog fn tmps R [] .returning A) : ∀ (Ds : List Nat) (A : World), J A → Marks A base Ds → LeavesInM Fence.wide n Try.prog fn tmps R (Ds.map mark) .returning A
  | [], A, hA, _ => hend A hA
  | D :: Ds, A, hA, hM => by
    have hD := hM.2 D (List.mem_cons_self ..)
    have hnd := List.nodup_cons.1 hM.1
    refine ⟨by simp, .inl ⟨D, A.putObj D (.deferred none), rfl, run_takeDeferred hD.2, ?_⟩⟩
    refine leaves_marks J base hJ hend Ds _ (hJ _ _ hA (Bk.put (.deferred none) hD.1 hD.2 rfl)) ⟨hnd.2, fun E hE => ⟨(hM.2 E (List.mem_cons_of_mem _ hE)).1, ?_⟩⟩
    rw [World.putObj_heap_other (fun e => hnd.1 (by rw [e] at hE; exact hE))]
    exact (hM.2 E (List.mem_cons_of_mem _ hE)).2
end Go.Proofs.Ytkjfpdfkcfgfkaa

/- A region that draws its order, whose last operations alone write: in a round of a range over a function. -/
namespace Go.Proofs.Ytkjfpdfkcfgfkaa
open Go.RowKit Go.Shelf

/-- Whatever order is drawn: the first n operations leave the world, the others come last, in their order. -/
theorem any_tail {P : Program} {Q : Exit → Act → World → Prop} {a : Act} {w : World} {l : List Oper} (n : Nat) (hB : Region.lexTailB .any l.toArray n = true)
    (h : wpStill P l.toArray w (fun a' => wpList P l.toArray Q (l.drop n) a' w) (l.take n) a) :
    wpAny P .any l.toArray Q l.toArray.size (Array.replicate l.toArray.size false) a w := by
  simp only [Region.lexTailB, Bool.and_eq_true, decide_eq_true_eq] at hB
  have hn : n < l.length := by simpa using hB.1.1.1.2
  have ht : (l.take n).length = n := by rw [List.length_take]; omega
  have hr : (l.drop n).length = l.toArray.size - n := by simp
  have start : HeadInv .any l.toArray n (Array.replicate l.toArray.size false) := by
    refine ⟨by simp, fun j oj _ hj => ?_, fun t _ h2 => getD_in (by simpa using h2) (getD_replicate_false _ _)⟩
    rw [getD_replicate_false] at hj
    cases hj
  have hhead := wpAnyL_lex (md := .any) (g := l.toArray.size - n) hB.1.1.1.1 hB.1.1.2 hB.1.2 hB.1.1.1.2 (l.take n) 0 _ a
    (fun j hj => by rw [ht] at hj; simp [hj]) (by rw [Nat.zero_add]; exact ht) start (by rw [ht]; exact hB.2) h
  have hall := wpAny_of_head (Q' := Q) (g := l.toArray.size - n) (fun listed a' hL => by
    have hseq := wpAny_of_seq (md := .any) (Q' := Q) (l.drop n) n listed a' w (fun j => by simp [List.getElem?_drop]) (by rw [hr]; exact hL.1) hL.2
    rwa [hr] at hseq) _ _ _ hhead
  rw [ht, show n + (l.toArray.size - n) = l.toArray.size by simp; omega] at hall
  exact hall

/-- An operation that is no defer statement, in a round. -/
theorem oper_in {P : Program} {o : Oper} {a : Act} {w : World} {K : Act → World → Prop} {Q : Exit → Act → World → Prop} (lp m : Nat) (hnd : ∀ c, o.op ≠ .defer c)
    (h : o.wp P a w K Q) : o.wpIn (Fence.wide.inRound lp) m P a w K Q := by
  refine ⟨fun _ _ => trivial, ?_⟩
  rw [Oper.semAt_eq _ _ _ hnd]
  unfold Oper.wp at h
  generalize hr : (execOp a.eval o).run P w = r at *
  cases r with
  | ok x w' =>
    cases x with
    | enter f args => exact ⟨(fun h => by cases h), CallsIn.inRound lp (callsIn_wide.2 h)⟩
    | row row args => exact ⟨(fun h => by cases h), fun c cs _ => let ⟨v, w2, r, s⟩ := h c cs; ⟨v, w2, r, stepsIn_wide.2 s⟩⟩
    | round l f tmps assign body => exact (h : False).elim
    | _ => exact h
  | halt x w' => cases x <;> exact h

theorem any_in {P : Program} {md : Region.Mode} {ops : Array Oper} {Q : Exit → Act → World → Prop} (lp m : Nat) (hQ : ∀ a w, ¬ Q .outgrown a w) (hnd : ∀ (j : Nat) (o : Oper), ops[j]? = some o → ∀ c, o.op ≠ .defer c) :
    ∀ (fuel : Nat) (listed : Array Bool) (a : Act) (w : World), wpAny P md ops Q fuel listed a w → wpAnyIn (Fence.wide.inRound lp) m P md ops Q fuel listed a w
  | 0, _, _, _, h => h
  | fuel + 1, listed, a, w, h => by
    refine ⟨h.1, fun i hi => ?_⟩
    have hw := h.2 i hi
    unfold wpOp at hw
    unfold wpOpIn
    cases ho : ops[i]? with
    | none => simp only [ho] at hw; exact any_in lp m hQ hnd fuel _ _ _ hw
    | some o =>
      simp only [ho] at hw
      by_cases hwant : Region.wanted o (yielded ops a.tmps) = true
      · simp only [hwant, if_true] at hw ⊢
        rcases hw with hw | ⟨_, x, y, hxy⟩
        · exact Oper.wpIn_mono (fun a w h' => any_in lp m hQ hnd fuel _ a w h') (oper_in lp m (hnd i o ho) hw)
        · exact (hQ x y hxy).elim
      · simp only [hwant] at hw ⊢
        exact ⟨fun _ _ => trivial, any_in lp m hQ hnd fuel _ _ _ hw⟩

/-- No operation of a list is a defer statement. -/
def noDefer (l : List Oper) : Bool := l.all (fun o => match o.op with | .defer _ => false | _ => true)

/-- **A region that draws its order, in a round**: the first m operations read, the others write. -/
theorem wpIn_tail {Q : Exit → Act → World → Prop} {a : Act} {w : World} {l : List Oper} {id lp k : Nat} (m : Nat) (hB : Region.lexTailB .any l.toArray m = true) (hnd : noDefer l = true) (hQ : ∀ a w, ¬ Q .outgrown a w)
    (h : wpStill Try.prog l.toArray w.drew (fun a' => wpList Try.prog l.toArray Q (l.drop m) a' w.drew) (l.take m) a) :
    (Code.region id l.toArray true).wpIn (Fence.wide.inRound lp) k Try.prog Q a w := by
  refine wpIn_region_any (by kernel_rfl) (any_in lp k hQ (fun j o ho c hc => ?_) _ _ _ _ (any_tail m hB h))
  have hmem : o ∈ l := by
    have := List.mem_of_getElem? (l := l) (i := j) (a := o) (by simpa using ho)
    exact this
  have := List.all_eq_true.1 hnd o hmem
  rw [hc] at this
  cases this
end Go.Proofs.Ytkjfpdfkcfgfkaa

/- Contract of rowSets.drop. -/
namespace Go.Proofs.Ytkjfpdfkcfgfkaa
open Go.RowKit Go.Shelf
attribute [local go_sem] Oper.semAt_some

/-- The rows that bear one of some values at an entry. -/
def orBr (br : List Nat) (i : Nat) (vs : List Nat) : Nat := vs.foldl (fun acc v => acc ||| br.getD (6 * i + v) 0) 0
theorem orBr_snoc (br : List Nat) (i : Nat) (vs : List Nat) (v : Nat) : orBr br i (vs ++ [v]) = orBr br i vs ||| br.getD (6 * i + v) 0 := by simp [orBr]
theorem orBr_lt (br : List Nat) (i : Nat) (hbr : ∀ j, br.getD j 0 < 18446744073709551616) (vs : List Nat) : orBr br i vs < 18446744073709551616 := by
  suffices h : ∀ (vs : List Nat) (acc : Nat), acc < 2 ^ 64 → vs.foldl (fun acc v => acc ||| br.getD (6 * i + v) 0) acc < 2 ^ 64 from h vs 0 (by decide)
  intro vs
  induction vs with
  | nil => intro acc h; exact h
  | cons v vs ih => intro acc h; exact ih _ (Nat.or_lt_two_pow h (hbr _))
/-- The live rows when the first k entries have been looked at. -/
def dropTo (br : List Nat) (vars : List Int) (dn : List Nat) (live : Nat) : Nat → Nat
  | 0 => live
  | k + 1 => dropTo br vars dn live k &&& orBr br k (vals (dn.getD (vars.getD k 0).toNat 0))
theorem dropTo_lt (br : List Nat) (vars : List Int) (dn : List Nat) (live : Nat) (hl : live < 18446744073709551616) : ∀ k, dropTo br vars dn live k < 18446744073709551616
  | 0 => hl
  | k + 1 => Nat.lt_of_le_of_lt Nat.and_le_left (dropTo_lt br vars dn live hl k)

theorem vals_lt6_fin : ∀ s : Fin 64, ∀ v ∈ vals s.val, v < 6 := by decide +kernel
theorem vals_lt6 {s v : Nat} (hs : s < 64) (hv : v ∈ vals s) : v < 6 := vals_lt6_fin ⟨s, hs⟩ v hv

/-- What holds between two rounds of drop. -/
structure DropI (w wr : World) (G g cap T : Nat) (nt : Bool) (br : List Nat) (live : Nat) (vars : List Int) (dn Ds : List Nat) : Prop where
  fr : Fr (fun k => k = G) w wr
  bG : Blk wr G (rsCells (.slice (some ⟨g, 0, none⟩) vars.length cap) nt br live) 142
  bT : Blk wr T #[.pointer (some ⟨G, 0, none⟩)] 115
  bD : Blk wr (T + 1) (domV dn) 76
  rv : Row wr (.slice (some ⟨g, 0, none⟩) vars.length cap) 3 (vars.map (Value.int .i64))
  ms : Marks wr w.heap.size Ds
theorem DropI.ext {w wr wx : World} {G g cap T : Nat} {nt : Bool} {br : List Nat} {live : Nat} {vars : List Int} {dn Ds : List Nat} {S : Nat → Prop} (h : DropI w wr G g cap T nt br live vars dn Ds) (f : Fr S wr wx)
    (hs : ∀ k, S k → wr.heap.size ≤ k) : DropI w wx G g cap T nt br live vars dn Ds := by
  have hn : ∀ k, k < wr.heap.size → ¬ S k := fun k hk hS => by have := hs k hS; omega
  have f' : Nw wr wx := f.mono (fun k hk => .inr (hs k hk))
  exact ⟨h.fr.trans f' (fun i x => x.elim), h.bG.nw f', h.bT.nw f', h.bD.nw f', h.rv.nw f', h.ms.keeps (f'.keeps (fun k x => x.elim))⟩
theorem DropI.bk {w wr wx : World} {G g cap T lo : Nat} {nt : Bool} {br : List Nat} {live : Nat} {vars : List Int} {dn Ds : List Nat} (h : DropI w wr G g cap T nt br live vars dn Ds) (hb : Bk lo wr wx) (hl : w.heap.size ≤ lo) (hD : ∀ D ∈ Ds, D < lo) :
    DropI w wx G g cap T nt br live vars dn Ds := ⟨h.fr.bk hb hl, h.bG.bk hb, h.bT.bk hb, h.bD.bk hb, h.rv.bk hb, h.ms.bk hD hb⟩
theorem DropI.put {w wr : World} {G g cap T : Nat} {nt : Bool} {br : List Nat} {live : Nat} {vars : List Int} {dn Ds : List Nat} (h : DropI w wr G g cap T nt br live vars dn Ds) (p : Addr) (u : Value) {cur : Array Value} {e : TypeId} (hp : Blk wr p.block cur e)
    (h1 : p.block ≠ G) (h2 : p.block ≠ T) (h3 : p.block ≠ T + 1) (h4 : p.block ≠ g) (h5 : w.heap.size ≤ p.block) : DropI w (wr.setCell p u) G g cap T nt br live vars dn Ds := by
  have f : Fr (fun k => k = p.block) wr (wr.setCell p u) := (Fr.refl _ wr).setCell p u (.inl rfl)
  exact ⟨h.fr.setCell p u (.inr h5), h.bG.other p u h1.symm, h.bT.other p u h2.symm, h.bD.other p u h3.symm, h.rv.fr f (fun k hk e => h4 (by cases hk; exact e.symm)),
    h.ms.keeps (f.keeps (fun k hk => by subst hk; exact ⟨_, _, hp⟩))⟩
theorem DropI.drew {w wr : World} {G g cap T : Nat} {nt : Bool} {br : List Nat} {live : Nat} {vars : List Int} {dn Ds : List Nat} (h : DropI w wr G g cap T nt br live vars dn Ds) : DropI w wr.drew G g cap T nt br live vars dn Ds :=
  ⟨h.fr.drew, h.bG, h.bT, h.bD, h.rv.drew, h.ms⟩

set_option maxHeartbeats 3200000 in
set_option maxRecDepth 1000000 in
theorem drop_any (G g cap : Nat) (nt : Bool) (br : List Nat) (live : Nat) (vars : List Int) (dn : List Nat) (w : World) (hG : Blk w G (rsCells (.slice (some ⟨g, 0, none⟩) vars.length cap) nt br live) 142)
    (hvs : Row w (.slice (some ⟨g, 0, none⟩) vars.length cap) 3 (vars.map (Value.int .i64))) (h8 : dn.length = 8) (h24 : br.length = 24) (hbr : ∀ j, br.getD j 0 < 18446744073709551616) (hlive : live < 18446744073709551616)
    (h4 : vars.length ≤ 4) (hv : ∀ i, i < vars.length → 0 ≤ vars.getD i 0 ∧ vars.getD i 0 < 8) (hd64 : ∀ q, dn.getD q 0 < 64) :
    Calls Try.prog 115 #[.pointer (some ⟨G, 0, none⟩), .agg (domV dn)] w fun e w' => e = .returned (.tuple #[]) ∧ Fr (fun k => k = G) w w' ∧
      Blk w' G (rsCells (.slice (some ⟨g, 0, none⟩) vars.length cap) nt br (dropTo br vars dn live vars.length)) 142 := by
  have hmf : ∀ (fn : Fn) (first cap : Array Value) (w : World), (Instr.makeFunc fn first cap).run Try.prog w = .ok (.func fn first cap) w := fun _ _ _ _ => rfl
  refine (callsIn_wide (n := 9)).1 ?_
  refine callsIn_of_wp_marks Try.func115 rfl trivial ?_ rfl
  simp only [Try.ntmps115, List.size_toArray, List.length_cons, List.length_nil, Nat.reduceAdd, Nat.reduceSub, Array.replicate_succ, Array.replicate_zero, List.push_toArray, List.append_toArray, List.nil_append, List.cons_append]
  have hc0 : w.cell? ⟨G, 0, none⟩ = some (.slice (some ⟨g, 0, none⟩) vars.length cap) := hG.cell 0
  have hGlt := hG.lt
  have hglt : g < w.heap.size := hvs.lt rfl
  have hgG : g ≠ G := fun e => by subst e; exact hvs.ne hG (by decide) rfl
  have hF0 : Nw w ((w.alloc (.cells #[.pointer (some ⟨G, 0, none⟩)] 115)).alloc (.cells (domV dn) 76)) := ((Fr.refl _ w).alloc _).alloc _
  have hI0 : DropI w ((w.alloc (.cells #[.pointer (some ⟨G, 0, none⟩)] 115)).alloc (.cells (domV dn) 76)) G g cap w.heap.size nt br live vars dn [] :=
    ⟨hF0.mono (fun i h => h.elim), hG.nw hF0, (Blk.new w _ _).alloc _, by have := Blk.new (w.alloc (.cells #[.pointer (some ⟨G, 0, none⟩)] 115)) (domV dn) 76; simpa using this, hvs.nw hF0, Marks.nil _ _⟩
  gi_wp2_with fail
  have HI0 := hd hI0
  clear hI0 hG hvs hc0 hF0
  refine wpIn_loop (fun a wr => ∃ (k : Nat) (Ds : List Nat) (u4 u5 u6 u7 u15 u16 u17 u18 u19 u20 u21 u22 u23 u24 u25 u26 u27 u28 u29 u30 u31 u32 u33 u34 u35 u36 u37 u38 u39 u40 u41 u42 : Value), k ≤ vars.length ∧ DropI w wr G g cap w.heap.size nt br (dropTo br vars dn live k) vars dn Ds ∧
    a = { tmps := #[.pointer (some ⟨G, 0, none⟩), .agg (domV dn), .pointer (some ⟨w.heap.size, 0, none⟩), .pointer (some ⟨w.heap.size + 1, 0, none⟩), u4, u5, u6, u7, .pointer (some ⟨G, 0, none⟩), .pointer (some ⟨G, 0, none⟩), .pointer (some ⟨G, 0, none⟩), .pointer (some ⟨G, 0, none⟩), .slice (some ⟨g, 0, none⟩) vars.length cap, .int .i64 vars.length, .int .i64 k, u15, u16, u17, u18, u19, u20, u21, u22, u23, u24, u25, u26, u27, u28, u29, u30, u31, u32, u33, u34, u35, u36, u37, u38, u39, u40, u41, u42], defers := Ds.map mark }) (fun a _ => vars.length - (intOf (a.tmps.getD 14 undef)).toNat) ?start ?round
  case start => exact ⟨0, [], undef, undef, undef, undef, undef, undef, undef, undef, undef, undef, undef, undef, undef, undef, undef, undef, undef, undef, undef, undef, undef, undef, undef, undef, undef, undef, undef, undef, undef, undef, undef, undef, Nat.zero_le _, HI0.out, rfl⟩
  case round =>
    rintro a wr ⟨k, Ds, u4, u5, u6, u7, u15, u16, u17, u18, u19, u20, u21, u22, u23, u24, u25, u26, u27, u28, u29, u30, u31, u32, u33, u34, u35, u36, u37, u38, u39, u40, u41, u42, hk, hI, rfl⟩
    clear HI0
    by_cases hlt : k < vars.length
    · have hvk := (hI.rv.at_ k (by simpa using hlt)).1
      simp only [List.getElem_map] at hvk
      obtain ⟨hv0, hv8⟩ := hv k hlt
      have hgd : vars.getD k 0 = vars[k] := by simp [hlt]
      rw [hgd] at hv0 hv8
      obtain ⟨q, hq⟩ : ∃ q : Nat, vars[k] = (q : Int) := ⟨vars[k].toNat, by omega⟩
      rw [hq] at hvk hv0 hv8
      have hq8 : q < 8 := by omega
      have hsx := hd64 q
      have hcD : ∀ A B, ((wr.alloc A).alloc B).cell? ⟨w.heap.size + 1, q, none⟩ = some (.int .u8 (dn.getD q 0 : Nat)) := fun A B => (((hI.bD.alloc A).alloc B).cell q).trans (domV_get dn q (by omega))
      have hnext : dropTo br vars dn live (k + 1) = dropTo br vars dn live k &&& orBr br k (vals (dn.getD q 0)) := by
        simp only [dropTo]
        rw [hgd, hq, Int.toNat_natCast]
      obtain ⟨sx, hsxe⟩ : ∃ sx, dn.getD q 0 = sx := ⟨_, rfl⟩
      rw [hsxe] at hcD hsx hnext
      have Hnext := hd hnext
      have HI := hd hI
      have hszr : w.heap.size + 1 < wr.heap.size := hI.bD.lt
      clear hnext hsxe hgd hq hI
      gi_wp2_with fail
      obtain ⟨W0, hW0⟩ : ∃ W0, W0 = (wr.alloc (.cells #[.int .i64 (k : Int)] 3)).alloc (.cells #[.int .u64 0] 138) := ⟨_, rfl⟩
      have hI1 : DropI w W0 G g cap w.heap.size nt br (dropTo br vars dn live k) vars dn Ds := by
        rw [hW0]
        exact HI.out.ext (((Fr.refl (fun _ => False) wr).alloc _).alloc _) (fun k x => x.elim)
      have hb4 : Blk W0 wr.heap.size #[.int .i64 (k : Int)] 3 := by rw [hW0]; exact (Blk.new wr _ _).alloc _
      have hb6 : Blk W0 (wr.heap.size + 1) #[.int .u64 0] 138 := by
        rw [hW0]
        have := Blk.new (wr.alloc (.cells #[.int .i64 (k : Int)] 3)) #[.int .u64 0] 138
        simpa using this
      have hsz0 : W0.heap.size = wr.heap.size + 2 := by rw [hW0]; simp
      have hDlt : ∀ D ∈ Ds, D < W0.heap.size := hI1.ms.lt
      rw [← hW0]
      have Hsz0 := hd hsz0
      have HDlt := hd hDlt
      clear hW0 hsz0 hDlt
      refine wp_each (show sx < 256 by omega) rfl (by simp) (fun pre W => DropI w W G g cap w.heap.size nt br (dropTo br vars dn live k) vars dn Ds ∧ Blk W wr.heap.size #[.int .i64 (k : Int)] 3 ∧ Blk W (wr.heap.size + 1) #[.int .u64 (orBr br k pre : Nat)] 138)
        (fun pre A B h hb => ⟨h.1.bk hb (by have := Hsz0.out; omega) HDlt.out, h.2.1.bk hb, h.2.2.bk hb⟩) ⟨hI1, hb4, hb6⟩ ?body ?done
      case body =>
        rintro l pre v W hpre ⟨hI2, hb4', hb6'⟩
        have hv6 : v < 6 := vals_lt6 hsx (by have := hpre.subset (List.mem_append_right pre (List.mem_singleton.2 rfl)); exact this)
        have hcG : W.cell? ⟨G, 2 + (6 * k + v), none⟩ = some (.int .u64 (br.getD (6 * k + v) 0 : Nat)) := (hI2.bG.cell _).trans (rsCells_br _ _ _ _ _ (by omega))
        rw [show 2 + (6 * k + v) = 2 + k * 6 + v from by omega] at hcG
        have hcT : W.cell? ⟨w.heap.size, 0, none⟩ = some (.pointer (some ⟨G, 0, none⟩)) := hI2.bT.cell 0
        have hc4 : W.cell? ⟨wr.heap.size, 0, none⟩ = some (.int .i64 (k : Int)) := hb4'.cell 0
        have hc6 : W.cell? ⟨wr.heap.size + 1, 0, none⟩ = some (.int .u64 (orBr br k pre : Nat)) := hb6'.cell 0
        have hf6 := hb6'.free 0
        have hol := orBr_lt br k hbr pre
        have hbl := hbr (6 * k + v)
        have hsn := orBr_snoc br k pre v
        obtain ⟨acc, hacc⟩ : ∃ acc, orBr br k pre = acc := ⟨_, rfl⟩
        obtain ⟨x, hx⟩ : ∃ x, br.getD (6 * k + v) 0 = x := ⟨_, rfl⟩
        rw [hacc] at hc6 hol hsn
        rw [hx] at hcG hbl hsn
        have Hsn := hd hsn
        have HI2 := hd hI2
        have Hb4 := hd hb4'
        have Hb6 := hd hb6'
        have hk0 : (0 : Int) ≤ (k : Int) := by omega
        have hk4 : (k : Int) < 4 := by omega
        have hv0' : (0 : Int) ≤ (v : Int) := by omega
        have hv6' : (v : Int) < 6 := by omega
        clear hsn hacc hx hI2 hb4' hb6' hI1 hb4 hb6 HI hvk hcD
        gi_wp2_with fail
        refine wpIn_tail 10 (by kernel_rfl) (by kernel_rfl) (fun a w h => h) ?_
        simp only [List.take_succ_cons, List.take_zero, List.drop_succ_cons, List.drop_zero]
        repeat still_step
        refine wpStill_nil ?_
        go_wp2
        have hI3 := (HI2.out.put ⟨wr.heap.size + 1, 0, none⟩ (.int .u64 (bits .or .u64 (acc : Int) (x : Int))) Hb6.out (by show wr.heap.size + 1 ≠ G; omega) (by show wr.heap.size + 1 ≠ w.heap.size; omega) (by show wr.heap.size + 1 ≠ w.heap.size + 1; omega) (by show wr.heap.size + 1 ≠ g; omega) (by show w.heap.size ≤ wr.heap.size + 1; omega)).drew
        have hF : Fr (fun j => j = wr.heap.size + 1) W (W.setCell ⟨wr.heap.size + 1, 0, none⟩ (.int .u64 (bits .or .u64 (acc : Int) (x : Int)))).drew := ((Fr.refl (fun j => j = wr.heap.size + 1) W).setCell _ _ (.inl rfl)).drew
        refine ⟨hF.keeps (fun j hj => by subst hj; exact ⟨_, _, Hb6.out⟩), hI3, Hb4.out.fr hF (by omega), ?_⟩
        have h6 := Hb6.out.set 0 (.int .u64 (bits .or .u64 (acc : Int) (x : Int)))
        rw [Hsn.out, ← u64_or_nat acc x hol hbl]
        exact h6.drew
      case done =>
        rintro D W hD ⟨hI2, hb4', hb6'⟩ hK
        have hol := orBr_lt br k hbr (vals sx)
        have hdl := dropTo_lt br vars dn live hlive k
        have hDs : Marks W w.heap.size (D :: Ds) := hI2.ms.cons (by have := Hsz0.out; omega) (fun E hE => by have := HDlt.out E hE; omega) hK
        have hcT : W.cell? ⟨w.heap.size, 0, none⟩ = some (.pointer (some ⟨G, 0, none⟩)) := hI2.bT.cell 0
        have hcL : W.cell? ⟨G, 26, none⟩ = some (.int .u64 (dropTo br vars dn live k : Nat)) := (hI2.bG.cell 26).trans (rsCells_live _ _ _ _ h24)
        have hfL := hI2.bG.free 26
        have hc6 : W.cell? ⟨wr.heap.size + 1, 0, none⟩ = some (.int .u64 (orBr br k (vals sx) : Nat)) := hb6'.cell 0
        obtain ⟨acc, hacc⟩ : ∃ acc, orBr br k (vals sx) = acc := ⟨_, rfl⟩
        obtain ⟨lv, hlv⟩ : ∃ lv, dropTo br vars dn live k = lv := ⟨_, rfl⟩
        rw [hacc] at hc6 hol Hnext
        rw [hlv] at hcL hdl Hnext hI2
        have HI2 := hd hI2
        have HDs := hd hDs
        clear hacc hlv hI2 hb4' hb6' hI1 hb4 hb6 HI hvk hcD hDs hK
        gi_wp2_with fail
        refine wpIn_wide.2 ?_
        go_still_tail 8, (by kernel_rfl)
        go_wp2
        have hF : Fr (fun j => j = G) W (W.setCell ⟨G, 26, none⟩ (.int .u64 (bits .and .u64 (lv : Int) (acc : Int)))).drew := ((Fr.refl (fun j => j = G) W).setCell _ _ (.inl rfl)).drew
        have hI3 : DropI w (W.setCell ⟨G, 26, none⟩ (.int .u64 (bits .and .u64 (lv : Int) (acc : Int)))).drew G g cap w.heap.size nt br (dropTo br vars dn live (k + 1)) vars dn (D :: Ds) := by
          refine ⟨HI2.out.fr.trans hF (fun i h => .inl h), ?_, HI2.out.bT.fr hF (by omega), HI2.out.bD.fr hF (by omega), HI2.out.rv.fr hF (fun j hj e => hgG (by cases hj; exact e)), HDs.out.keeps (hF.keeps (fun j hj => by subst hj; exact ⟨_, _, HI2.out.bG⟩))⟩
          have h6 := HI2.out.bG.set 26 (.int .u64 ((lv &&& acc : Nat) : Int))
          rw [rsCells_setLive _ _ _ _ _ h24, ← u64_and_nat lv acc hdl hol, ← Hnext.out] at h6
          exact h6.drew
        have HI3 := hd hI3
        clear hI3
        gi_wp2
        refine ⟨⟨k + 1, D :: Ds, _, _, _, _, _, _, _, _, _, _, _, _, _, _, _, _, _, _, _, _, _, _, _, _, _, _, _, _, _, _, _, _, by omega, HI3.out, rfl⟩, by simp [intOf]; omega⟩
    · obtain rfl : k = vars.length := by omega
      gi_wp2
      refine leaves_marks (fun A => Fr (fun j => j = G) w A ∧ Blk A G (rsCells (.slice (some ⟨g, 0, none⟩) vars.length cap) nt br (dropTo br vars dn live vars.length)) 142) w.heap.size
        (fun A B h hb => ⟨h.1.bk hb (Nat.le_refl _), h.2.bk hb⟩) (fun A h => ⟨_, results_none rfl _ _ _, rfl, h.1, h.2⟩) Ds wr ⟨hI.fr, hI.bG⟩ hI.ms
end Go.Proofs.Ytkjfpdfkcfgfkaa

/- Contract of rowSets.markCovered. -/
namespace Go.Proofs.Ytkjfpdfkcfgfkaa
open Go.RowKit Go.Shelf
attribute [local go_sem] Oper.semAt_some

/-- The values that a live row bears at an entry, laid over what there was. -/
def mkFold (br : List Nat) (live k : Nat) (vs : List Nat) (init : Nat) : Nat := vs.foldl (fun acc v => if live &&& br.getD (6 * k + v) 0 = 0 then acc else acc ||| 2 ^ v) init
theorem mkFold_snoc (br : List Nat) (live k : Nat) (vs : List Nat) (v init : Nat) :
    mkFold br live k (vs ++ [v]) init = if live &&& br.getD (6 * k + v) 0 = 0 then mkFold br live k vs init else mkFold br live k vs init ||| 2 ^ v := by simp [mkFold]
theorem mkFold_lt (br : List Nat) (live k : Nat) (vs : List Nat) (hv : ∀ v ∈ vs, v < 6) : ∀ init, init < 64 → mkFold br live k vs init < 64 := by
  induction vs with
  | nil => intro init h; exact h
  | cons v vs ih =>
    intro init h
    have hv6 : v < 6 := hv v (List.mem_cons_self ..)
    have hp : 2 ^ v < 2 ^ 6 := Nat.pow_lt_pow_right (by omega) hv6
    show mkFold br live k vs (if live &&& br.getD (6 * k + v) 0 = 0 then init else init ||| 2 ^ v) < 64
    refine ih (fun x hx => hv x (List.mem_cons_of_mem _ hx)) _ ?_
    split
    · exact h
    · exact Nat.or_lt_two_pow (n := 6) h hp
def markTo (br : List Nat) (live : Nat) (vars : List Int) (dn sp : List Nat) : Nat → List Nat
  | 0 => sp
  | k + 1 => (markTo br live vars dn sp k).set (vars.getD k 0).toNat (mkFold br live k (vals (dn.getD (vars.getD k 0).toNat 0)) ((markTo br live vars dn sp k).getD (vars.getD k 0).toNat 0))
theorem markTo_length (br : List Nat) (live : Nat) (vars : List Int) (dn sp : List Nat) : ∀ k, (markTo br live vars dn sp k).length = sp.length
  | 0 => rfl
  | k + 1 => by simp [markTo, markTo_length br live vars dn sp k]
theorem markTo_lt (br : List Nat) (live : Nat) (vars : List Int) (dn sp : List Nat) (hd : ∀ q, dn.getD q 0 < 64) (hs : ∀ q, sp.getD q 0 < 64) : ∀ k q, (markTo br live vars dn sp k).getD q 0 < 64
  | 0, q => hs q
  | k + 1, q => by
    have ih := markTo_lt br live vars dn sp hd hs k
    generalize hx : (vars.getD k 0).toNat = x
    have hstep : markTo br live vars dn sp (k + 1) = (markTo br live vars dn sp k).set x (mkFold br live k (vals (dn.getD x 0)) ((markTo br live vars dn sp k).getD x 0)) := by
      simp only [markTo]
      rw [hx]
    rw [hstep]
    have hf := mkFold_lt br live k (vals (dn.getD x 0)) (fun v hv => vals_lt6 (hd x) hv) _ (ih x)
    generalize mkFold br live k (vals (dn.getD x 0)) ((markTo br live vars dn sp k).getD x 0) = y at hf
    have hq := ih q
    generalize markTo br live vars dn sp k = m at hq
    simp only [List.getD, List.getElem?_set] at hq ⊢
    split
    · split
      · exact hf
      · simp
    · exact hq

/-- What holds between two rounds of markCovered. -/
structure MarkI (w wr : World) (G g cap T Dm Sp : Nat) (nt : Bool) (br : List Nat) (live : Nat) (vars : List Int) (dn sp Ds : List Nat) : Prop where
  fr : Fr (fun k => k = Sp) w wr
  bG : Blk wr G (rsCells (.slice (some ⟨g, 0, none⟩) vars.length cap) nt br live) 142
  bT : Blk wr T #[.pointer (some ⟨G, 0, none⟩)] 115
  bP : Blk wr (T + 1) #[.pointer (some ⟨Sp, 0, none⟩)] 127
  bD : Blk wr Dm (domV dn) 76
  bS : Blk wr Sp (domV sp) 76
  rv : Row wr (.slice (some ⟨g, 0, none⟩) vars.length cap) 3 (vars.map (Value.int .i64))
  ms : Marks wr w.heap.size Ds
theorem MarkI.nw {w wr wx : World} {G g cap T Dm Sp : Nat} {nt : Bool} {br : List Nat} {live : Nat} {vars : List Int} {dn sp Ds : List Nat} (h : MarkI w wr G g cap T Dm Sp nt br live vars dn sp Ds) (f : Nw wr wx) :
    MarkI w wx G g cap T Dm Sp nt br live vars dn sp Ds :=
  ⟨h.fr.trans f (fun _ x => x.elim), h.bG.nw f, h.bT.nw f, h.bP.nw f, h.bD.nw f, h.bS.nw f, h.rv.nw f, h.ms.keeps (f.keeps (fun _ x => x.elim))⟩
theorem MarkI.bk {w wr wx : World} {G g cap T Dm Sp lo : Nat} {nt : Bool} {br : List Nat} {live : Nat} {vars : List Int} {dn sp Ds : List Nat} (h : MarkI w wr G g cap T Dm Sp nt br live vars dn sp Ds) (hb : Bk lo wr wx) (hl : w.heap.size ≤ lo) (hD : ∀ D ∈ Ds, D < lo) :
    MarkI w wx G g cap T Dm Sp nt br live vars dn sp Ds := ⟨h.fr.bk hb hl, h.bG.bk hb, h.bT.bk hb, h.bP.bk hb, h.bD.bk hb, h.bS.bk hb, h.rv.bk hb, h.ms.bk hD hb⟩
/-- A value is laid into the supported ones. -/
theorem MarkI.put {w wr : World} {G g cap T Dm Sp : Nat} {nt : Bool} {br : List Nat} {live : Nat} {vars : List Int} {dn sp Ds : List Nat} (h : MarkI w wr G g cap T Dm Sp nt br live vars dn sp Ds) (q x : Nat)
    (h1 : Sp ≠ G) (h2 : Sp ≠ T) (h3 : Sp ≠ T + 1) (h4 : Sp ≠ Dm) (h5 : Sp ≠ g) : MarkI w (wr.setCell ⟨Sp, q, none⟩ (.int .u8 (x : Int))) G g cap T Dm Sp nt br live vars dn (sp.set q x) Ds := by
  have f : Fr (fun k => k = Sp) wr (wr.setCell ⟨Sp, q, none⟩ (.int .u8 (x : Int))) := (Fr.refl _ wr).setCell _ _ (.inl rfl)
  refine ⟨h.fr.trans f (fun i e => .inl e), h.bG.fr f (fun e => h1 e.symm), h.bT.fr f (fun e => h2 e.symm), h.bP.fr f (fun e => h3 e.symm), h.bD.fr f (fun e => h4 e.symm), ?_, h.rv.fr f (fun k hk e => h5 (by cases hk; exact e.symm)), h.ms.keeps (f.keeps (fun k hk => by subst hk; exact ⟨_, _, h.bS⟩))⟩
  rw [← domV_set]
  exact h.bS.set q _
theorem MarkI.drew {w wr : World} {G g cap T Dm Sp : Nat} {nt : Bool} {br : List Nat} {live : Nat} {vars : List Int} {dn sp Ds : List Nat} (h : MarkI w wr G g cap T Dm Sp nt br live vars dn sp Ds) : MarkI w wr.drew G g cap T Dm Sp nt br live vars dn sp Ds :=
  ⟨h.fr.drew, h.bG, h.bT, h.bP, h.bD, h.bS, h.rv.drew, h.ms⟩

set_option maxHeartbeats 3200000 in
set_option maxRecDepth 1000000 in
theorem markCovered_any (G g cap Dm Sp : Nat) (nt : Bool) (br : List Nat) (live : Nat) (vars : List Int) (dn sp : List Nat) (w : World) (hG : Blk w G (rsCells (.slice (some ⟨g, 0, none⟩) vars.length cap) nt br live) 142)
    (hvs : Row w (.slice (some ⟨g, 0, none⟩) vars.length cap) 3 (vars.map (Value.int .i64))) (hDm : Blk w Dm (domV dn) 76) (hSp : Blk w Sp (domV sp) 76) (hne : Sp ≠ Dm)
    (h8 : dn.length = 8) (hs8 : sp.length = 8) (h24 : br.length = 24) (hbr : ∀ j, br.getD j 0 < 18446744073709551616) (hlive : live < 18446744073709551616)
    (h4 : vars.length ≤ 4) (hv : ∀ i, i < vars.length → 0 ≤ vars.getD i 0 ∧ vars.getD i 0 < 8) (hd64 : ∀ q, dn.getD q 0 < 64) (hs64 : ∀ q, sp.getD q 0 < 64) :
    Calls Try.prog 117 #[.pointer (some ⟨G, 0, none⟩), .pointer (some ⟨Dm, 0, none⟩), .pointer (some ⟨Sp, 0, none⟩)] w fun e w' => e = .returned (.tuple #[]) ∧ Fr (fun k => k = Sp) w w' ∧
      Blk w' Sp (domV (markTo br live vars dn sp vars.length)) 76 := by
  have hmf : ∀ (fn : Fn) (first cap : Array Value) (w : World), (Instr.makeFunc fn first cap).run Try.prog w = .ok (.func fn first cap) w := fun _ _ _ _ => rfl
  refine (callsIn_wide (n := 9)).1 ?_
  refine callsIn_of_wp_marks Try.func117 rfl trivial ?_ rfl
  simp only [Try.ntmps117, List.size_toArray, List.length_cons, List.length_nil, Nat.reduceAdd, Nat.reduceSub, Array.replicate_succ, Array.replicate_zero, List.push_toArray, List.append_toArray, List.nil_append, List.cons_append]
  have hc0 : w.cell? ⟨G, 0, none⟩ = some (.slice (some ⟨g, 0, none⟩) vars.length cap) := hG.cell 0
  have hGlt := hG.lt
  have hSlt := hSp.lt
  have hDlt0 := hDm.lt
  have hglt : g < w.heap.size := hvs.lt rfl
  have hgG : g ≠ G := fun e => by subst e; exact hvs.ne hG (by decide) rfl
  have hSG : Sp ≠ G := fun e => by subst e; have := (hSp.inj hG).2; revert this; decide
  have hSg : Sp ≠ g := fun e => by subst e; exact hvs.ne hSp (by decide) rfl
  have hF0 : Nw w ((w.alloc (.cells #[.pointer (some ⟨G, 0, none⟩)] 115)).alloc (.cells #[.pointer (some ⟨Sp, 0, none⟩)] 127)) := ((Fr.refl _ w).alloc _).alloc _
  have hI0 : MarkI w ((w.alloc (.cells #[.pointer (some ⟨G, 0, none⟩)] 115)).alloc (.cells #[.pointer (some ⟨Sp, 0, none⟩)] 127)) G g cap w.heap.size Dm Sp nt br live vars dn sp [] :=
    ⟨hF0.mono (fun i h => h.elim), hG.nw hF0, (Blk.new w _ _).alloc _, by have := Blk.new (w.alloc (.cells #[.pointer (some ⟨G, 0, none⟩)] 115)) #[.pointer (some ⟨Sp, 0, none⟩)] 127; simpa using this, hDm.nw hF0, hSp.nw hF0, hvs.nw hF0, Marks.nil _ _⟩
  gi_wp2_with fail
  have HI0 := hd hI0
  clear hI0 hG hvs hc0 hF0 hDm hSp
  refine wpIn_loop (fun a wr => ∃ (k : Nat) (Ds : List Nat) (u6 u7 u8 u16 u17 u18 u19 u20 u21 u22 u23 u24 u25 u26 u27 u28 u29 u30 u31 u32 u33 u34 u35 u36 u37 u38 u39 u40 u41 u42 u43 u44 u45 u46 u47 u48 u49 u50 u51 : Value), k ≤ vars.length ∧ MarkI w wr G g cap w.heap.size Dm Sp nt br live vars dn (markTo br live vars dn sp k) Ds ∧
    a = { tmps := #[.pointer (some ⟨G, 0, none⟩), .pointer (some ⟨Dm, 0, none⟩), .pointer (some ⟨Sp, 0, none⟩), .pointer (some ⟨w.heap.size, 0, none⟩), undef, .pointer (some ⟨w.heap.size + 1, 0, none⟩), u6, u7, u8, .pointer (some ⟨G, 0, none⟩), .pointer (some ⟨G, 0, none⟩), .pointer (some ⟨G, 0, none⟩), .pointer (some ⟨G, 0, none⟩), .slice (some ⟨g, 0, none⟩) vars.length cap, .int .i64 vars.length, .int .i64 k, u16, u17, u18, u19, u20, u21, u22, u23, u24, u25, u26, u27, u28, u29, u30, u31, u32, u33, u34, u35, u36, u37, u38, u39, u40, u41, u42, u43, u44, u45, u46, u47, u48, u49, u50, u51], defers := Ds.map mark }) (fun a _ => vars.length - (intOf (a.tmps.getD 15 undef)).toNat) ?start ?round
  case start => exact ⟨0, [], undef, undef, undef, undef, undef, undef, undef, undef, undef, undef, undef, undef, undef, undef, undef, undef, undef, undef, undef, undef, undef, undef, undef, undef, undef, undef, undef, undef, undef, undef, undef, undef, undef, undef, undef, undef, undef, undef, undef, Nat.zero_le _, HI0.out, rfl⟩
  case round =>
    rintro a wr ⟨k, Ds, u6, u7, u8, u16, u17, u18, u19, u20, u21, u22, u23, u24, u25, u26, u27, u28, u29, u30, u31, u32, u33, u34, u35, u36, u37, u38, u39, u40, u41, u42, u43, u44, u45, u46, u47, u48, u49, u50, u51, hk, hI, rfl⟩
    clear HI0
    by_cases hlt : k < vars.length
    · have hvk := (hI.rv.at_ k (by simpa using hlt)).1
      simp only [List.getElem_map] at hvk
      obtain ⟨hv0, hv8⟩ := hv k hlt
      have hgd : vars.getD k 0 = vars[k] := by simp [hlt]
      rw [hgd] at hv0 hv8
      obtain ⟨q, hq⟩ : ∃ q : Nat, vars[k] = (q : Int) := ⟨vars[k].toNat, by omega⟩
      rw [hq] at hvk hv0 hv8
      have hq8 : q < 8 := by omega
      have hsx := hd64 q
      have hml := markTo_length br live vars dn sp k
      have hm64 := markTo_lt br live vars dn sp hd64 hs64 k q
      have hnext : markTo br live vars dn sp (k + 1) = (markTo br live vars dn sp k).set q (mkFold br live k (vals (dn.getD q 0)) ((markTo br live vars dn sp k).getD q 0)) := by
        simp only [markTo]
        rw [hgd, hq, Int.toNat_natCast]
      obtain ⟨sx, hsxe⟩ : ∃ sx, dn.getD q 0 = sx := ⟨_, rfl⟩
      obtain ⟨m0, hm0⟩ : ∃ m0, markTo br live vars dn sp k = m0 := ⟨_, rfl⟩
      rw [hsxe] at hsx hnext
      rw [hm0] at hnext hml hm64 hI
      have hcD : ∀ A B, ((wr.alloc A).alloc B).cell? ⟨Dm, q, none⟩ = some (.int .u8 (sx : Int)) := fun A B => by
        rw [← hsxe]
        exact (((hI.bD.alloc A).alloc B).cell q).trans (domV_get dn q (by omega))
      have Hnext := hd hnext
      have HI := hd hI
      have hszr : w.heap.size + 1 < wr.heap.size := hI.bP.lt
      clear hnext hsxe hgd hq hI hm0
      gi_wp2_with fail
      obtain ⟨W0, hW0⟩ : ∃ W0, W0 = (wr.alloc (.cells #[.int .i64 (k : Int)] 3)).alloc (.cells #[.int .i64 (q : Int)] 3) := ⟨_, rfl⟩
      have hI1 : MarkI w W0 G g cap w.heap.size Dm Sp nt br live vars dn m0 Ds := by
        rw [hW0]
        exact HI.out.nw (((Fr.refl (fun _ => False) wr).alloc _).alloc _)
      have hb6 : Blk W0 wr.heap.size #[.int .i64 (k : Int)] 3 := by rw [hW0]; exact (Blk.new wr _ _).alloc _
      have hb7 : Blk W0 (wr.heap.size + 1) #[.int .i64 (q : Int)] 3 := by
        rw [hW0]
        have := Blk.new (wr.alloc (.cells #[.int .i64 (k : Int)] 3)) #[.int .i64 (q : Int)] 3
        simpa using this
      have hsz0 : W0.heap.size = wr.heap.size + 2 := by rw [hW0]; simp
      have hDlt : ∀ D ∈ Ds, D < W0.heap.size := hI1.ms.lt
      have hcD0 : W0.cell? ⟨Dm, q, none⟩ = some (.int .u8 (sx : Int)) := by rw [hW0]; exact hcD _ _
      have hc7 : W0.cell? ⟨wr.heap.size + 1, 0, none⟩ = some (.int .i64 (q : Int)) := hb7.cell 0
      rw [← hW0]
      have Hsz0 := hd hsz0
      have HDlt := hd hDlt
      have HI1 := hd hI1
      have Hb6 := hd hb6
      have Hb7 := hd hb7
      clear hW0 hsz0 hDlt hI1 hb6 hb7 hcD
      refine wpIn_wide.2 ?_
      go_still (by kernel_rfl)
      go_wp2
      gi_wp2_with fail
      have hset0 : m0.set q (mkFold br live k [] (m0.getD q 0)) = m0 := by
        show m0.set q (m0.getD q 0) = m0
        apply List.ext_getElem
        · simp
        · intro i h1 h2
          rw [List.getElem_set]
          split
          · rename_i e; subst e; simp [h2]
          · rfl
      have Hset0 := hd hset0
      clear hset0
      show Code.wpIn _ _ _ _ _ _ W0.drew
      refine wp_each (show sx < 256 by omega) rfl (by simp) (fun pre W => MarkI w W G g cap w.heap.size Dm Sp nt br live vars dn (m0.set q (mkFold br live k pre (m0.getD q 0))) Ds ∧ Blk W wr.heap.size #[.int .i64 (k : Int)] 3 ∧ Blk W (wr.heap.size + 1) #[.int .i64 (q : Int)] 3)
        (fun pre A B h hb => ⟨h.1.bk hb (by have := Hsz0.out; show w.heap.size ≤ W0.heap.size; omega) HDlt.out, h.2.1.bk hb, h.2.2.bk hb⟩) ⟨by rw [Hset0.out]; exact HI1.out.drew, Hb6.out.drew, Hb7.out.drew⟩ ?body ?done
      case body =>
        rintro l pre v W hpre ⟨hI2, hb6', hb7'⟩
        have hmem : ∀ x ∈ pre ++ [v], x ∈ vals sx := fun x hx => hpre.subset hx
        have hv6 : v < 6 := vals_lt6 hsx (hmem v (List.mem_append_right pre (List.mem_singleton.2 rfl)))
        have hcG : W.cell? ⟨G, 2 + (6 * k + v), none⟩ = some (.int .u64 (br.getD (6 * k + v) 0 : Nat)) := (hI2.bG.cell _).trans (rsCells_br _ _ _ _ _ (by omega))
        rw [show 2 + (6 * k + v) = 2 + k * 6 + v from by omega] at hcG
        have hcL : W.cell? ⟨G, 26, none⟩ = some (.int .u64 (live : Int)) := (hI2.bG.cell 26).trans (rsCells_live _ _ _ _ h24)
        have hcT : W.cell? ⟨w.heap.size, 0, none⟩ = some (.pointer (some ⟨G, 0, none⟩)) := hI2.bT.cell 0
        have hcP : W.cell? ⟨w.heap.size + 1, 0, none⟩ = some (.pointer (some ⟨Sp, 0, none⟩)) := hI2.bP.cell 0
        have hc6 : W.cell? ⟨wr.heap.size, 0, none⟩ = some (.int .i64 (k : Int)) := hb6'.cell 0
        have hc7 : W.cell? ⟨wr.heap.size + 1, 0, none⟩ = some (.int .i64 (q : Int)) := hb7'.cell 0
        have hmf64 : mkFold br live k pre (m0.getD q 0) < 64 := mkFold_lt br live k pre (fun x hx => vals_lt6 hsx (hmem x (List.mem_append_left _ hx))) _ hm64
        have hcS : W.cell? ⟨Sp, q, none⟩ = some (.int .u8 (mkFold br live k pre (m0.getD q 0) : Nat)) := by
          rw [hI2.bS.cell, domV_get _ _ (by simp; omega)]
          simp [show q < m0.length by omega]
        have hfS := hI2.bS.free q
        have hbl := hbr (6 * k + v)
        have hsn := mkFold_snoc br live k pre v (m0.getD q 0)
        obtain ⟨acc, hacc⟩ : ∃ acc, mkFold br live k pre (m0.getD q 0) = acc := ⟨_, rfl⟩
        obtain ⟨x, hx⟩ : ∃ x, br.getD (6 * k + v) 0 = x := ⟨_, rfl⟩
        rw [hacc] at hcS hmf64 hsn hI2
        rw [hx] at hcG hbl hsn
        have hand := u64_and_nat live x hlive hbl
        have hk0 : (0 : Int) ≤ (k : Int) := by omega
        have hk4 : (k : Int) < 4 := by omega
        have hv0' : (0 : Int) ≤ (v : Int) := by omega
        have hv6' : (v : Int) < 6 := by omega
        have hq0' : (0 : Int) ≤ (q : Int) := by omega
        have hq8' : (q : Int) < 8 := by omega
        have Hsn := hd hsn
        have HI2 := hd hI2
        have Hb6 := hd hb6'
        have Hb7 := hd hb7'
        have Hmem := hd hmem
        clear hsn hacc hx hI2 hb6' hb7' HI1 HI hvk hmem
        by_cases hz : live &&& x = 0
        · rw [hz] at hand
          have hcond : mkFold br live k (pre ++ [v]) (m0.getD q 0) = acc := by rw [Hsn.out, if_pos hz]
          have Hcond := hd hcond
          clear hcond
          gi_wp2_with fail
          refine wpIn_tail 13 (by kernel_rfl) (by kernel_rfl) (fun a w h => h) ?_
          simp only [List.take_succ_cons, List.take_zero, List.drop_succ_cons, List.drop_zero]
          repeat still_step
          refine wpStill_nil ?_
          go_wp2
          gi_wp2
          refine ⟨((Fr.refl (fun _ => False) W).drew).keeps (fun _ x => x.elim), ?_, Hb6.out.drew, Hb7.out.drew⟩
          rw [Hcond.out]
          exact HI2.out.drew
        · have hnz : (((live &&& x : Nat) : Int) != 0) = true := by simp; omega
          have hcond : mkFold br live k (pre ++ [v]) (m0.getD q 0) = acc ||| 2 ^ v := by rw [Hsn.out, if_neg hz]
          have Hcond := hd hcond
          have hpv : 2 ^ v < 64 := Nat.pow_lt_pow_right (m := v) (n := 6) (by omega) hv6
          have hor := u8_or_nat acc (2 ^ v) (by omega) (by omega)
          have hone := one_any v W.drew.drew (by omega)
          obtain ⟨pv, hpve⟩ : ∃ pv, 2 ^ v = pv := ⟨_, rfl⟩
          rw [hpve] at Hcond hpv hor hone
          have Hone := hd hone
          clear hcond hpve hz hone
          gi_wp2_with fail
          refine wpIn_tail 13 (by kernel_rfl) (by kernel_rfl) (fun a w h => h) ?_
          simp only [List.take_succ_cons, List.take_zero, List.drop_succ_cons, List.drop_zero]
          repeat still_step
          refine wpStill_nil ?_
          go_wp2
          gi_wp2_with fail
          refine wpIn_tail 10 (by kernel_rfl) (by kernel_rfl) (fun a w h => h) ?_
          simp only [List.take_succ_cons, List.take_zero, List.drop_succ_cons, List.drop_zero]
          still_step
          still_step
          still_step
          still_step
          still_step
          still_step
          still_call Hone.out
          repeat still_step
          refine wpStill_nil ?_
          go_wp2
          have hF : Fr (fun j => j = Sp) W (W.setCell ⟨Sp, q, none⟩ (.int .u8 ((acc ||| pv : Nat) : Int))).drew.drew := (((Fr.refl (fun j => j = Sp) W).setCell _ _ (.inl rfl)).drew).drew
          refine ⟨hF.keeps (fun j hj => by subst hj; exact ⟨_, _, HI2.out.bS⟩), ?_, Hb6.out.fr hF (by omega), Hb7.out.fr hF (by omega)⟩
          rw [Hcond.out]
          have h5 := ((HI2.out.put q (acc ||| pv) hSG (by omega) (by omega) hne hSg).drew).drew
          rw [List.set_set] at h5
          exact h5
      case done =>
        rintro D W hD ⟨hI2, hb6', hb7'⟩ hK
        have hDs : Marks W w.heap.size (D :: Ds) := hI2.ms.cons (by have := Hsz0.out; have hD' : W0.heap.size ≤ D := hD; omega) (fun E hE => by have := HDlt.out E hE; have hD' : W0.heap.size ≤ D := hD; omega) hK
        have hI3 : MarkI w W G g cap w.heap.size Dm Sp nt br live vars dn (markTo br live vars dn sp (k + 1)) (D :: Ds) := by
          rw [Hnext.out]
          exact ⟨hI2.fr, hI2.bG, hI2.bT, hI2.bP, hI2.bD, hI2.bS, hI2.rv, hDs⟩
        have HI3 := hd hI3
        clear hI3 hDs hI2 hb6' hb7' hK hvk HI HI1
        gi_wp2
        refine ⟨⟨k + 1, D :: Ds, _, _, _, _, _, _, _, _, _, _, _, _, _, _, _, _, _, _, _, _, _, _, _, _, _, _, _, _, _, _, _, _, _, _, _, _, _, _, _, by omega, HI3.out, rfl⟩, by simp [intOf]; omega⟩
    · obtain rfl : k = vars.length := by omega
      gi_wp2
      refine leaves_marks (fun A => Fr (fun j => j = Sp) w A ∧ Blk A Sp (domV (markTo br live vars dn sp vars.length)) 76) w.heap.size
        (fun A B h hb => ⟨h.1.bk hb (Nat.le_refl _), h.2.bk hb⟩) (fun A h => ⟨_, results_none rfl _ _ _, rfl, h.1, h.2⟩) Ds wr ⟨hI.fr, hI.bS⟩ hI.ms
end Go.Proofs.Ytkjfpdfkcfgfkaa

/- Contract of rowSets.Narrow where the table is not Not. -/
namespace Go.Proofs.Ytkjfpdfkcfgfkaa
open Go.RowKit

theorem Row.ints {w : World} {g cap : Nat} {zs : List Int} (h : Row w (.slice (some ⟨g, 0, none⟩) zs.length cap) 3 (zs.map (Value.int .i64))) : IntsAt w (some ⟨g, 0, none⟩) zs := fun i hi => by
  refine ⟨g, 0, rfl, h.lt rfl, ?_⟩
  rw [Nat.zero_add, (h.at_ i (by simpa using hi)).1]
  simp [hi]

def zero8 : List Nat := [0, 0, 0, 0, 0, 0, 0, 0]
/-- What a table of Way 1 (not Not) makes of domains: the live rows, and the domains. -/
def nLive (br : List Nat) (live : Nat) (vars : List Int) (dn : List Nat) : Nat := dropTo br vars dn live vars.length
def nDom (br : List Nat) (live : Nat) (vars : List Int) (dn : List Nat) : List Nat := replTo vars dn (markTo br (nLive br live vars dn) vars dn zero8 vars.length) vars.length

theorem domV8 {d : List Nat} (h : d.length = 8) : ∃ v0 v1 v2 v3 v4 v5 v6 v7 : Value, domV d = #[v0, v1, v2, v3, v4, v5, v6, v7] := by
  obtain ⟨d0, d1, d2, d3, d4, d5, d6, d7, rfl⟩ := list8 h
  exact ⟨_, _, _, _, _, _, _, _, rfl⟩

theorem domV_one (d : List Nat) {v0 v1 v2 v3 v4 v5 v6 v7 : Value} (h : domV d = #[v0, v1, v2, v3, v4, v5, v6, v7]) :
    (∃ x : Int, v0 = .int .u8 x) ∧ (∃ x : Int, v1 = .int .u8 x) ∧ (∃ x : Int, v2 = .int .u8 x) ∧ (∃ x : Int, v3 = .int .u8 x) ∧ (∃ x : Int, v4 = .int .u8 x) ∧ (∃ x : Int, v5 = .int .u8 x) ∧ (∃ x : Int, v6 = .int .u8 x) ∧ (∃ x : Int, v7 = .int .u8 x) := by
  have hl : d.length = 8 := by have := congrArg Array.size h; simpa [domV] using this
  obtain ⟨d0, d1, d2, d3, d4, d5, d6, d7, rfl⟩ := list8 hl
  simp only [domV, List.map_cons, List.map_nil] at h
  injection h with h
  simp only [List.cons.injEq, and_true] at h
  obtain ⟨h0, h1, h2, h3, h4, h5, h6, h7⟩ := h
  exact ⟨⟨_, h0.symm⟩, ⟨_, h1.symm⟩, ⟨_, h2.symm⟩, ⟨_, h3.symm⟩, ⟨_, h4.symm⟩, ⟨_, h5.symm⟩, ⟨_, h6.symm⟩, ⟨_, h7.symm⟩⟩

theorem zero8_lt (q : Nat) : zero8.getD q 0 < 64 := by
  simp only [zero8, List.getD]
  rcases q with _ | _ | _ | _ | _ | _ | _ | _ | q <;> simp

set_option maxHeartbeats 1600000 in
set_option maxRecDepth 1000000 in
theorem narrow_any (G g cap : Nat) (br : List Nat) (live : Nat) (vars : List Int) (dn : List Nat) (w : World) (hG : Blk w G (rsCells (.slice (some ⟨g, 0, none⟩) vars.length cap) false br live) 142)
    (hvs : Row w (.slice (some ⟨g, 0, none⟩) vars.length cap) 3 (vars.map (Value.int .i64)))
    (h8 : dn.length = 8) (h24 : br.length = 24) (hbr : ∀ j, br.getD j 0 < 18446744073709551616) (hlive : live < 18446744073709551616)
    (h4 : vars.length ≤ 4) (hv : ∀ i, i < vars.length → 0 ≤ vars.getD i 0 ∧ vars.getD i 0 < 8) (hd64 : ∀ q, dn.getD q 0 < 64) :
    Calls Try.prog 113 #[.pointer (some ⟨G, 0, none⟩), .agg (domV dn)] w fun e w' => e = .returned (.agg (domV (nDom br live vars dn))) ∧ Fr (fun k => k = G) w w' ∧
      Blk w' G (rsCells (.slice (some ⟨g, 0, none⟩) vars.length cap) false br (nLive br live vars dn)) 142 := by
  obtain ⟨v0, v1, v2, v3, v4, v5, v6, v7, hdv⟩ := domV8 h8
  have hGlt := hG.lt
  have hglt : g < w.heap.size := hvs.lt rfl
  have hgG : g ≠ G := fun e => by subst e; exact hvs.ne hG (by decide) rfl
  obtain ⟨W, hW⟩ : ∃ W, W = (w.alloc (.cells (domV dn) 76)).alloc (.cells (domV zero8) 76) := ⟨_, rfl⟩
  have hfW : Nw w W := by rw [hW]; exact ((Fr.refl _ w).alloc _).alloc _
  have hbD : Blk W w.heap.size (domV dn) 76 := by rw [hW]; exact (Blk.new _ _ _).alloc _
  have hbR : Blk W (w.heap.size + 1) (domV zero8) 76 := by
    rw [hW]
    have := Blk.new (w.alloc (.cells (domV dn) 76)) (domV zero8) 76
    simpa using this
  have hsW : W.heap.size = w.heap.size + 2 := by rw [hW]; simp
  have hGW := hG.nw hfW
  have hvW := hvs.nw hfW
  obtain ⟨c0, c1, c2, c3, c4, c5, c6, c7⟩ := cells8 (hdv ▸ hbD)
  have HbD := hd hbD
  have HbR := hd hbR
  have HW := hd hW
  have HsW := hd hsW
  have Hdv := hd hdv
  have HGW := hd hGW
  have HvW := hd hvW
  clear hW hsW hbD hbR hdv hG hvs hGW hvW
  go_enter Try.func113, Try.ntmps113
  go_upto_region 1 with fail
  rw [show (w.alloc (Obj.cells (domV dn) 76)).alloc (Obj.cells #[Value.int .u8 0, .int .u8 0, .int .u8 0, .int .u8 0, .int .u8 0, .int .u8 0, .int .u8 0, .int .u8 0] 76) = W from HW.out.symm]
  go_wp2_with fail
  rw [← Hdv.out]
  refine (drop_any G g cap false br live vars dn W HGW.out HvW.out h8 h24 hbr hlive h4 hv hd64).mono ?_
  rintro e w1 ⟨rfl, hf1, hb1⟩
  have hs1 : w.heap.size + 2 ≤ w1.heap.size := by have := hf1.size; have := HsW.out; omega
  have hbD1 : Blk w1 w.heap.size (domV dn) 76 := HbD.out.fr hf1 (by omega)
  have hbR1 : Blk w1 (w.heap.size + 1) (domV zero8) 76 := HbR.out.fr hf1 (by omega)
  have hrv1 := HvW.out.fr hf1 (fun k hk e => hgG (by cases hk; exact e))
  have hnt : w1.cell? ⟨G, 1, none⟩ = some (.bool false) := hb1.cell 1
  have hb1' : Blk w1 G (rsCells (.slice (some ⟨g, 0, none⟩) vars.length cap) false br (nLive br live vars dn)) 142 := hb1
  have hlv : nLive br live vars dn < 18446744073709551616 := dropTo_lt br vars dn live hlive _
  obtain ⟨X, hX⟩ : ∃ X, X = w1.alloc (.cells (domV zero8) 76) := ⟨_, rfl⟩
  have hfX : Nw w1 X := by rw [hX]; exact (Fr.refl _ w1).alloc _
  have hbS : Blk X w1.heap.size (domV zero8) 76 := by rw [hX]; exact Blk.new _ _ _
  have hntX : X.cell? ⟨G, 1, none⟩ = some (.bool false) := (hb1.nw hfX).cell 1
  have HX := hd hX
  have HbS := hd hbS
  have Hb1 := hd (hb1'.nw hfX)
  have HbD1 := hd (hbD1.nw hfX)
  have HbR1 := hd (hbR1.nw hfX)
  have Hrv1 := hd (hrv1.nw hfX)
  clear hb1 hb1' hbD1 hbR1 hrv1 hX hbS c0 c1 c2 c3 c4 c5 c6 c7 hnt
  go_upto_region 3 with fail
  rw [show w1.alloc (Obj.cells #[Value.int .u8 0, .int .u8 0, .int .u8 0, .int .u8 0, .int .u8 0, .int .u8 0, .int .u8 0, .int .u8 0] 76) = X from HX.out.symm]
  obtain ⟨m, hm⟩ : ∃ m, markTo br (nLive br live vars dn) vars dn zero8 vars.length = m := ⟨_, rfl⟩
  have hmlen : m.length = 8 := by rw [← hm, markTo_length]; rfl
  have hfin : nDom br live vars dn = replTo vars dn m vars.length := by simp only [nDom]; rw [hm]
  have Hm := hd hm
  have Hfin := hd hfin
  clear hm hfin
  go_wp2_with (go_at_call 117; refine (markCovered_any G g cap w.heap.size w1.heap.size false br (nLive br live vars dn) vars dn zero8 X Hb1.out Hrv1.out HbD1.out HbS.out (by omega) h8 rfl h24 hbr hlv h4 hv hd64 zero8_lt).mono ?_; rintro e w2 ⟨rfl, hf2, hb2⟩)
  have hs2 := hf2.size
  have hfXs := hfX.size
  have hb2' : Blk w2 w1.heap.size (domV m) 76 := by rw [← Hm.out]; exact hb2
  have hG2 := Hb1.out.fr hf2 (by omega)
  have hD2 := HbD1.out.fr hf2 (by omega)
  have hR2 := HbR1.out.fr hf2 (by omega)
  have hv2 := Hrv1.out.fr hf2 (fun k hk e => by have e' : g = w1.heap.size := by cases hk; exact e
                                                omega)
  have hcG : w2.cell? ⟨G, 0, none⟩ = some (.slice (some ⟨g, 0, none⟩) vars.length cap) := hG2.cell 0
  obtain ⟨m0, m1, m2, m3, m4, m5, m6, m7, hmv⟩ := domV8 hmlen
  obtain ⟨c0, c1, c2, c3, c4, c5, c6, c7⟩ := cells8 (Hdv.out ▸ hD2)
  obtain ⟨s0, s1, s2, s3, s4, s5, s6, s7⟩ := cells8 (hmv ▸ hb2')
  have Hv2 := hd (hv2.drew.ints)
  have HG2 := hd hG2
  have HR2 := hd hR2
  have Hmv := hd hmv
  have HF2 : Hid (Fr (fun k => k = G) w w2) := ((hfW.mono (fun i h => h.elim)).trans hf1 (fun i h => .inl h)).trans (hfX.mono (fun i h => h.elim)) (fun i h => .inl h) |>.trans hf2 (fun i h => .inr (by omega))
  clear hb2 hb2' hG2 hD2 hR2 hv2 hmv
  go_still_tail 6, (by kernel_rfl)
  go_wp2_with fail
  rw [← Hdv.out, ← Hmv.out]
  refine (replaced_any (some ⟨g, 0, none⟩) cap vars dn m _ h4 hv Hv2.out h8 hmlen).mono ?_
  rintro e w3 ⟨rfl, hf3⟩
  have hrl : (replTo vars dn m vars.length).length = 8 := by rw [replTo_length]; exact h8
  obtain ⟨r0, r1, r2, r3, r4, r5, r6, r7, hrv⟩ := domV8 hrl
  obtain ⟨a0, a1, a2, a3, a4, a5, a6, a7, hav⟩ := domV8 (d := zero8) rfl
  have hR3 : Blk w3 (w.heap.size + 1) #[a0, a1, a2, a3, a4, a5, a6, a7] 76 := hav ▸ (HR2.out.drew.nw hf3)
  obtain ⟨t0, t1, t2, t3, t4, t5, t6, t7⟩ := cells8 hR3
  have hfz : ∀ i, w3.frozen? ⟨w.heap.size + 1, i, none⟩ = false := hR3.free
  have o0 : ∀ i, i < 8 → (#[r0, r1, r2, r3, r4, r5, r6, r7] : Array Value).size = 8 := fun _ _ => rfl
  rw [hrv]
  have Hrv := hd hrv
  have HR3 := hd hR3
  have HF3 : Hid (Fr (fun k => k = G) w w3) := (HF2.out.drew).trans hf3 (fun i h => h.elim)
  have HG3 := hd (HG2.out.drew.nw hf3)
  have ho := domV_one (replTo vars dn m vars.length) hrv
  clear hrv hav hR3 c0 c1 c2 c3 c4 c5 c6 c7 s0 s1 s2 s3 s4 s5 s6 s7 o0
  obtain ⟨⟨y0, rfl⟩, ⟨y1, rfl⟩, ⟨y2, rfl⟩, ⟨y3, rfl⟩, ⟨y4, rfl⟩, ⟨y5, rfl⟩, ⟨y6, rfl⟩, ⟨y7, rfl⟩⟩ := ho
  go_wp2
  have hB := HR3.out.set8 0 1 2 3 4 5 6 7 (.int .u8 y0) (.int .u8 y1) (.int .u8 y2) (.int .u8 y3) (.int .u8 y4) (.int .u8 y5) (.int .u8 y6) (.int .u8 y7)
  have hF8 := HF3.out.set8 (w.heap.size + 1) 0 1 2 3 4 5 6 7 (.int .u8 y0) (.int .u8 y1) (.int .u8 y2) (.int .u8 y3) (.int .u8 y4) (.int .u8 y5) (.int .u8 y6) (.int .u8 y7) (.inr (by omega))
  have hFg := (Fr.refl (fun k => k = w.heap.size + 1) w3).set8 (w.heap.size + 1) 0 1 2 3 4 5 6 7 (.int .u8 y0) (.int .u8 y1) (.int .u8 y2) (.int .u8 y3) (.int .u8 y4) (.int .u8 y5) (.int .u8 y6) (.int .u8 y7) (.inl rfl)
  have hG8 := HG3.out.fr hFg (by omega)
  rw [arr8] at hB
  generalize hX8 : ((((((((w3.setCell ⟨w.heap.size + 1, 0, none⟩ (Value.int .u8 y0)).setCell ⟨w.heap.size + 1, 1, none⟩ (Value.int .u8 y1)).setCell ⟨w.heap.size + 1, 2, none⟩ (Value.int .u8 y2)).setCell ⟨w.heap.size + 1, 3, none⟩ (Value.int .u8 y3)).setCell ⟨w.heap.size + 1, 4, none⟩ (Value.int .u8 y4)).setCell ⟨w.heap.size + 1, 5, none⟩ (Value.int .u8 y5)).setCell ⟨w.heap.size + 1, 6, none⟩ (Value.int .u8 y6)).setCell ⟨w.heap.size + 1, 7, none⟩ (Value.int .u8 y7)) = X8 at hB hF8 hG8 ⊢
  obtain ⟨q0, q1, q2, q3, q4, q5, q6, q7⟩ := cells8 hB
  refine bodyPost_ret (v := .agg (domV (nDom br live vars dn))) ?_ rfl ⟨rfl, hF8, hG8⟩
  rw [Hfin.out, Hrv.out]
  simp [results, Try.results113, go_sem, q0, q1, q2, q3, q4, q5, q6, q7]
end Go.Proofs.Ytkjfpdfkcfgfkaa

/- Contract of wake where there is one table, of Way 1. -/
namespace Go.Proofs.Ytkjfpdfkcfgfkaa
open Go.RowKit

/-- Twelve marks as cells. -/
abbrev mkV (b : Bool) : Array Value := #[.bool b, .bool false, .bool false, .bool false, .bool false, .bool false, .bool false, .bool false, .bool false, .bool false, .bool false, .bool false]

theorem meth_changed (G : Nat) (v : Value) (W : World) (h : W.cell? ⟨G, 0, none⟩ = some v) :
    (method 286 115 (.pointer (some ⟨G, 0, none⟩)) "Changed").run Try.prog W = .ok (105, .agg #[v]) W := by
  have h1 : (method 286 115 (.pointer (some ⟨G, 0, none⟩)) "Changed").run Try.prog W =
      match W.cell? ⟨G, 0, none⟩ with
      | some v => .ok (105, .agg #[v]) W
      | none => match W.farLoad Try.prog ⟨G, 0, none⟩ (Mode.plain == .atomic) with
        | .ok (v, _) => .ok (105, .agg #[v]) W
        | .error h => .halt h W := by kernel_rfl
  rw [h1, h]
theorem meth_narrow (G : Nat) (W : World) : (method 286 115 (.pointer (some ⟨G, 0, none⟩)) "Narrow").run Try.prog W = .ok (113, .pointer (some ⟨G, 0, none⟩)) W := by kernel_rfl

set_option maxHeartbeats 1600000 in
set_option maxRecDepth 1000000 in
theorem wake_one (X M tb tcap G g cap : Nat) (szv : Value) (d : List Nat) (l : Rest) (nt : Bool) (br : List Nat) (live : Nat) (vars : List Int) (a b : List Nat) (mk : Bool) (w : World)
    (hX : Blk w X (workCells szv d (.slice (some ⟨tb, 0, none⟩) 1 tcap) l) 82) (hd8 : d.length = 8) (ht : Row w (.slice (some ⟨tb, 0, none⟩) 1 tcap) 93 [.iface 115 (.pointer (some ⟨G, 0, none⟩))])
    (hG : Blk w G (rsCells (.slice (some ⟨g, 0, none⟩) vars.length cap) nt br live) 142) (hvs : Row w (.slice (some ⟨g, 0, none⟩) vars.length cap) 3 (vars.map (Value.int .i64)))
    (h4 : vars.length ≤ 4) (hv : ∀ i, i < vars.length → 0 ≤ vars.getD i 0 ∧ vars.getD i 0 < 8) (ha : a.length = 8) (hb : b.length = 8) (hM : Blk w M (mkV mk) 91) :
    Calls Try.prog 56 #[.pointer (some ⟨X, 0, none⟩), .pointer (some ⟨M, 0, none⟩), .agg (domV a), .agg (domV b)] w fun e w' => e = .returned (.tuple #[]) ∧ Fr (fun k => k = M) w w' ∧
      Blk w' M (mkV (mk || changedB vars a b vars.length)) 91 := by
  obtain ⟨a0, a1, a2, a3, a4, a5, a6, a7, hav⟩ := domV8 ha
  obtain ⟨b0, b1, b2, b3, b4, b5, b6, b7, hbv⟩ := domV8 hb
  obtain ⟨W, hW⟩ : ∃ W, W = (w.alloc (.cells (domV a) 76)).alloc (.cells (domV b) 76) := ⟨_, rfl⟩
  have hfW : Nw w W := by rw [hW]; exact ((Fr.refl _ w).alloc _).alloc _
  have hbA : Blk W w.heap.size (domV a) 76 := by rw [hW]; exact (Blk.new _ _ _).alloc _
  have hbB : Blk W (w.heap.size + 1) (domV b) 76 := by
    rw [hW]
    have := Blk.new (w.alloc (.cells (domV a) 76)) (domV b) 76
    simpa using this
  obtain ⟨c0, c1, c2, c3, c4, c5, c6, c7⟩ := cells8 (hav ▸ hbA)
  obtain ⟨e0, e1, e2, e3, e4, e5, e6, e7⟩ := cells8 (hbv ▸ hbB)
  have hct : W.cell? ⟨X, 9, none⟩ = some (.slice (some ⟨tb, 0, none⟩) 1 tcap) := ((hX.nw hfW).cell 9).trans (workCells_tabs _ _ _ _ hd8)
  have hc1 : W.cell? ⟨tb, 0, none⟩ = some (.iface 115 (.pointer (some ⟨G, 0, none⟩))) := ((ht.nw hfW).at_ 0 (by simp)).1
  have hcG : W.cell? ⟨G, 0, none⟩ = some (.slice (some ⟨g, 0, none⟩) vars.length cap) := (hG.nw hfW).cell 0
  have hvW := hd ((hvs.nw hfW).ints)
  have hMW := hd (hM.nw hfW)
  have hcM : W.cell? ⟨M, 0, none⟩ = some (.bool mk) := hMW.out.cell 0
  have hfM := hMW.out.free 0
  have HW := hd hW
  have Hav := hd hav
  have Hbv := hd hbv
  clear hW hav hbv hbA hbB hX ht hG hvs hM
  have hmc := meth_changed G _ W hcG
  go_enter Try.func56, Try.ntmps56
  go_upto_region 1 with fail
  rw [← HW.out]
  go_wp2_with fail
  refine wp_loop_rounds 2 ?_
  rw [rounds_succ]
  go_wp2_with fail
  rw [← Hav.out, ← Hbv.out]
  refine (changed_any (some ⟨g, 0, none⟩) cap vars a b W h4 hv hvW.out ha hb).mono ?_
  cases hch : changedB vars a b vars.length with
  | true =>
    have Hch := hd hch
    rintro e w1 ⟨rfl, hf1⟩
    have hM1 := hMW.out.nw hf1
    have hcM1 : w1.cell? ⟨M, 0, none⟩ = some (.bool mk) := hM1.cell 0
    have hfM1 := hM1.free 0
    have HM1 := hd hM1
    clear hch hcM hfM hM1 c0 c1 c2 c3 c4 c5 c6 c7 e0 e1 e2 e3 e4 e5 e6 e7 hct hc1 hcG hmc
    go_wp2
    rw [rounds_succ]
    go_wp2
    go_end0
    have hF := ((hfW.trans hf1 (fun i h => h.elim)).mono (S' := fun k => k = M) (fun i h => h.elim)).setCell ⟨M, 0, none⟩ (.bool true) (.inl rfl)
    refine ⟨rfl, hF, ?_⟩
    have h5 := HM1.out.set 0 (.bool true)
    rw [Hch.out, Bool.or_true]
    simpa using h5
  | false =>
    have Hch := hd hch
    rintro e w1 ⟨rfl, hf1⟩
    have HM1 := hd (hMW.out.nw hf1)
    clear hch hcM hfM c0 c1 c2 c3 c4 c5 c6 c7 e0 e1 e2 e3 e4 e5 e6 e7 hct hc1 hcG hmc
    go_wp2
    rw [rounds_succ]
    go_wp2
    go_end0
    refine ⟨rfl, (hfW.trans hf1 (fun i h => h.elim)).mono (fun i h => h.elim), ?_⟩
    rw [Hch.out, Bool.or_false]
    exact HM1.out
end Go.Proofs.Ytkjfpdfkcfgfkaa

/- Contracts at level 0: Level, Write, State of a table of Way 1, narrow, replace. -/
namespace Go.Proofs.Ytkjfpdfkcfgfkaa
open Go.RowKit

set_option maxHeartbeats 400000 in
theorem level_any (X : Nat) (so : Option Addr) (n sc : Nat) (w : World) (h : w.cell? ⟨X, 11, none⟩ = some (.slice so n sc)) :
    Calls Try.prog 36 #[.pointer (some ⟨X, 10, none⟩)] w fun e w' => e = .returned (.int .i64 n) ∧ w' = w := by
  go_enter Try.func36, Try.ntmps36
  go_wp2
  go_ret
  exact ⟨rfl, rfl⟩

set_option maxHeartbeats 400000 in
/-- Outside all levels Write keeps nothing. -/
theorem write_none (X : Nat) (so : Option Addr) (sc : Nat) (fv : Value) (w : World) (h : w.cell? ⟨X, 11, none⟩ = some (.slice so 0 sc)) :
    Calls Try.prog 78 #[.pointer (some ⟨X, 10, none⟩), fv] w fun e w' => e = .returned (.tuple #[]) ∧ w' = w := by
  go_enter Try.func78, Try.ntmps78
  go_wp2_with (go_at_call 36; refine (level_any X so 0 sc _ h).mono ?_; rintro e w' ⟨rfl, rfl⟩)
  go_end0
  exact ⟨rfl, rfl⟩

set_option maxHeartbeats 400000 in
theorem state_any (G : Nat) (vv : Value) (nt : Bool) (br : List Nat) (live : Nat) (w : World) (hG : Blk w G (rsCells vv nt br live) 142) (h24 : br.length = 24) :
    Calls Try.prog 114 #[.pointer (some ⟨G, 0, none⟩)] w fun e w' => e = .returned (.agg #[.int .u64 live, .slice none 0 0, .int .i64 0]) ∧ Nw w w' := by
  have h1 : w.cell? ⟨G, 26, none⟩ = some (.int .u64 (live : Int)) := (hG.cell 26).trans (by simp [rsCells, h24])
  have hGlt := hG.lt
  clear hG
  go_enter Try.func114, Try.ntmps114
  go_wp2
  refine bodyPost_ret (v := .agg #[.int .u64 live, .slice none 0 0, .int .i64 0]) ?_ rfl ⟨rfl, (Fr.refl _ w).alloc _⟩
  simp [results, Try.results114, go_sem]

theorem meth_state (G : Nat) (W : World) : (method 286 115 (.pointer (some ⟨G, 0, none⟩)) "State").run Try.prog W = .ok (114, .pointer (some ⟨G, 0, none⟩)) W := by kernel_rfl

set_option maxHeartbeats 1600000 in
set_option maxRecDepth 1000000 in
/-- narrow at a table of Way 1 (not Not), at level 0. -/
theorem narrow1_any (X G g cap : Nat) (szv : Value) (d : List Nat) (tv : Value) (l : Rest) (so : Option Addr) (sc : Nat) (br : List Nat) (live : Nat) (vars : List Int) (dn : List Nat) (w : World)
    (hX : Blk w X (workCells szv d tv l) 82) (hd8 : d.length = 8) (hl : l.starts = .slice so 0 sc)
    (hG : Blk w G (rsCells (.slice (some ⟨g, 0, none⟩) vars.length cap) false br live) 142)
    (hvs : Row w (.slice (some ⟨g, 0, none⟩) vars.length cap) 3 (vars.map (Value.int .i64)))
    (h8 : dn.length = 8) (h24 : br.length = 24) (hbr : ∀ j, br.getD j 0 < 18446744073709551616) (hlive : live < 18446744073709551616)
    (h4 : vars.length ≤ 4) (hv : ∀ i, i < vars.length → 0 ≤ vars.getD i 0 ∧ vars.getD i 0 < 8) (hd64 : ∀ q, dn.getD q 0 < 64) :
    Calls Try.prog 68 #[.pointer (some ⟨X, 0, none⟩), .iface 115 (.pointer (some ⟨G, 0, none⟩)), .agg (domV dn)] w fun e w' => e = .returned (.agg (domV (nDom br live vars dn))) ∧ Fr (fun k => k = G) w w' ∧
      Blk w' G (rsCells (.slice (some ⟨g, 0, none⟩) vars.length cap) false br (nLive br live vars dn)) 142 := by
  obtain ⟨v0, v1, v2, v3, v4, v5, v6, v7, hdv⟩ := domV8 h8
  obtain ⟨nd, hnd⟩ : ∃ nd, nDom br live vars dn = nd := ⟨_, rfl⟩
  have hn8 : nd.length = 8 := by rw [← hnd]; simp only [nDom, replTo_length]; exact h8
  obtain ⟨n0, n1, n2, n3, n4, n5, n6, n7, hnv⟩ := domV8 hn8
  obtain ⟨⟨y0, rfl⟩, ⟨y1, rfl⟩, ⟨y2, rfl⟩, ⟨y3, rfl⟩, ⟨y4, rfl⟩, ⟨y5, rfl⟩, ⟨y6, rfl⟩, ⟨y7, rfl⟩⟩ := domV_one nd hnv
  rw [hnd]
  have hXlt := hX.lt
  have hGlt := hG.lt
  have hglt : g < w.heap.size := hvs.lt rfl
  have hXG : X ≠ G := fun e => by subst e; have := (hX.inj hG).2; revert this; decide
  have hgG : g ≠ G := fun e => by subst e; exact hvs.ne hG (by decide) rfl
  obtain ⟨W, hW⟩ : ∃ W, W = ((w.alloc (.cells #[.iface 115 (.pointer (some ⟨G, 0, none⟩))] 93)).alloc (.cells (domV dn) 76)).alloc (.cells (domV zero8) 76) := ⟨_, rfl⟩
  have hfW : Nw w W := by rw [hW]; exact (((Fr.refl _ w).alloc _).alloc _).alloc _
  have hbT : Blk W w.heap.size #[.iface 115 (.pointer (some ⟨G, 0, none⟩))] 93 := by rw [hW]; exact ((Blk.new _ _ _).alloc _).alloc _
  have hbD : Blk W (w.heap.size + 1) (domV dn) 76 := by
    rw [hW]
    have := (Blk.new (w.alloc (.cells #[.iface 115 (.pointer (some ⟨G, 0, none⟩))] 93)) (domV dn) 76).alloc (.cells (domV zero8) 76)
    simpa using this
  have hbR : Blk W (w.heap.size + 2) (domV zero8) 76 := by
    rw [hW]
    have := Blk.new ((w.alloc (.cells #[.iface 115 (.pointer (some ⟨G, 0, none⟩))] 93)).alloc (.cells (domV dn) 76)) (domV zero8) 76
    simpa using this
  have hsW : W.heap.size = w.heap.size + 3 := by rw [hW]; simp
  have hcT : W.cell? ⟨w.heap.size, 0, none⟩ = some (.iface 115 (.pointer (some ⟨G, 0, none⟩))) := hbT.cell 0
  have hms := meth_state G
  have HbT := hd hbT
  have HbD := hd hbD
  have HbR := hd hbR
  have HX := hd (hX.nw hfW)
  have HG := hd (hG.nw hfW)
  have Hvs := hd (hvs.nw hfW)
  have HW := hd hW
  have HsW := hd hsW
  have Hdv := hd hdv
  have Hnd := hd hnd
  have Hnv := hd hnv
  clear hbT hbD hbR hX hG hvs hW hsW hdv hnd hnv
  go_enter Try.func68, Try.ntmps68
  go_upto_region 1 with fail
  rw [show ((w.alloc (Obj.cells #[Value.iface 115 (Value.pointer (some ⟨G, 0, none⟩))] 93)).alloc (Obj.cells (domV dn) 76)).alloc (Obj.cells #[Value.int .u8 0, .int .u8 0, .int .u8 0, .int .u8 0, .int .u8 0, .int .u8 0, .int .u8 0, .int .u8 0] 76) = W from HW.out.symm]
  go_wp2_with (go_at_call 114; refine (state_any G _ false br live _ HG.out h24).mono ?_; rintro e w1 ⟨rfl, hf1⟩)
  obtain ⟨U, hU⟩ : ∃ U, U = w1.alloc (.cells #[.int .u64 (live : Int), .slice none 0 0, .int .i64 0] 148) := ⟨_, rfl⟩
  have hfU : Nw W U := by rw [hU]; exact hf1.alloc _
  rw [← hU]
  clear hU hcT hms
  have hXU := HX.out.nw hfU
  have hcL : U.cell? ⟨X, 11, none⟩ = some (.slice so 0 sc) := (hXU.cell 11).trans ((workCells_starts _ _ _ _ hd8).trans (by rw [hl]))
  have hcT : U.cell? ⟨w.heap.size, 0, none⟩ = some (.iface 115 (.pointer (some ⟨G, 0, none⟩))) := (HbT.out.nw hfU).cell 0
  obtain ⟨c0, c1, c2, c3, c4, c5, c6, c7⟩ := cells8 (Hdv.out ▸ (HbD.out.nw hfU))
  have hmn := meth_narrow G
  have HGU := hd (HG.out.nw hfU)
  have HvU := hd (Hvs.out.nw hfU)
  have HRU := hd (HbR.out.nw hfU)
  have hsU : w.heap.size + 3 ≤ U.heap.size := by have := hfU.size; have := HsW.out; omega
  have HfU : Hid (Nw w U) := hfW.trans hfU (fun i h => h.elim)
  clear hXU hfU hf1
  refine (write_none X so sc _ _ hcL).mono ?_
  rintro e w2 ⟨rfl, rfl⟩
  go_wp2_with fail
  rw [← Hdv.out]
  refine (narrow_any G g cap br live vars dn _ HGU.out HvU.out h8 h24 hbr hlive h4 hv hd64).mono ?_
  rw [Hnd.out, Hnv.out]
  rintro e w3 ⟨rfl, hf3, hG3⟩
  have hR3 := HRU.out.fr hf3 (by omega)
  obtain ⟨s0, s1, s2, s3, s4, s5, s6, s7⟩ := cells8 hR3
  have f0 : ∀ i, w3.frozen? ⟨w.heap.size + 2, i, none⟩ = false := hR3.free
  have HR3 := hd hR3
  have HG3 := hd hG3
  have HF3 : Hid (Fr (fun k => k = G) w w3) := (HfU.out.mono (fun i h => h.elim)).trans hf3 (fun i h => .inl h)
  clear hR3 hG3 hf3 c0 c1 c2 c3 c4 c5 c6 c7 hcL hcT hmn
  go_wp2
  have hB := HR3.out.set8 0 1 2 3 4 5 6 7 (.int .u8 y0) (.int .u8 y1) (.int .u8 y2) (.int .u8 y3) (.int .u8 y4) (.int .u8 y5) (.int .u8 y6) (.int .u8 y7)
  have hF8 := HF3.out.set8 (w.heap.size + 2) 0 1 2 3 4 5 6 7 (.int .u8 y0) (.int .u8 y1) (.int .u8 y2) (.int .u8 y3) (.int .u8 y4) (.int .u8 y5) (.int .u8 y6) (.int .u8 y7) (.inr (by omega))
  have hFg := (Fr.refl (fun k => k = w.heap.size + 2) w3).set8 (w.heap.size + 2) 0 1 2 3 4 5 6 7 (.int .u8 y0) (.int .u8 y1) (.int .u8 y2) (.int .u8 y3) (.int .u8 y4) (.int .u8 y5) (.int .u8 y6) (.int .u8 y7) (.inl rfl)
  have hG8 := HG3.out.fr hFg (by omega)
  have hB' := (arr8 _ _ _ _ _ _ _ _ _ _ _ _ _ _ _ _) ▸ (show Blk _ _ (((((((((#[Value.int .u8 0, Value.int .u8 0, Value.int .u8 0, Value.int .u8 0, Value.int .u8 0, Value.int .u8 0, Value.int .u8 0, Value.int .u8 0] : Array Value).setIfInBounds 0 (.int .u8 y0)).setIfInBounds 1 (.int .u8 y1)).setIfInBounds 2 (.int .u8 y2)).setIfInBounds 3 (.int .u8 y3)).setIfInBounds 4 (.int .u8 y4)).setIfInBounds 5 (.int .u8 y5)).setIfInBounds 6 (.int .u8 y6)).setIfInBounds 7 (.int .u8 y7)) _ from hB)
  rw [show w.heap.size + 2 = w.heap.size + 1 + 1 from rfl] at hB' hF8 hG8
  clear hB
  generalize hX8 : ((((((((w3.setCell ⟨w.heap.size + 1 + 1, 0, none⟩ (Value.int .u8 y0)).setCell ⟨w.heap.size + 1 + 1, 1, none⟩ (Value.int .u8 y1)).setCell ⟨w.heap.size + 1 + 1, 2, none⟩ (Value.int .u8 y2)).setCell ⟨w.heap.size + 1 + 1, 3, none⟩ (Value.int .u8 y3)).setCell ⟨w.heap.size + 1 + 1, 4, none⟩ (Value.int .u8 y4)).setCell ⟨w.heap.size + 1 + 1, 5, none⟩ (Value.int .u8 y5)).setCell ⟨w.heap.size + 1 + 1, 6, none⟩ (Value.int .u8 y6)).setCell ⟨w.heap.size + 1 + 1, 7, none⟩ (Value.int .u8 y7)) = X8 at hB' hF8 hG8 ⊢
  obtain ⟨q0, q1, q2, q3, q4, q5, q6, q7⟩ := cells8 hB'
  refine bodyPost_ret (v := .agg (domV nd)) ?_ rfl ⟨rfl, hF8, hG8⟩
  rw [Hnv.out]
  simp [results, Try.results68, go_sem, q0, q1, q2, q3, q4, q5, q6, q7]

theorem Try.arrDomains : Try.prog.underlying 76 = some (.array 8 74) := by kernel_rfl
theorem Try.underSet : Try.prog.underlying 74 = some (.int .u8) := by kernel_rfl
theorem domV_bytes (d : List Nat) (h : ∀ x ∈ d, x < 64) : domV d = ((d.map UInt8.ofNat).map Extern.Stop.cell).toArray := by
  simp only [domV, List.map_map]
  congr 1
  refine List.map_congr_left (fun x hx => ?_)
  have := h x hx
  simp [Extern.Stop.cell, UInt8.toNat_ofNat', Nat.mod_eq_of_lt (show x < 256 by omega)]
theorem bytes_inj : ∀ (a b : List Nat), (∀ x ∈ a, x < 64) → (∀ x ∈ b, x < 64) → a.map UInt8.ofNat = b.map UInt8.ofNat → a = b
  | [], [], _, _, _ => rfl
  | [], _ :: _, _, _, h => by simp at h
  | _ :: _, [], _, _, h => by simp at h
  | x :: a, y :: b, ha, hb, h => by
    simp only [List.map_cons, List.cons.injEq] at h
    have h1 := congrArg UInt8.toNat h.1
    have hx := ha x (by simp)
    have hy := hb y (by simp)
    rw [UInt8.toNat_ofNat', UInt8.toNat_ofNat', Nat.mod_eq_of_lt (by omega), Nat.mod_eq_of_lt (by omega)] at h1
    rw [h1, bytes_inj a b (fun z hz => ha z (by simp [hz])) (fun z hz => hb z (by simp [hz])) h.2]
/-- == of domains. -/
theorem eql_doms (a b : List Nat) (ha : a.length = 8) (hb : b.length = 8) (ha6 : ∀ x ∈ a, x < 64) (hb6 : ∀ x ∈ b, x < 64) (w : World) :
    (binOp .eql 76 (.agg (domV a)) (.agg (domV b))).run Try.prog w = .ok (.bool (decide (a = b))) w := by
  rw [domV_bytes a ha6, domV_bytes b hb6, run_eql_bytes w 76 74 8 Try.arrDomains Try.underSet (fun w => by kernel_rfl) _ _ (by simpa using ha) (by simpa using hb)]
  congr 2
  rw [Bool.eq_iff_iff]
  simp only [beq_iff_eq, decide_eq_true_eq]
  exact ⟨bytes_inj a b ha6 hb6, fun h => by rw [h]⟩

theorem workCells_lit (szv tv : Value) (l : Rest) (d0 d1 d2 d3 d4 d5 d6 d7 n0 n1 n2 n3 n4 n5 n6 n7 : Nat) :
    (((((((((workCells szv [d0, d1, d2, d3, d4, d5, d6, d7] tv l).setIfInBounds 1 (Value.int .u8 (n0 : Int))).setIfInBounds 2 (Value.int .u8 (n1 : Int))).setIfInBounds 3 (Value.int .u8 (n2 : Int))).setIfInBounds 4 (Value.int .u8 (n3 : Int))).setIfInBounds 5 (Value.int .u8 (n4 : Int))).setIfInBounds 6 (Value.int .u8 (n5 : Int))).setIfInBounds 7 (Value.int .u8 (n6 : Int))).setIfInBounds 8 (Value.int .u8 (n7 : Int))) = workCells szv [n0, n1, n2, n3, n4, n5, n6, n7] tv l := by
  simp [workCells]
theorem lit8 {n0 n1 n2 n3 n4 n5 n6 n7 : Nat} {v0 v1 v2 v3 v4 v5 v6 v7 : Value} (h : domV [n0, n1, n2, n3, n4, n5, n6, n7] = #[v0, v1, v2, v3, v4, v5, v6, v7]) :
    v0 = .int .u8 (n0 : Int) ∧ v1 = .int .u8 (n1 : Int) ∧ v2 = .int .u8 (n2 : Int) ∧ v3 = .int .u8 (n3 : Int) ∧ v4 = .int .u8 (n4 : Int) ∧ v5 = .int .u8 (n5 : Int) ∧ v6 = .int .u8 (n6 : Int) ∧ v7 = .int .u8 (n7 : Int) := by
  simp only [domV, List.map_cons, List.map_nil] at h
  injection h with h
  simp only [List.cons.injEq, and_true] at h
  obtain ⟨h0, h1, h2, h3, h4, h5, h6, h7⟩ := h
  exact ⟨h0.symm, h1.symm, h2.symm, h3.symm, h4.symm, h5.symm, h6.symm, h7.symm⟩
theorem workCells_put (szv : Value) (d : List Nat) (tv : Value) (l : Rest) (h8 : d.length = 8) (n : List Nat) {v0 v1 v2 v3 v4 v5 v6 v7 : Value} (hn : domV n = #[v0, v1, v2, v3, v4, v5, v6, v7]) :
    (((((((((workCells szv d tv l).setIfInBounds 1 v0).setIfInBounds 2 v1).setIfInBounds 3 v2).setIfInBounds 4 v3).setIfInBounds 5 v4).setIfInBounds 6 v5).setIfInBounds 7 v6).setIfInBounds 8 v7) = workCells szv n tv l := by
  have hl : n.length = 8 := by have := congrArg Array.size hn; simpa [domV] using this
  obtain ⟨d0, d1, d2, d3, d4, d5, d6, d7, hd'⟩ := list8 h8
  obtain ⟨n0, n1, n2, n3, n4, n5, n6, n7, hn'⟩ := list8 hl
  have key : v0 = .int .u8 (n0 : Int) ∧ v1 = .int .u8 (n1 : Int) ∧ v2 = .int .u8 (n2 : Int) ∧ v3 = .int .u8 (n3 : Int) ∧ v4 = .int .u8 (n4 : Int) ∧ v5 = .int .u8 (n5 : Int) ∧ v6 = .int .u8 (n6 : Int) ∧ v7 = .int .u8 (n7 : Int) := lit8 (hn' ▸ hn)
  obtain ⟨rfl, rfl, rfl, rfl, rfl, rfl, rfl, rfl⟩ := key
  rw [hd', hn']
  exact workCells_lit ..

theorem work8 {w : World} {X : Nat} {szv : Value} {d : List Nat} {tv : Value} {l : Rest} {e : TypeId} (h : Blk w X (workCells szv d tv l) e) {v0 v1 v2 v3 v4 v5 v6 v7 : Value} (hd8 : domV d = #[v0, v1, v2, v3, v4, v5, v6, v7]) :
    w.cell? ⟨X, 1, none⟩ = some v0 ∧ w.cell? ⟨X, 2, none⟩ = some v1 ∧ w.cell? ⟨X, 3, none⟩ = some v2 ∧ w.cell? ⟨X, 4, none⟩ = some v3 ∧ w.cell? ⟨X, 5, none⟩ = some v4 ∧ w.cell? ⟨X, 6, none⟩ = some v5 ∧ w.cell? ⟨X, 7, none⟩ = some v6 ∧ w.cell? ⟨X, 8, none⟩ = some v7 := by
  have hs : d.length = 8 := by have := congrArg Array.size hd8; simpa [domV] using this
  have hg : ∀ i, i < 8 → w.cell? ⟨X, 1 + i, none⟩ = (domV d)[i]? := fun i hi => (h.cell _).trans ((workCells_dom szv d tv l i (by omega)).trans (domV_get d i (by omega)).symm)
  rw [hd8] at hg
  exact ⟨hg 0 (by omega), hg 1 (by omega), hg 2 (by omega), hg 3 (by omega), hg 4 (by omega), hg 5 (by omega), hg 6 (by omega), hg 7 (by omega)⟩

set_option maxHeartbeats 1600000 in
set_option maxRecDepth 1000000 in
/-- replace at level 0. -/
theorem replace_any (X : Nat) (szv : Value) (d : List Nat) (tv : Value) (l : Rest) (so : Option Addr) (sc : Nat) (n : List Nat) (w : World)
    (hX : Blk w X (workCells szv d tv l) 82) (hd8 : d.length = 8) (hl : l.starts = .slice so 0 sc) (h8 : n.length = 8) (hd6 : ∀ x ∈ d, x < 64) (hn6 : ∀ x ∈ n, x < 64) :
    Calls Try.prog 67 #[.pointer (some ⟨X, 0, none⟩), .agg (domV n)] w fun e w' => e = .returned (.tuple #[]) ∧ Fr (fun k => k = X) w w' ∧
      Blk w' X (workCells szv n tv l) 82 := by
  obtain ⟨v0, v1, v2, v3, v4, v5, v6, v7, hnv⟩ := domV8 h8
  obtain ⟨u0, u1, u2, u3, u4, u5, u6, u7, hdv⟩ := domV8 hd8
  obtain ⟨⟨x0, rfl⟩, ⟨x1, rfl⟩, ⟨x2, rfl⟩, ⟨x3, rfl⟩, ⟨x4, rfl⟩, ⟨x5, rfl⟩, ⟨x6, rfl⟩, ⟨x7, rfl⟩⟩ := domV_one n hnv
  obtain ⟨⟨y0, rfl⟩, ⟨y1, rfl⟩, ⟨y2, rfl⟩, ⟨y3, rfl⟩, ⟨y4, rfl⟩, ⟨y5, rfl⟩, ⟨y6, rfl⟩, ⟨y7, rfl⟩⟩ := domV_one d hdv
  have hXlt := hX.lt
  obtain ⟨W, hW⟩ : ∃ W, W = (w.alloc (.cells #[.pointer (some ⟨X, 0, none⟩)] 36)).alloc (.cells (domV n) 76) := ⟨_, rfl⟩
  have hfW : Nw w W := by rw [hW]; exact ((Fr.refl _ w).alloc _).alloc _
  have hbP : Blk W w.heap.size #[.pointer (some ⟨X, 0, none⟩)] 36 := by rw [hW]; exact (Blk.new _ _ _).alloc _
  have hbN : Blk W (w.heap.size + 1) (domV n) 76 := by
    rw [hW]
    have := Blk.new (w.alloc (.cells #[.pointer (some ⟨X, 0, none⟩)] 36)) (domV n) 76
    simpa using this
  have hsW : W.heap.size = w.heap.size + 2 := by rw [hW]; simp
  have hXW := hX.nw hfW
  obtain ⟨c0, c1, c2, c3, c4, c5, c6, c7⟩ := work8 hXW hdv
  obtain ⟨e0, e1, e2, e3, e4, e5, e6, e7⟩ := cells8 (hnv ▸ hbN)
  have hcP : W.cell? ⟨w.heap.size, 0, none⟩ = some (.pointer (some ⟨X, 0, none⟩)) := hbP.cell 0
  have HXW := hd hXW
  have HbP := hd hbP
  have HbN := hd hbN
  have HsW := hd hsW
  have HW := hd hW
  have Hnv := hd hnv
  have Hdv := hd hdv
  clear hXW hbP hbN hsW hW hnv hdv hX
  go_enter Try.func67, Try.ntmps67
  go_upto_region 1 with fail
  rw [← HW.out]
  go_upto_region 2 with fail
  obtain ⟨U, hU⟩ : ∃ U, U = W.alloc (.cells (domV d) 76) := ⟨_, rfl⟩
  have hfU : Nw W U := by rw [hU]; exact (Fr.refl _ W).alloc _
  have hbU : Blk U W.heap.size (domV d) 76 := by rw [hU]; exact Blk.new _ _ _
  rw [← Hdv.out]
  rw [← hU]
  clear hU c0 c1 c2 c3 c4 c5 c6 c7 e0 e1 e2 e3 e4 e5 e6 e7 hcP
  have hXU := HXW.out.nw hfU
  have hcL : U.cell? ⟨X, 11, none⟩ = some (.slice so 0 sc) := (hXU.cell 11).trans ((workCells_starts _ _ _ _ hd8).trans (by rw [hl]))
  have hcP : U.cell? ⟨w.heap.size, 0, none⟩ = some (.pointer (some ⟨X, 0, none⟩)) := (HbP.out.nw hfU).cell 0
  obtain ⟨e0, e1, e2, e3, e4, e5, e6, e7⟩ := cells8 (Hnv.out ▸ (HbN.out.nw hfU))
  obtain ⟨g0, g1, g2, g3, g4, g5, g6, g7⟩ := cells8 (Hdv.out ▸ hbU)
  obtain ⟨c0, c1, c2, c3, c4, c5, c6, c7⟩ := work8 hXU Hdv.out
  have hfz : ∀ i, U.frozen? ⟨X, i, none⟩ = false := hXU.free
  have HXU := hd hXU
  have HfU : Hid (Nw w U) := hfW.trans hfU (fun i h => h.elim)
  clear hbU hXU hfU hfW
  by_cases hnd : n = d
  · have heq := eql_doms n d h8 hd8 hn6 hd6
    rw [decide_eq_true hnd, Hnv.out, Hdv.out] at heq
    have Hnd := hd hnd
    clear hnd
    go_wp2
    refine bodyPost_ret (v := .tuple #[]) (results_none rfl _ _ _) rfl ⟨rfl, HfU.out.mono (fun i h => h.elim), ?_⟩
    rw [Hnd.out]
    exact HXU.out
  · have heq := eql_doms n d h8 hd8 hn6 hd6
    rw [decide_eq_false hnd, Hnv.out, Hdv.out] at heq
    clear hnd
    go_wp2_with (go_at_call 78; refine (write_none X so sc _ _ hcL).mono ?_; rintro e w2 ⟨rfl, rfl⟩)
    go_end0
    refine ⟨rfl, (HfU.out.mono (fun i h => h.elim)).set8 X 1 2 3 4 5 6 7 8 _ _ _ _ _ _ _ _ (.inl rfl), ?_⟩
    rw [← workCells_put szv d tv l hd8 n Hnv.out]
    exact HXU.out.set8 1 2 3 4 5 6 7 8 _ _ _ _ _ _ _ _
end Go.Proofs.Ytkjfpdfkcfgfkaa

/- A region that draws its order, by hand: what is taken first, what comes up. It speaks of no program. -/
namespace Go.Proofs.Ytkjfpdfkcfgfkaa
open Go.RowKit

section
variable {P : Program} {ops : Array Oper} {Q : Exit → Act → World → Prop}
theorem op_value {i : Nat} {o : Oper} {a : Act} {w w' : World} {v : Value} {K : Act → World → Prop} (hi : ops[i]? = some o) (hw : Region.wanted o (yielded ops a.tmps) = true)
    (hr : (execOp a.eval o).run P w = .ok (.value v) w') (h : K (a.put o.dst v) w') : wpOp P ops Q i K a w := by
  unfold wpOp
  simp only [hi, hw, if_true]
  refine .inl ?_
  unfold Oper.wp
  rw [hr]
  exact h
theorem op_skip {i : Nat} {o : Oper} {a : Act} {w w' : World} {K : Act → World → Prop} (hi : ops[i]? = some o) (hw : Region.wanted o (yielded ops a.tmps) = true)
    (hr : (execOp a.eval o).run P w = .ok .skip w') (h : K (a.put o.dst undef) w') : wpOp P ops Q i K a w := by
  unfold wpOp
  simp only [hi, hw, if_true]
  refine .inl ?_
  unfold Oper.wp
  rw [hr]
  exact h
theorem op_enter {i : Nat} {o : Oper} {a : Act} {w w' : World} {f : FuncId} {args : Array Value} {K : Act → World → Prop} (hi : ops[i]? = some o) (hw : Region.wanted o (yielded ops a.tmps) = true)
    (hr : (execOp a.eval o).run P w = .ok (.enter f args) w') (h : Calls P f args w' (fun e w'' => ∃ v, e = .returned v ∧ K (a.put o.dst v) w'')) : wpOp P ops Q i K a w := by
  unfold wpOp
  simp only [hi, hw, if_true]
  refine .inl ?_
  unfold Oper.wp
  rw [hr]
  refine Calls.mono h (fun e w'' he => ?_)
  obtain ⟨v, rfl, hk⟩ := he
  exact hk
variable {md : Region.Mode} {S : World → Prop}
/-- Whatever order is picked from here on, and S holds behind every operation but number z. -/
def wpAnyU (P : Program) (md : Region.Mode) (ops : Array Oper) (Q : Exit → Act → World → Prop) (S : World → Prop) (z : Nat) : Nat → Array Bool → Act → World → Prop
  | 0, listed, a, w => Region.ready md ops listed = [] ∧ Q .normal a w
  | fuel + 1, listed, a, w => (Region.ready md ops listed = [] → Q .normal a w) ∧
    ∀ i ∈ Region.ready md ops listed, wpOp P ops Q i (fun a' w' => (i ≠ z → S w') ∧ wpAnyU P md ops Q S z fuel (listed.setIfInBounds i true) a' w') a w
theorem any_of_U {z : Nat} : ∀ (fuel : Nat) (listed : Array Bool) (a : Act) (w : World), wpAnyU P md ops Q S z fuel listed a w → wpAny P md ops Q fuel listed a w
  | 0, _, _, _, h => h
  | fuel + 1, _, _, _, h => ⟨h.1, fun i hi => wpOp_mono (fun a' w' h' => any_of_U fuel _ a' w' h'.2) (h.2 i hi)⟩
theorem waits_no {z i : Nat} {listed : Array Bool} (hz : Region.waitsFor md ops z i = true) (hi : i ∈ Region.ready md ops listed) : z ∉ Region.ready md ops listed := by
  intro hr
  obtain ⟨hun, _⟩ := mem_ready.1 hi
  obtain ⟨oz, hoz, e, he, hb, hon⟩ := Region.waitsFor_spec hz
  obtain ⟨_, oz', hoz', hall⟩ := mem_ready.1 hr
  obtain rfl : oz' = oz := Option.some.inj (hoz'.symm.trans hoz)
  have h2 := hall e he hb
  rw [hon, getD_both hun] at h2
  cases h2
theorem anyU_first {z i : Nat} {oi : Oper} {v : Value} (hz : Region.waitsFor md ops z i = true) (hi : ops[i]? = some oi) (hsel : ∀ (j : Nat) (o : Oper) cs b, ops[j]? = some o → o.op ≠ .select cs b)
    (hQ : ∀ c a w, Q (.panic c) (a.put oi.dst v) w → Q (.panic c) a w) :
    ∀ (fuel : Nat) (listed : Array Bool) (a : Act) (w : World),
      (∀ j oj, ops[j]? = some oj → j ≠ i → listed.getD j true = false → (∀ e ∈ oj.after, Region.binds md e = true → e.on ≠ i) → oi.apart ops oj = true) →
      i ∈ Region.ready md ops listed → YieldsIf P ops S oi v a → S w →
      wpAnyU P md ops Q S z fuel (listed.setIfInBounds i true) (a.put oi.dst v) w → wpAnyU P md ops Q S z (fuel + 1) listed a w := by
  intro fuel
  induction fuel with
  | zero =>
    intro listed a w _ hr hy hS H
    refine ⟨fun h => (by rw [h] at hr; cases hr), fun j hj => ?_⟩
    by_cases hji : j = i
    · subst hji
      exact hy.wpOp hi hS ⟨fun _ => hS, H⟩
    · have := ready_mono hj hji
      rw [H.1] at this
      cases this
  | succ fuel ih =>
    intro listed a w hfree hr hy hS H
    refine ⟨fun h => (by rw [h] at hr; cases hr), fun j hj => ?_⟩
    by_cases hji : j = i
    · subst hji
      exact hy.wpOp hi hS ⟨fun _ => hS, H⟩
    · have hjz : j ≠ z := fun e => waits_no hz hr (e ▸ hj)
      have h1 := H.2 j (ready_mono hj hji)
      obtain ⟨hjun, oj, hoj, hall⟩ := mem_ready.1 hj
      have hnot : ∀ e ∈ oj.after, Region.binds md e = true → e.on ≠ i := fun e he hb heq => by
        have h2 := hall e he hb
        rw [heq, getD_both (mem_ready.1 hr).1] at h2
        cases h2
      have h2 := wpOp_putIf hoj (hfree j oj hoj hji hjun hnot) (fun cs b => hsel i oi cs b hi) (fun cs b => hsel j oj cs b hoj) hQ hy h1
      have hfree' : ∀ k ok, ops[k]? = some ok → k ≠ i → (listed.setIfInBounds j true).getD k true = false →
          (∀ e ∈ ok.after, Region.binds md e = true → e.on ≠ i) → oi.apart ops ok = true := fun k ok hk hki hun hno => by
        refine hfree k ok hk hki ?_ hno
        by_cases hjk : j = k
        · subst hjk; exact hjun
        · rw [getD_set_ne true hjk] at hun; exact hun
      refine wpOp_mono (fun a' w' h3 => ⟨fun _ => h3.2.1 hjz, ih (listed.setIfInBounds j true) a' w' hfree' (ready_mono hr (Ne.symm hji)) h3.1 (h3.2.1 hjz) ?_⟩) h2
      rw [Array.setIfInBounds_comm _ _ hji]
      exact h3.2.2
theorem anyU_take {z i : Nat} {oi : Oper} {v : Value} {fuel : Nat} {listed : Array Bool} {a : Act} {w : World} (hz : Region.waitsFor md ops z i = true) (hi : ops[i]? = some oi)
    (hs : Region.noSelect ops = true) (hf : Region.free md ops listed i = true) (hr : (Region.ready md ops listed).contains i = true)
    (hQ : ∀ c a w, Q (.panic c) (a.put oi.dst v) w → Q (.panic c) a w) (hy : YieldsIf P ops S oi v a) (hS : S w)
    (h : wpAnyU P md ops Q S z fuel (listed.setIfInBounds i true) (a.put oi.dst v) w) : wpAnyU P md ops Q S z (fuel + 1) listed a w :=
  anyU_first hz hi (Region.noSelect_spec hs) hQ fuel listed a w (Region.free_spec hi hf) (by simpa using hr) hy hS h
theorem anyU_one {z i : Nat} {fuel : Nat} {listed : Array Bool} {a : Act} {w : World} (hr : Region.ready md ops listed = [i])
    (h : wpOp P ops Q i (fun a' w' => (i ≠ z → S w') ∧ wpAnyU P md ops Q S z fuel (listed.setIfInBounds i true) a' w') a w) : wpAnyU P md ops Q S z (fuel + 1) listed a w :=
  ⟨fun h0 => (by rw [hr] at h0; cases h0), fun j hj => by
    rw [hr] at hj
    obtain rfl : j = i := by simpa using hj
    exact h⟩
theorem anyU_done {z : Nat} {listed : Array Bool} {a : Act} {w : World} (hr : Region.ready md ops listed = []) (h : Q .normal a w) : ∀ fuel, wpAnyU P md ops Q S z fuel listed a w
  | 0 => ⟨hr, h⟩
  | _ + 1 => ⟨fun _ => h, by rw [hr]; simp⟩
theorem region_U {id : Nat} {a : Act} {w : World} (z : Nat) (hm : P.follows .mixedOrders = true)
    (h : wpAnyU P .any ops Q S z ops.size (Array.replicate ops.size false) a w.drew) : (Code.region id ops true).wp P Q a w :=
  wp_region_any hm (any_of_U _ _ _ _ h)

theorem still_call {o : Oper} {rest : List Oper} {a : Act} {w : World} {Q' : Act → Prop} {f : FuncId} {args : Array Value} (v : Value) (hw : Region.wanted o (yielded ops a.tmps) = true)
    (hr : (execOp a.eval o).run P w = .ok (.enter f args) w) (hc : Calls P f args w (fun e w'' => e = .returned v ∧ w'' = w)) (h : wpStill P ops w Q' rest (a.put o.dst v)) : wpStill P ops w Q' (o :: rest) a := by
  unfold wpStill
  rw [if_pos hw]
  unfold Oper.still
  rw [hr]
  exact ⟨rfl, v, hc, h⟩
theorem still_value {o : Oper} {rest : List Oper} {a : Act} {w : World} {Q' : Act → Prop} (v : Value) (hw : Region.wanted o (yielded ops a.tmps) = true)
    (hr : (execOp a.eval o).run P w = .ok (.value v) w) (h : wpStill P ops w Q' rest (a.put o.dst v)) : wpStill P ops w Q' (o :: rest) a := by
  unfold wpStill
  rw [if_pos hw]
  unfold Oper.still
  rw [hr]
  exact ⟨rfl, h⟩
end
end Go.Proofs.Ytkjfpdfkcfgfkaa

/- Contract of rowSets.markUncovered: what it answers and marks, as a function of its arguments. -/
namespace Go.Proofs.Ytkjfpdfkcfgfkaa
open Go.RowKit Go.Shelf
attribute [local go_sem] Oper.semAt_some

/-- The supported values with the domains of the entries i, i + 1 .. (j of them) laid over them. -/
def fillFrom (vars : List Int) (dn sp : List Nat) (i : Nat) : Nat → List Nat
  | 0 => sp
  | j + 1 => (fillFrom vars dn sp i j).set (vars.getD (i + j) 0).toNat (dn.getD (vars.getD (i + j) 0).toNat 0)
/-- One value of an entry. -/
def uncStep (f : Nat → List Nat → Bool × List Nat) (br : List Nat) (i rows q : Nat) (st : Bool × List Nat) (v : Nat) : Bool × List Nat :=
  if (f (rows &&& br.getD (6 * i + v) 0) st.2).1 then (true, (f (rows &&& br.getD (6 * i + v) 0) st.2).2.set q ((f (rows &&& br.getD (6 * i + v) 0) st.2).2.getD q 0 ||| 2 ^ v)) else (st.1, (f (rows &&& br.getD (6 * i + v) 0) st.2).2)
/-- What markUncovered answers from entry i on, m entries ahead of the end, and what is supported behind it. -/
def unc (br : List Nat) (vars : List Int) (dn : List Nat) : Nat → Nat → Nat → List Nat → Bool × List Nat
  | 0, i, rows, sp => if rows = 0 then (true, fillFrom vars dn sp i (vars.length - i)) else (false, sp)
  | m + 1, i, rows, sp => if rows = 0 then (true, fillFrom vars dn sp i (vars.length - i)) else
      (vals (dn.getD (vars.getD i 0).toNat 0)).foldl (uncStep (unc br vars dn m (i + 1)) br i rows (vars.getD i 0).toNat) (false, sp)
theorem fillFrom_length (vars : List Int) (dn sp : List Nat) (i : Nat) : ∀ j, (fillFrom vars dn sp i j).length = sp.length
  | 0 => rfl
  | j + 1 => by simp [fillFrom, fillFrom_length vars dn sp i j]
theorem getD_set_lt {l : List Nat} {q x : Nat} {b : Nat} (hl : ∀ p, l.getD p 0 < b) (hx : x < b) : ∀ p, (l.set q x).getD p 0 < b := by
  intro p
  have h1 := hl p
  simp only [List.getD, List.getElem?_set] at h1 ⊢
  split
  · split
    · exact hx
    · simp only [Option.getD_none]; omega
  · exact h1
theorem fillFrom_lt (vars : List Int) (dn sp : List Nat) (i : Nat) (hd : ∀ q, dn.getD q 0 < 64) (hs : ∀ q, sp.getD q 0 < 64) : ∀ j q, (fillFrom vars dn sp i j).getD q 0 < 64
  | 0, q => hs q
  | j + 1, q => getD_set_lt (fillFrom_lt vars dn sp i hd hs j) (hd _) q
theorem foldl_keep {α β : Type} (R : β → Prop) (f : β → α → β) : ∀ (l : List α) (b : β), (∀ b a, a ∈ l → R b → R (f b a)) → R b → R (l.foldl f b)
  | [], _, _, hb => hb
  | a :: l, b, h, hb => foldl_keep R f l (f b a) (fun b' a' ha => h b' a' (List.mem_cons_of_mem _ ha)) (h b a (List.mem_cons_self ..) hb)
theorem unc_ok (br : List Nat) (vars : List Int) (dn : List Nat) (hd : ∀ q, dn.getD q 0 < 64) : ∀ (m i rows : Nat) (sp : List Nat), (∀ q, sp.getD q 0 < 64) →
    (unc br vars dn m i rows sp).2.length = sp.length ∧ ∀ q, (unc br vars dn m i rows sp).2.getD q 0 < 64
  | 0, i, rows, sp, hs => by
    unfold unc
    split
    · exact ⟨fillFrom_length _ _ _ _ _, fillFrom_lt _ _ _ _ hd hs _⟩
    · exact ⟨rfl, hs⟩
  | m + 1, i, rows, sp, hs => by
    unfold unc
    split
    · exact ⟨fillFrom_length _ _ _ _ _, fillFrom_lt _ _ _ _ hd hs _⟩
    · refine foldl_keep (fun st : Bool × List Nat => st.2.length = sp.length ∧ ∀ q, st.2.getD q 0 < 64) _ _ _ (fun st v hv hst => ?_) ⟨rfl, hs⟩
      have hv6 : v < 6 := vals_lt6 (hd _) hv
      have ih := unc_ok br vars dn hd m (i + 1) (rows &&& br.getD (6 * i + v) 0) st.2 hst.2
      unfold uncStep
      split
      · refine ⟨by rw [List.length_set]; exact ih.1.trans hst.1, getD_set_lt ih.2 ?_⟩
        exact Nat.or_lt_two_pow (n := 6) (ih.2 _) (Nat.pow_lt_pow_right (by omega) hv6)
      · exact ⟨ih.1.trans hst.1, ih.2⟩

theorem alsz (w : World) (o : Obj) : (w.alloc o).heap.size = w.heap.size + 1 := by simp
/-- The five boxes of markUncovered's parameters. -/
structure UBox (A : World) (T G i rows Dm Sp : Nat) : Prop where
  b0 : Blk A T #[.pointer (some ⟨G, 0, none⟩)] 115
  b1 : Blk A (T + 1) #[.int .i64 (i : Int)] 3
  b2 : Blk A (T + 1 + 1) #[.int .u64 (rows : Int)] 138
  b3 : Blk A (T + 1 + 1 + 1) #[.pointer (some ⟨Dm, 0, none⟩)] 127
  b4 : Blk A (T + 1 + 1 + 1 + 1) #[.pointer (some ⟨Sp, 0, none⟩)] 127
theorem UBox.fr {S : Nat → Prop} {A B : World} {T G i rows Dm Sp : Nat} (h : UBox A T G i rows Dm Sp) (f : Fr S A B) (hn : ∀ k, T ≤ k → k ≤ T + 4 → ¬ S k) : UBox B T G i rows Dm Sp :=
  ⟨h.b0.fr f (hn _ (by omega) (by omega)), h.b1.fr f (hn _ (by omega) (by omega)), h.b2.fr f (hn _ (by omega) (by omega)), h.b3.fr f (hn _ (by omega) (by omega)), h.b4.fr f (hn _ (by omega) (by omega))⟩
theorem UBox.bk {lo : Nat} {A B : World} {T G i rows Dm Sp : Nat} (h : UBox A T G i rows Dm Sp) (hb : Bk lo A B) : UBox B T G i rows Dm Sp := ⟨h.b0.bk hb, h.b1.bk hb, h.b2.bk hb, h.b3.bk hb, h.b4.bk hb⟩
/-- The world with the boxes. -/
def boxed (w : World) (G i rows Dm Sp : Nat) : World := ((((w.alloc (.cells #[.pointer (some ⟨G, 0, none⟩)] 115)).alloc (.cells #[.int .i64 (i : Int)] 3)).alloc (.cells #[.int .u64 (rows : Int)] 138)).alloc (.cells #[.pointer (some ⟨Dm, 0, none⟩)] 127)).alloc (.cells #[.pointer (some ⟨Sp, 0, none⟩)] 127)
theorem boxed_nw (w : World) (G i rows Dm Sp : Nat) : Nw w (boxed w G i rows Dm Sp) := (((((Fr.refl _ w).alloc _).alloc _).alloc _).alloc _).alloc _
theorem boxed_box (w : World) (G i rows Dm Sp : Nat) : UBox (boxed w G i rows Dm Sp) w.heap.size G i rows Dm Sp := by
  refine ⟨((((Blk.new w _ _).alloc _).alloc _).alloc _).alloc _, ?_, ?_, ?_, ?_⟩
  · have := (((Blk.new (w.alloc (.cells #[.pointer (some ⟨G, 0, none⟩)] 115)) #[.int .i64 (i : Int)] 3).alloc (.cells #[.int .u64 (rows : Int)] 138)).alloc (.cells #[.pointer (some ⟨Dm, 0, none⟩)] 127)).alloc (.cells #[.pointer (some ⟨Sp, 0, none⟩)] 127)
    simp only [alsz] at this
    exact this
  · have := ((Blk.new ((w.alloc (.cells #[.pointer (some ⟨G, 0, none⟩)] 115)).alloc (.cells #[.int .i64 (i : Int)] 3)) #[.int .u64 (rows : Int)] 138).alloc (.cells #[.pointer (some ⟨Dm, 0, none⟩)] 127)).alloc (.cells #[.pointer (some ⟨Sp, 0, none⟩)] 127)
    simp only [alsz] at this
    exact this
  · have := (Blk.new (((w.alloc (.cells #[.pointer (some ⟨G, 0, none⟩)] 115)).alloc (.cells #[.int .i64 (i : Int)] 3)).alloc (.cells #[.int .u64 (rows : Int)] 138)) #[.pointer (some ⟨Dm, 0, none⟩)] 127).alloc (.cells #[.pointer (some ⟨Sp, 0, none⟩)] 127)
    simp only [alsz] at this
    exact this
  · have := Blk.new ((((w.alloc (.cells #[.pointer (some ⟨G, 0, none⟩)] 115)).alloc (.cells #[.int .i64 (i : Int)] 3)).alloc (.cells #[.int .u64 (rows : Int)] 138)).alloc (.cells #[.pointer (some ⟨Dm, 0, none⟩)] 127)) #[.pointer (some ⟨Sp, 0, none⟩)] 127
    simp only [alsz] at this
    exact this

set_option maxHeartbeats 1600000 in
set_option maxRecDepth 1000000 in
/-- No row is left: all that is behind is supported. -/
theorem unc_fill (G g cap Dm Sp : Nat) (nt : Bool) (br : List Nat) (live : Nat) (vars : List Int) (dn sp : List Nat) (i : Nat) (w : World) (hG : Blk w G (rsCells (.slice (some ⟨g, 0, none⟩) vars.length cap) nt br live) 142)
    (hvs : Row w (.slice (some ⟨g, 0, none⟩) vars.length cap) 3 (vars.map (Value.int .i64))) (hDm : Blk w Dm (domV dn) 76) (hSp : Blk w Sp (domV sp) 76) (hne : Sp ≠ Dm)
    (h8 : dn.length = 8) (hs8 : sp.length = 8) (h4 : vars.length ≤ 4) (hv : ∀ i, i < vars.length → 0 ≤ vars.getD i 0 ∧ vars.getD i 0 < 8) (hi : i ≤ vars.length) (hcap : vars.length ≤ cap) :
    Calls Try.prog 116 #[.pointer (some ⟨G, 0, none⟩), .int .i64 i, .int .u64 0, .pointer (some ⟨Dm, 0, none⟩), .pointer (some ⟨Sp, 0, none⟩)] w fun e w' => e = .returned (.bool true) ∧ Fr (fun k => k = Sp) w w' ∧
      Blk w' Sp (domV (fillFrom vars dn sp i (vars.length - i))) 76 := by
  have hGlt := hG.lt
  have hSlt := hSp.lt
  have hDlt := hDm.lt
  have hglt : g < w.heap.size := hvs.lt rfl
  have hSG : Sp ≠ G := fun e => by subst e; have := (hSp.inj hG).2; revert this; decide
  have hSg : Sp ≠ g := fun e => by subst e; exact hvs.ne hSp (by decide) rfl
  obtain ⟨W, hW⟩ : ∃ W, W = boxed w G i 0 Dm Sp := ⟨_, rfl⟩
  have hfW : Nw w W := by rw [hW]; exact boxed_nw ..
  have hbx : UBox W w.heap.size G i 0 Dm Sp := by rw [hW]; exact boxed_box ..
  have HG := hd (hG.nw hfW)
  have Hvs := hd (hvs.nw hfW)
  have HD := hd (hDm.nw hfW)
  have HS := hd (hSp.nw hfW)
  have Hbx := hd hbx
  have HW := hd hW
  have a0 : W.cell? ⟨w.heap.size, 0, none⟩ = some (.pointer (some ⟨G, 0, none⟩)) := hbx.b0.cell 0
  have a1 : W.cell? ⟨w.heap.size + 1, 0, none⟩ = some (.int .i64 (i : Int)) := hbx.b1.cell 0
  have a2 : W.cell? ⟨w.heap.size + 1 + 1, 0, none⟩ = some (.int .u64 0) := hbx.b2.cell 0
  have aG : W.cell? ⟨G, 0, none⟩ = some (.slice (some ⟨g, 0, none⟩) vars.length cap) := HG.out.cell 0
  have hi0 : (0 : Int) ≤ (i : Int) := by omega
  have hin : (i : Int) ≤ (vars.length : Int) := by omega
  have hic : (vars.length : Int) ≤ (cap : Int) := by omega
  clear hG hvs hDm hSp hW hbx
  go_enter Try.func116, Try.ntmps116
  go_upto_region 1 with fail
  rw [show ((((w.alloc (.cells #[.pointer (some ⟨G, 0, none⟩)] 115)).alloc (.cells #[.int .i64 (i : Int)] 3)).alloc (.cells #[.int .u64 0] 138)).alloc (.cells #[.pointer (some ⟨Dm, 0, none⟩)] 127)).alloc (.cells #[.pointer (some ⟨Sp, 0, none⟩)] 127) = W from HW.out.symm]
  clear HW
  go_upto_region 2 with fail
  go_quiet (fail)
  obtain ⟨ao, hao⟩ : ∃ ao, (if cap = i then some (⟨g, 0, none⟩ : Addr) else some ⟨g, i, none⟩) = ao := ⟨_, rfl⟩
  rw [hao]
  have Hao : Hid (i < vars.length → ao = some ⟨g, i, none⟩) := fun h => by rw [← hao, if_neg (by omega)]
  clear hao a0 a1 a2 aG
  simp only [Exit.then]
  go_wp2_with fail
  go_loopw [26] (fun p wr => ∃ k : Nat, k ≤ vars.length - i ∧ p = .int .i64 k ∧ Fr (fun j => j = Sp) W wr ∧ Hid (Blk wr Sp (domV (fillFrom vars dn sp i k)) 76)) (fun p _ => vars.length - i - (intOf p).toNat)
  case atStart => exact ⟨0, Nat.zero_le _, rfl, (Fr.refl _ W).drewN _, HS.out.drewN _⟩
  case round =>
    obtain ⟨k, hk, rfl, hf, hbS⟩ := hrel
    by_cases hlt : k < vars.length - i
    · have hao := Hao.out (by omega)
      subst hao
      have hik : i + k < vars.length := by omega
      have hvr := Hvs.out.fr hf (fun j hj e => hSg (by cases hj; exact e.symm))
      have hck := (hvr.at_ (i + k) (by simpa using hik)).1
      simp only [List.getElem_map] at hck
      obtain ⟨hv0, hv8⟩ := hv (i + k) hik
      have hgd : vars.getD (i + k) 0 = vars[i + k] := by simp [hik]
      rw [hgd] at hv0 hv8
      obtain ⟨q, hq⟩ : ∃ q : Nat, vars[i + k] = (q : Int) := ⟨vars[i + k].toNat, by omega⟩
      rw [hq] at hck hv0 hv8
      have hnext : fillFrom vars dn sp i (k + 1) = (fillFrom vars dn sp i k).set q (dn.getD q 0) := by
        simp only [fillFrom]
        rw [hgd, hq, Int.toNat_natCast]
      have hbr := Hbx.out.fr hf (fun j h1 h2 => by omega)
      have a3 : wr.cell? ⟨w.heap.size + 1 + 1 + 1, 0, none⟩ = some (.pointer (some ⟨Dm, 0, none⟩)) := hbr.b3.cell 0
      have a4 : wr.cell? ⟨w.heap.size + 1 + 1 + 1 + 1, 0, none⟩ = some (.pointer (some ⟨Sp, 0, none⟩)) := hbr.b4.cell 0
      have hDr := HD.out.fr hf (fun e => hne e.symm)
      have aD : wr.cell? ⟨Dm, q, none⟩ = some (.int .u8 (dn.getD q 0 : Nat)) := (hDr.cell q).trans (domV_get dn q (by omega))
      obtain ⟨xv, aS⟩ : ∃ xv, wr.cell? ⟨Sp, q, none⟩ = some xv := ⟨_, (hbS.out.cell q).trans (domV_get _ q (by rw [fillFrom_length]; omega))⟩
      have fS := hbS.out.free q
      obtain ⟨y, hy⟩ : ∃ y, dn.getD q 0 = y := ⟨_, rfl⟩
      rw [hy] at aD hnext
      have Hnext := hd hnext
      clear hvr hgd hq hnext hbr hDr hy
      go_wp2_with fail
      go_still_tail 9, (by kernel_rfl)
      go_wp2
      refine ⟨⟨k + 1, by omega, by go_num, (hf.setCell _ _ (.inl rfl)).drew, ?_⟩, by simp [intOf]; omega⟩
      show Blk _ _ _ _
      rw [Hnext.out, ← domV_set]
      exact (hbS.out.set q _).drew
    · obtain rfl : k = vars.length - i := by omega
      go_wp2
      go_ret
      exact ⟨rfl, (hfW.mono (fun i h => h.elim)).trans hf (fun i h => .inl h), hbS.out⟩

set_option maxHeartbeats 1600000 in
set_option maxRecDepth 1000000 in
/-- Behind the last entry with a row left: the list is covered. -/
theorem unc_end (G g cap Dm Sp : Nat) (nt : Bool) (br : List Nat) (live rows : Nat) (vars : List Int) (w : World) (hG : Blk w G (rsCells (.slice (some ⟨g, 0, none⟩) vars.length cap) nt br live) 142) (hr : rows ≠ 0) :
    Calls Try.prog 116 #[.pointer (some ⟨G, 0, none⟩), .int .i64 (vars.length : Nat), .int .u64 rows, .pointer (some ⟨Dm, 0, none⟩), .pointer (some ⟨Sp, 0, none⟩)] w fun e w' => e = .returned (.bool false) ∧ Nw w w' := by
  have hGlt := hG.lt
  obtain ⟨W, hW⟩ : ∃ W, W = boxed w G vars.length rows Dm Sp := ⟨_, rfl⟩
  have hfW : Nw w W := by rw [hW]; exact boxed_nw ..
  have hbx : UBox W w.heap.size G vars.length rows Dm Sp := by rw [hW]; exact boxed_box ..
  have HW := hd hW
  have a0 : W.cell? ⟨w.heap.size, 0, none⟩ = some (.pointer (some ⟨G, 0, none⟩)) := hbx.b0.cell 0
  have a1 : W.cell? ⟨w.heap.size + 1, 0, none⟩ = some (.int .i64 (vars.length : Int)) := hbx.b1.cell 0
  have a2 : W.cell? ⟨w.heap.size + 1 + 1, 0, none⟩ = some (.int .u64 (rows : Int)) := hbx.b2.cell 0
  have aG : W.cell? ⟨G, 0, none⟩ = some (.slice (some ⟨g, 0, none⟩) vars.length cap) := (hG.nw hfW).cell 0
  have hr0 : ((rows : Int) == 0) = false := by simp; omega
  clear hG hW hbx
  go_enter Try.func116, Try.ntmps116
  go_upto_region 1 with fail
  rw [show ((((w.alloc (.cells #[.pointer (some ⟨G, 0, none⟩)] 115)).alloc (.cells #[.int .i64 (vars.length : Int)] 3)).alloc (.cells #[.int .u64 (rows : Int)] 138)).alloc (.cells #[.pointer (some ⟨Dm, 0, none⟩)] 127)).alloc (.cells #[.pointer (some ⟨Sp, 0, none⟩)] 127) = W from HW.out.symm]
  clear HW
  go_upto_region 8 with fail
  go_quiet (fail)
  simp only [Exit.then]
  go_wp2
  go_ret
  exact ⟨rfl, hfW.drewN _⟩
end Go.Proofs.Ytkjfpdfkcfgfkaa

/- Contract of rowSets.markUncovered, the middle: an entry whose values are gone through. -/
namespace Go.Proofs.Ytkjfpdfkcfgfkaa
open Go.RowKit Go.Shelf
attribute [local go_sem] Oper.semAt_some

/-- What markUncovered does from entry i on, m entries ahead of the end. -/
def UncOk (G g cap Dm Sp : Nat) (nt : Bool) (br : List Nat) (live : Nat) (vars : List Int) (dn : List Nat) (m i : Nat) : Prop := ∀ (rows : Nat) (sp : List Nat) (w : World), rows < 18446744073709551616 → sp.length = 8 → (∀ q, sp.getD q 0 < 64) →
  Blk w G (rsCells (.slice (some ⟨g, 0, none⟩) vars.length cap) nt br live) 142 → Row w (.slice (some ⟨g, 0, none⟩) vars.length cap) 3 (vars.map (Value.int .i64)) → Blk w Dm (domV dn) 76 → Blk w Sp (domV sp) 76 →
  Calls Try.prog 116 #[.pointer (some ⟨G, 0, none⟩), .int .i64 i, .int .u64 rows, .pointer (some ⟨Dm, 0, none⟩), .pointer (some ⟨Sp, 0, none⟩)] w fun e w' => e = .returned (.bool (unc br vars dn m i rows sp).1) ∧ Fr (fun k => k = Sp) w w' ∧
    Blk w' Sp (domV (unc br vars dn m i rows sp).2) 76

/-- What holds between two values of an entry. -/
structure UncI (w wr : World) (G g cap Dm Sp i rows F V : Nat) (nt : Bool) (br : List Nat) (live : Nat) (vars : List Int) (dn : List Nat) (q : Nat) (st : Bool × List Nat) : Prop where
  fr : Fr (fun k => k = Sp) w wr
  bG : Blk wr G (rsCells (.slice (some ⟨g, 0, none⟩) vars.length cap) nt br live) 142
  rv : Row wr (.slice (some ⟨g, 0, none⟩) vars.length cap) 3 (vars.map (Value.int .i64))
  bD : Blk wr Dm (domV dn) 76
  bS : Blk wr Sp (domV st.2) 76
  bx : UBox wr w.heap.size G i rows Dm Sp
  bF : Blk wr F #[.bool st.1] 4
  bV : Blk wr V #[.int .i64 (q : Int)] 3
theorem UncI.bk {w wr wx : World} {G g cap Dm Sp i rows F V lo : Nat} {nt : Bool} {br : List Nat} {live : Nat} {vars : List Int} {dn : List Nat} {q : Nat} {st : Bool × List Nat} (h : UncI w wr G g cap Dm Sp i rows F V nt br live vars dn q st) (hb : Bk lo wr wx) (hl : w.heap.size ≤ lo) :
    UncI w wx G g cap Dm Sp i rows F V nt br live vars dn q st := ⟨h.fr.bk hb hl, h.bG.bk hb, h.rv.bk hb, h.bD.bk hb, h.bS.bk hb, h.bx.bk hb, h.bF.bk hb, h.bV.bk hb⟩
theorem UncI.drew {w wr : World} {G g cap Dm Sp i rows F V : Nat} {nt : Bool} {br : List Nat} {live : Nat} {vars : List Int} {dn : List Nat} {q : Nat} {st : Bool × List Nat} (h : UncI w wr G g cap Dm Sp i rows F V nt br live vars dn q st) :
    UncI w wr.drew G g cap Dm Sp i rows F V nt br live vars dn q st := ⟨h.fr.drew, h.bG, h.rv.drew, h.bD, h.bS, ⟨h.bx.b0, h.bx.b1, h.bx.b2, h.bx.b3, h.bx.b4⟩, h.bF, h.bV⟩

set_option maxHeartbeats 3200000 in
set_option maxRecDepth 1000000 in
theorem unc_go (G g cap Dm Sp : Nat) (nt : Bool) (br : List Nat) (live : Nat) (vars : List Int) (dn : List Nat) (m i : Nat) (hne : Sp ≠ Dm)
    (h8 : dn.length = 8) (h24 : br.length = 24) (hbr : ∀ j, br.getD j 0 < 18446744073709551616) (h4 : vars.length ≤ 4) (hv : ∀ i, i < vars.length → 0 ≤ vars.getD i 0 ∧ vars.getD i 0 < 8) (hd64 : ∀ q, dn.getD q 0 < 64)
    (hi : i < vars.length) (ih : UncOk G g cap Dm Sp nt br live vars dn m (i + 1)) (rows : Nat) (sp : List Nat) (w : World) (hr : rows ≠ 0) (hr64 : rows < 18446744073709551616) (hs8 : sp.length = 8) (hs64 : ∀ q, sp.getD q 0 < 64)
    (hG : Blk w G (rsCells (.slice (some ⟨g, 0, none⟩) vars.length cap) nt br live) 142) (hvs : Row w (.slice (some ⟨g, 0, none⟩) vars.length cap) 3 (vars.map (Value.int .i64))) (hDm : Blk w Dm (domV dn) 76) (hSp : Blk w Sp (domV sp) 76) :
    Calls Try.prog 116 #[.pointer (some ⟨G, 0, none⟩), .int .i64 i, .int .u64 rows, .pointer (some ⟨Dm, 0, none⟩), .pointer (some ⟨Sp, 0, none⟩)] w fun e w' => e = .returned (.bool (unc br vars dn (m + 1) i rows sp).1) ∧ Fr (fun k => k = Sp) w w' ∧
      Blk w' Sp (domV (unc br vars dn (m + 1) i rows sp).2) 76 := by
  have hmf : ∀ (fn : Fn) (first cap : Array Value) (w : World), (Instr.makeFunc fn first cap).run Try.prog w = .ok (.func fn first cap) w := fun _ _ _ _ => rfl
  have hGlt := hG.lt
  have hSlt := hSp.lt
  have hDlt := hDm.lt
  have hglt : g < w.heap.size := hvs.lt rfl
  have hSG : Sp ≠ G := fun e => by subst e; have := (hSp.inj hG).2; revert this; decide
  have hSg : Sp ≠ g := fun e => by subst e; exact hvs.ne hSp (by decide) rfl
  obtain ⟨hv0, hv8⟩ := hv i hi
  obtain ⟨q, hq⟩ : ∃ q : Nat, vars.getD i 0 = (q : Int) := ⟨(vars.getD i 0).toNat, by omega⟩
  rw [hq] at hv0 hv8
  have hq8 : q < 8 := by omega
  have hunc : unc br vars dn (m + 1) i rows sp = (vals (dn.getD q 0)).foldl (uncStep (unc br vars dn m (i + 1)) br i rows q) (false, sp) := by
    rw [unc, if_neg hr, hq, Int.toNat_natCast]
  rw [hunc]
  obtain ⟨sx, hsxe⟩ : ∃ sx, dn.getD q 0 = sx := ⟨_, rfl⟩
  have hsx := hd64 q
  rw [hsxe] at hsx ⊢
  have Hsxe := hd hsxe
  clear hsxe
  have hr0 : ((rows : Int) == 0) = false := by simp; omega
  have hin0 : ((i : Int) == (vars.length : Int)) = false := by simp; omega
  obtain ⟨W, hW⟩ : ∃ W, W = boxed w G i rows Dm Sp := ⟨_, rfl⟩
  have hfW : Nw w W := by rw [hW]; exact boxed_nw ..
  have hbx : UBox W w.heap.size G i rows Dm Sp := by rw [hW]; exact boxed_box ..
  have hsW : W.heap.size = w.heap.size + 5 := by rw [hW]; simp [boxed]
  have a0 : W.cell? ⟨w.heap.size, 0, none⟩ = some (.pointer (some ⟨G, 0, none⟩)) := hbx.b0.cell 0
  have a1 : W.cell? ⟨w.heap.size + 1, 0, none⟩ = some (.int .i64 (i : Int)) := hbx.b1.cell 0
  have aG : W.cell? ⟨G, 0, none⟩ = some (.slice (some ⟨g, 0, none⟩) vars.length cap) := (hG.nw hfW).cell 0
  have HG := hd (hG.nw hfW)
  have Hvs := hd (hvs.nw hfW)
  have HD := hd (hDm.nw hfW)
  have HS := hd (hSp.nw hfW)
  have Hbx := hd hbx
  have HW := hd hW
  have HsW := hd hsW
  have Hq := hd hq
  clear hG hvs hDm hSp hbx hW hsW hunc hq
  refine (callsIn_wide (n := 9)).1 ?_
  refine callsIn_of_wp_marks Try.func116 rfl trivial ?_ rfl
  simp only [Try.ntmps116, List.size_toArray, List.length_cons, List.length_nil, Nat.reduceAdd, Nat.reduceSub, Array.replicate_succ, Array.replicate_zero, List.push_toArray, List.append_toArray, List.nil_append, List.cons_append]
  gi_wp2_with fail
  rw [show ((((w.alloc (.cells #[.pointer (some ⟨G, 0, none⟩)] 115)).alloc (.cells #[.int .i64 (i : Int)] 3)).alloc (.cells #[.int .u64 (rows : Int)] 138)).alloc (.cells #[.pointer (some ⟨Dm, 0, none⟩)] 127)).alloc (.cells #[.pointer (some ⟨Sp, 0, none⟩)] 127) = W from HW.out.symm]
  clear HW
  refine wpIn_wide.2 ?_
  go_still (by kernel_rfl)
  go_wp2
  gi_wp2_with fail
  obtain ⟨U, hU⟩ : ∃ U, U = (W.alloc (.cells #[.bool false] 4)).drew := ⟨_, rfl⟩
  have hfU : Nw W U := by rw [hU]; exact ((Fr.refl _ W).alloc _).drew
  have hbF : Blk U W.heap.size #[.bool false] 4 := by rw [hU]; exact (Blk.new _ _ _).drew
  have hsU : U.heap.size = W.heap.size + 1 := by rw [hU]; exact alsz _ _
  rw [← hU]
  have HsU := hd hsU
  clear hsU
  have hvU : U.cell? ⟨g, i, none⟩ = some (.int .i64 (q : Int)) := by
    have h1 := ((Hvs.out.nw hfU).at_ i (by simpa using hi)).1
    simp only [List.getElem_map] at h1
    rw [h1, ← Hq.out]
    simp [hi]
  have hK0 : Blk U.drew w.heap.size #[.pointer (some ⟨G, 0, none⟩)] 115 ∧ Blk U.drew (w.heap.size + 1) #[.int .i64 (i : Int)] 3 ∧ U.drew.cell? ⟨G, 0, none⟩ = some (.slice (some ⟨g, 0, none⟩) vars.length cap) ∧ U.drew.cell? ⟨g, i, none⟩ = some (.int .i64 (q : Int)) :=
    ⟨(Hbx.out.b0.nw hfU).drew, (Hbx.out.b1.nw hfU).drew, (HG.out.nw hfU).cell 0, hvU⟩
  clear hU
  refine wpIn_wide.2 ?_
  refine wp_region_noPanic ?_
  refine wp_region_held (S := fun w'' => Blk w'' w.heap.size #[.pointer (some ⟨G, 0, none⟩)] 115 ∧ Blk w'' (w.heap.size + 1) #[.int .i64 (i : Int)] 3 ∧ w''.cell? ⟨G, 0, none⟩ = some (.slice (some ⟨g, 0, none⟩) vars.length cap) ∧ w''.cell? ⟨g, i, none⟩ = some (.int .i64 (q : Int))) (by kernel_rfl) ?_
  refine wpAnyH_take (i := 0) (v := .pointer (some ⟨G, 0, none⟩)) rfl (by kernel_rfl) (by kernel_rfl) (by kernel_rfl) (fun _ _ _ h => h) (.inl ⟨by kernel_rfl, fun w'' hS => ?_⟩) hK0 ?_
  · have b0 : w''.cell? ⟨w.heap.size, 0, none⟩ = some (.pointer (some ⟨G, 0, none⟩)) := hS.1.cell 0
    clear ih hv hbr hd64 hs64 hmf hK0 hr0 hin0 hS a0 a1 aG
    simp only [List.getElem_toArray, List.getElem_cons_zero]
    go_simp
  refine wpAnyH_take (i := 1) (v := .pointer (some ⟨G, 0, none⟩)) rfl (by kernel_rfl) (by kernel_rfl) (by kernel_rfl) (fun _ _ _ h => h) (.inl ⟨by kernel_rfl, fun w'' hS => by kernel_rfl⟩) hK0 ?_
  refine wpAnyH_take (i := 2) (v := .pointer (some ⟨G, 0, none⟩)) rfl (by kernel_rfl) (by kernel_rfl) (by kernel_rfl) (fun _ _ _ h => h) (.inl ⟨by kernel_rfl, fun w'' hS => by kernel_rfl⟩) hK0 ?_
  refine wpAnyH_take (i := 3) (v := .pointer (some ⟨G, 0, none⟩)) rfl (by kernel_rfl) (by kernel_rfl) (by kernel_rfl) (fun _ _ _ h => h) (.inl ⟨by kernel_rfl, fun w'' hS => by kernel_rfl⟩) hK0 ?_
  refine wpAnyH_take (i := 4) (v := .slice (some ⟨g, 0, none⟩) vars.length cap) rfl (by kernel_rfl) (by kernel_rfl) (by kernel_rfl) (fun _ _ _ h => h) (.inl ⟨by kernel_rfl, fun w'' hS => ?_⟩) hK0 ?_
  · have b0 := hS.2.2.1
    clear ih hv hbr hd64 hs64 hmf hK0 hr0 hin0 hS a0 a1 aG
    simp only [Act.put, List.setIfInBounds_toArray, List.set_cons_zero, List.set_cons_succ, List.getElem_toArray, List.getElem_cons_zero, List.getElem_cons_succ]
    go_simp
  refine wpAnyH_take (i := 5) (v := .int .i64 (i : Int)) rfl (by kernel_rfl) (by kernel_rfl) (by kernel_rfl) (fun _ _ _ h => h) (.inl ⟨by kernel_rfl, fun w'' hS => ?_⟩) hK0 ?_
  · have b0 : w''.cell? ⟨w.heap.size + 1, 0, none⟩ = some (.int .i64 (i : Int)) := hS.2.1.cell 0
    clear ih hv hbr hd64 hs64 hmf hK0 hr0 hin0 hS a0 a1 aG
    simp only [Act.put, List.setIfInBounds_toArray, List.set_cons_zero, List.set_cons_succ, List.getElem_toArray, List.getElem_cons_zero, List.getElem_cons_succ]
    go_simp
  refine wpAnyH_take (i := 6) (v := .pointer (some ⟨g, i, none⟩)) rfl (by kernel_rfl) (by kernel_rfl) (by kernel_rfl) (fun _ _ _ h => h) (.inl ⟨by kernel_rfl, fun w'' hS => ?_⟩) hK0 ?_
  · clear ih hv hbr hd64 hs64 hmf hK0 hr0 hin0 hS a0 a1 aG
    simp only [Act.put, List.setIfInBounds_toArray, List.set_cons_zero, List.set_cons_succ, List.getElem_toArray, List.getElem_cons_zero, List.getElem_cons_succ]
    go_simp
  refine wpAnyH_take (i := 7) (v := .int .i64 (q : Int)) rfl (by kernel_rfl) (by kernel_rfl) (by kernel_rfl) (fun _ _ _ h => h) (.inl ⟨by kernel_rfl, fun w'' hS => ?_⟩) hK0 ?_
  · have b0 := hS.2.2.2
    clear ih hv hbr hd64 hs64 hmf hK0 hr0 hin0 hS a0 a1 aG
    simp only [Act.put, List.setIfInBounds_toArray, List.set_cons_zero, List.set_cons_succ, List.getElem_toArray, List.getElem_cons_zero, List.getElem_cons_succ]
    go_simp
  obtain ⟨Y, hY⟩ : ∃ Y, Y = U.drew.alloc (.cells #[.int .i64 0] 3) := ⟨_, rfl⟩
  have hfY : Nw U Y := by rw [hY]; exact ((Fr.refl _ U).drew).alloc _
  have hbY : Blk Y U.heap.size #[.int .i64 0] 3 := by rw [hY]; exact Blk.new _ _ _
  have hgU : g < U.heap.size := by have := HsW.out; have := HsU.out; omega
  have hGU : G < U.heap.size := by have := HsW.out; have := HsU.out; omega
  refine wpAnyH_all (rs := [8]) (by kernel_rfl) (by simp) (fun j hj => ?_)
  obtain rfl : j = 8 := by simpa using hj
  refine op_value (v := .pointer (some ⟨U.heap.size, 0, none⟩)) (w' := Y) rfl (by kernel_rfl) ?_ ⟨⟨(Hbx.out.b0.nw hfU).nw hfY, (Hbx.out.b1.nw hfU).nw hfY, (hfY.cell hGU (fun h => h)).trans hK0.2.2.1, (hfY.cell hgU (fun h => h)).trans hvU⟩, ?_⟩
  · rw [hY]
    kernel_rfl
  clear hY
  have cY : Y.cell? ⟨U.heap.size, 0, none⟩ = some (.int .i64 0) := hbY.cell 0
  have fY := hbY.free 0
  obtain ⟨Z, hZ⟩ : ∃ Z, Z = Y.setCell ⟨U.heap.size, 0, none⟩ (.int .i64 (q : Int)) := ⟨_, rfl⟩
  have hfZ : Nw U Z := by rw [hZ]; exact hfY.setCell _ _ (.inr (Nat.le_refl _))
  have hbZ : Blk Z U.heap.size #[.int .i64 (q : Int)] 3 := by rw [hZ]; exact hbY.set 0 _
  refine wpAnyH_all (rs := [9]) (by kernel_rfl) (by simp) (fun j hj => ?_)
  obtain rfl : j = 9 := by simpa using hj
  refine op_skip (w' := Z) rfl (by kernel_rfl) ?_ ⟨⟨(Hbx.out.b0.nw hfU).nw hfZ, (Hbx.out.b1.nw hfU).nw hfZ, (hfZ.cell hGU (fun h => h)).trans hK0.2.2.1, (hfZ.cell hgU (fun h => h)).trans hvU⟩, wpAnyH_done (by kernel_rfl) (NoPanic.normal ?_) _⟩
  · rw [hZ]
    clear ih hv hbr hd64 hs64 hmf hK0 hr0 hin0 a0 a1 aG hZ hfZ hbZ
    simp only [Act.put, List.setIfInBounds_toArray, List.set_cons_zero, List.set_cons_succ, List.getElem_toArray, List.getElem_cons_zero, List.getElem_cons_succ]
    go_simp
  simp only [Act.put, List.setIfInBounds_toArray, List.set_cons_zero, List.set_cons_succ, List.getElem_toArray, List.getElem_cons_zero, List.getElem_cons_succ]
  have hFW : Nw w Z := (hfW.trans hfU (fun i h => h.elim)).trans hfZ (fun i h => h.elim)
  have hWZ : Nw W Z := hfU.trans hfZ (fun i h => h.elim)
  have hI0 : UncI w Z G g cap Dm Sp i rows W.heap.size U.heap.size nt br live vars dn q (false, sp) :=
    ⟨hFW.mono (fun i h => h.elim), HG.out.nw hWZ, Hvs.out.nw hWZ, HD.out.nw hWZ, HS.out.nw hWZ, Hbx.out.fr hWZ (fun k _ _ x => x), hbF.nw hfZ, hbZ⟩
  have hsZ := hbZ.lt
  clear hZ hfZ hbZ cY fY hbY hfY hFW hWZ hK0 hvU a0 a1 aG
  simp only [Exit.then]
  gi_wp2_with fail
  have a3 : Z.cell? ⟨w.heap.size + 1 + 1 + 1, 0, none⟩ = some (.pointer (some ⟨Dm, 0, none⟩)) := hI0.bx.b3.cell 0
  have aV : Z.cell? ⟨U.heap.size, 0, none⟩ = some (.int .i64 (q : Int)) := hI0.bV.cell 0
  have aD : Z.cell? ⟨Dm, q, none⟩ = some (.int .u8 (sx : Int)) := by rw [← Hsxe.out]; exact (hI0.bD.cell q).trans (domV_get dn q (by omega))
  have hszZ : w.heap.size ≤ Z.heap.size := hI0.fr.size
  have HI0 := hd hI0
  have hFl : W.heap.size < U.heap.size := by have := HsU.out; omega
  have hWl : w.heap.size + 5 ≤ W.heap.size := by have := HsW.out; omega
  clear hI0
  refine wpIn_wide.2 ?_
  go_still (by kernel_rfl)
  go_wp2
  gi_wp2_with fail
  show Code.wpIn _ _ _ _ _ _ Z.drew
  refine wp_each (show sx < 256 by omega) rfl (by simp) (fun pre A => UncI w A G g cap Dm Sp i rows W.heap.size U.heap.size nt br live vars dn q (pre.foldl (uncStep (unc br vars dn m (i + 1)) br i rows q) (false, sp)))
    (fun pre A B h hb => h.bk hb hszZ) HI0.out.drew ?body ?done
  case body =>
    rintro l pre v A hpre hI
    have hmem : v ∈ vals sx := hpre.subset (List.mem_append_right pre (List.mem_singleton.2 rfl))
    have hv6 : v < 6 := vals_lt6 hsx hmem
    obtain ⟨st, hst⟩ : ∃ st, pre.foldl (uncStep (unc br vars dn m (i + 1)) br i rows q) (false, sp) = st := ⟨_, rfl⟩
    rw [hst] at hI
    have hstep : (pre ++ [v]).foldl (uncStep (unc br vars dn m (i + 1)) br i rows q) (false, sp) = uncStep (unc br vars dn m (i + 1)) br i rows q st v := by rw [List.foldl_append, hst]; rfl
    rw [hstep]
    have hstok : st.2.length = 8 ∧ ∀ p, st.2.getD p 0 < 64 := by
      rw [← hst]
      refine foldl_keep (fun st : Bool × List Nat => st.2.length = 8 ∧ ∀ q, st.2.getD q 0 < 64) _ _ _ (fun st x hx hs => ?_) ⟨hs8, hs64⟩
      have hx6 : x < 6 := vals_lt6 hsx (hpre.subset (List.mem_append_left _ hx))
      have h1 := unc_ok br vars dn hd64 m (i + 1) (rows &&& br.getD (6 * i + x) 0) st.2 hs.2
      unfold uncStep
      split
      · refine ⟨by rw [List.length_set]; exact h1.1.trans hs.1, getD_set_lt h1.2 ?_⟩
        exact Nat.or_lt_two_pow (n := 6) (h1.2 _) (Nat.pow_lt_pow_right (by omega) hx6)
      · exact ⟨h1.1.trans hs.1, h1.2⟩
    clear hst hstep hpre hmem
    have hcG : A.cell? ⟨G, 2 + (6 * i + v), none⟩ = some (.int .u64 (br.getD (6 * i + v) 0 : Nat)) := (hI.bG.cell _).trans (rsCells_br _ _ _ _ _ (by omega))
    rw [show 2 + (6 * i + v) = 2 + i * 6 + v from by omega] at hcG
    have hbl := hbr (6 * i + v)
    have b0 : A.cell? ⟨w.heap.size, 0, none⟩ = some (.pointer (some ⟨G, 0, none⟩)) := hI.bx.b0.cell 0
    have b1 : A.cell? ⟨w.heap.size + 1, 0, none⟩ = some (.int .i64 (i : Int)) := hI.bx.b1.cell 0
    have b2 : A.cell? ⟨w.heap.size + 1 + 1, 0, none⟩ = some (.int .u64 (rows : Int)) := hI.bx.b2.cell 0
    have b3 : A.cell? ⟨w.heap.size + 1 + 1 + 1, 0, none⟩ = some (.pointer (some ⟨Dm, 0, none⟩)) := hI.bx.b3.cell 0
    have b4 : A.cell? ⟨w.heap.size + 1 + 1 + 1 + 1, 0, none⟩ = some (.pointer (some ⟨Sp, 0, none⟩)) := hI.bx.b4.cell 0
    obtain ⟨x, hx⟩ : ∃ x, br.getD (6 * i + v) 0 = x := ⟨_, rfl⟩
    rw [hx] at hcG hbl
    have hand := u64_and_nat rows x hr64 hbl
    have hand64 : rows &&& x < 18446744073709551616 := Nat.lt_of_le_of_lt Nat.and_le_left hr64
    obtain ⟨r, hre⟩ : ∃ r, unc br vars dn m (i + 1) (rows &&& x) st.2 = r := ⟨_, rfl⟩
    have hrok := unc_ok br vars dn hd64 m (i + 1) (rows &&& x) st.2 hstok.2
    rw [hre] at hrok
    have hus : uncStep (unc br vars dn m (i + 1)) br i rows q st v = if r.1 then (true, r.2.set q (r.2.getD q 0 ||| 2 ^ v)) else (st.1, r.2) := by
      unfold uncStep
      rw [hx, hre]
    obtain ⟨st', hst'⟩ : ∃ st', uncStep (unc br vars dn m (i + 1)) br i rows q st v = st' := ⟨_, rfl⟩
    rw [hst'] at hus ⊢
    have Hst := hd hus
    clear hst' hus
    have Hc := hd (ih (rows &&& x) st.2 A.drew hand64 hstok.1 hstok.2 hI.bG.drew hI.rv.drew hI.bD.drew hI.bS.drew)
    have hi0 : (0 : Int) ≤ (i : Int) := by omega
    have hi4 : (i : Int) < 4 := by omega
    have hv0' : (0 : Int) ≤ (v : Int) := by omega
    have hv6' : (v : Int) < 6 := by omega
    have hq0' : (0 : Int) ≤ (q : Int) := by omega
    have hq8' : (q : Int) < 8 := by omega
    have HI := hd hI
    have Hre := hd hre
    clear hI hx hre ih hbr hv hd64 a3 aV aD HI0
    gi_wp2_with fail
    refine wpIn_tail 15 (by kernel_rfl) (by kernel_rfl) (fun a w h => h) ?_
    simp only [List.take_succ_cons, List.take_zero, List.drop_succ_cons, List.drop_zero]
    repeat still_step
    refine wpStill_nil ?_
    go_wp2_with fail
    rw [show ((i : Int) + 1) = ((i + 1 : Nat) : Int) from by omega]
    refine Hc.out.mono ?_
    rw [Hre.out]
    rintro e A1 ⟨rfl, hf1, hS1⟩
    have hf1' : Fr (fun k => k = Sp) A A1 := hf1.of_drew
    have hA5 : w.heap.size + 5 ≤ A.heap.size := by have := HI.out.bF.lt; omega
    have hI1 : UncI w A1 G g cap Dm Sp i rows W.heap.size U.heap.size nt br live vars dn q (st.1, r.2) :=
      ⟨HI.out.fr.trans hf1' (fun i h => .inl h), HI.out.bG.fr hf1' (fun e => hSG e.symm), HI.out.rv.fr hf1' (fun k hk e => hSg (by cases hk; exact e.symm)), HI.out.bD.fr hf1' (fun e => hne e.symm), hS1, HI.out.bx.fr hf1' (fun k h1 h2 => by omega), HI.out.bF.fr hf1' (by omega), HI.out.bV.fr hf1' (by omega)⟩
    have hkp1 : KeepsLD A A1 := hf1'.keeps (fun k hk => by subst hk; exact ⟨_, _, HI.out.bS⟩)
    have HI1 := hd hI1
    have Hkp := hd hkp1
    have Hf1 := hd hf1'
    clear hI1 hkp1 hf1 hf1' hS1 b0 b1 b2 b3 hcG
    cases hr1 : r.1 with
    | false =>
      have Hr1 := hd hr1
      clear hr1
      go_wp2
      gi_wp2
      refine ⟨Hkp.out, ?_⟩
      show UncI ..
      rw [Hst.out, Hr1.out]
      exact HI1.out
    | true =>
      have Hr1 := hd hr1
      clear hr1
      have b4' : A1.cell? ⟨w.heap.size + 1 + 1 + 1 + 1, 0, none⟩ = some (.pointer (some ⟨Sp, 0, none⟩)) := HI1.out.bx.b4.cell 0
      have bV' : A1.cell? ⟨U.heap.size, 0, none⟩ = some (.int .i64 (q : Int)) := HI1.out.bV.cell 0
      have bS' : A1.cell? ⟨Sp, q, none⟩ = some (.int .u8 (r.2.getD q 0 : Nat)) := (HI1.out.bS.cell q).trans (domV_get _ _ (by have := hrok.1; have := hstok.1; show q < r.2.length; omega))
      have fS' := HI1.out.bS.free q
      have bF' : A1.cell? ⟨W.heap.size, 0, none⟩ = some (.bool st.1) := HI1.out.bF.cell 0
      have fF' := HI1.out.bF.free 0
      have hacc := hrok.2 q
      obtain ⟨acc, hacce⟩ : ∃ acc, r.2.getD q 0 = acc := ⟨_, rfl⟩
      rw [hacce] at bS' hacc
      have hpv : 2 ^ v < 64 := Nat.pow_lt_pow_right (m := v) (n := 6) (by omega) hv6
      have hor := u8_or_nat acc (2 ^ v) (by omega) (by omega)
      have hone := one_any v A1.drew (by omega)
      obtain ⟨pv, hpve⟩ : ∃ pv, 2 ^ v = pv := ⟨_, rfl⟩
      rw [hpve] at hpv hor hone
      have Hone := hd hone
      have Hpve := hd hpve
      have Hacce := hd hacce
      clear hpve hone hacce b4
      go_wp2
      gi_wp2_with fail
      refine wpIn_tail 10 (by kernel_rfl) (by kernel_rfl) (fun a w h => h) ?_
      simp only [List.take_succ_cons, List.take_zero, List.drop_succ_cons, List.drop_zero]
      still_step
      still_step
      still_step
      still_step
      still_step
      still_step
      still_call Hone.out
      repeat still_step
      refine wpStill_nil ?_
      go_wp2
      gi_wp2
      have hSF : Sp ≠ W.heap.size := by omega
      have hF : Fr (fun k => k = Sp ∨ k = W.heap.size) A1 ((A1.setCell ⟨Sp, q, none⟩ (.int .u8 ((acc ||| pv : Nat) : Int))).setCell ⟨W.heap.size, 0, none⟩ (.bool true)).drew :=
        (((Fr.refl _ A1).setCell ⟨Sp, q, none⟩ _ (.inl (.inl rfl))).setCell ⟨W.heap.size, 0, none⟩ _ (.inl (.inr rfl))).drew
      have hFA := (Hf1.out.mono (S' := fun k => k = Sp ∨ k = W.heap.size) (fun i h => .inl (.inl h))).trans hF (fun i h => .inl h)
      refine ⟨hFA.keeps (fun k hk => by
        rcases hk with rfl | rfl
        · exact ⟨_, _, HI.out.bS⟩
        · exact ⟨_, _, HI.out.bF⟩), ?_⟩
      show UncI ..
      rw [Hst.out, Hr1.out, if_pos rfl, Hacce.out, Hpve.out]
      have hA1 : w.heap.size + 5 ≤ A1.heap.size := by have := Hf1.out.size; omega
      refine ⟨HI1.out.fr.trans hF (fun k h => h.elim .inl (fun e => .inr (by omega))), HI1.out.bG.fr hF (fun e => e.elim (fun e => hSG e.symm) (fun e => by omega)), HI1.out.rv.fr hF (fun k hk e => by
          have e2 : g = k := by cases hk; rfl
          rcases e with e | e
          · exact hSg (by omega)
          · omega), HI1.out.bD.fr hF (fun e => e.elim (fun e => hne e.symm) (fun e => by omega)), ?_, HI1.out.bx.fr hF (fun k h1 h2 => by omega), ?_, HI1.out.bV.fr hF (by omega)⟩
      · have h5 := (HI1.out.bS.set q (.int .u8 ((acc ||| pv : Nat) : Int))).other ⟨W.heap.size, 0, none⟩ (.bool true) hSF
        rw [domV_set] at h5
        exact h5.drew
      · have h5 := ((HI1.out.bF.other ⟨Sp, q, none⟩ (.int .u8 ((acc ||| pv : Nat) : Int)) (fun e => hSF e.symm)).set 0 (.bool true)).drew
        exact h5
  case done =>
    rintro D A hD hI hK
    have bF' : A.cell? ⟨W.heap.size, 0, none⟩ = some (.bool ((vals sx).foldl (uncStep (unc br vars dn m (i + 1)) br i rows q) (false, sp)).1) := hI.bF.cell 0
    have HI := hd hI
    clear hI ih HI0
    gi_wp2
    have hDle : w.heap.size ≤ D := Nat.le_trans hszZ hD
    refine ⟨by simp, .inl ⟨_, _, rfl, run_takeDeferred hK, ?_⟩⟩
    exact ⟨_, results_tmp rfl _ _ _, rfl, HI.out.fr.bk (Bk.put (.deferred none) hDle hK rfl) (Nat.le_refl _), HI.out.bS.bk (Bk.put (.deferred none) hDle hK rfl)⟩

/-- markUncovered from any entry on. -/
theorem unc_any (G g cap Dm Sp : Nat) (nt : Bool) (br : List Nat) (live : Nat) (vars : List Int) (dn : List Nat) (hne : Sp ≠ Dm)
    (h8 : dn.length = 8) (h24 : br.length = 24) (hbr : ∀ j, br.getD j 0 < 18446744073709551616) (h4 : vars.length ≤ 4) (hcap : vars.length ≤ cap) (hv : ∀ i, i < vars.length → 0 ≤ vars.getD i 0 ∧ vars.getD i 0 < 8) (hd64 : ∀ q, dn.getD q 0 < 64) :
    ∀ m i, i + m = vars.length → UncOk G g cap Dm Sp nt br live vars dn m i
  | 0, i, hm, rows, sp, w, hr64, hs8, hs64, hG, hvs, hDm, hSp => by
    by_cases hr : rows = 0
    · subst hr
      have := unc_fill G g cap Dm Sp nt br live vars dn sp i w hG hvs hDm hSp hne h8 hs8 h4 hv (by omega) hcap
      simpa [unc] using this
    · obtain rfl : i = vars.length := by omega
      refine (unc_end G g cap Dm Sp nt br live rows vars w hG hr).mono ?_
      rintro e w' ⟨rfl, hf⟩
      rw [unc, if_neg hr]
      exact ⟨rfl, hf.mono (fun i h => h.elim), hSp.nw hf⟩
  | m + 1, i, hm, rows, sp, w, hr64, hs8, hs64, hG, hvs, hDm, hSp => by
    by_cases hr : rows = 0
    · subst hr
      have := unc_fill G g cap Dm Sp nt br live vars dn sp i w hG hvs hDm hSp hne h8 hs8 h4 hv (by omega) hcap
      simpa [unc] using this
    · exact unc_go G g cap Dm Sp nt br live vars dn m i hne h8 h24 hbr h4 hv hd64 (by omega) (unc_any G g cap Dm Sp nt br live vars dn hne h8 h24 hbr h4 hcap hv hd64 m (i + 1) (by omega)) rows sp w hr hr64 hs8 hs64 hG hvs hDm hSp
end Go.Proofs.Ytkjfpdfkcfgfkaa

/- Contract of rowSets.Narrow where the table is Not. -/
namespace Go.Proofs.Ytkjfpdfkcfgfkaa
open Go.RowKit

/-- What a table of Way 1 that is Not makes of domains. -/
def nDomN (br : List Nat) (live : Nat) (vars : List Int) (dn : List Nat) : List Nat := replTo vars dn (unc br vars dn vars.length 0 (nLive br live vars dn) zero8).2 vars.length

set_option maxHeartbeats 1600000 in
set_option maxRecDepth 1000000 in
theorem narrowN_any (G g cap : Nat) (br : List Nat) (live : Nat) (vars : List Int) (dn : List Nat) (w : World) (hG : Blk w G (rsCells (.slice (some ⟨g, 0, none⟩) vars.length cap) true br live) 142)
    (hvs : Row w (.slice (some ⟨g, 0, none⟩) vars.length cap) 3 (vars.map (Value.int .i64)))
    (h8 : dn.length = 8) (h24 : br.length = 24) (hbr : ∀ j, br.getD j 0 < 18446744073709551616) (hlive : live < 18446744073709551616)
    (h4 : vars.length ≤ 4) (hcap : vars.length ≤ cap) (hv : ∀ i, i < vars.length → 0 ≤ vars.getD i 0 ∧ vars.getD i 0 < 8) (hd64 : ∀ q, dn.getD q 0 < 64) :
    Calls Try.prog 113 #[.pointer (some ⟨G, 0, none⟩), .agg (domV dn)] w fun e w' => e = .returned (.agg (domV (nDomN br live vars dn))) ∧ Fr (fun k => k = G) w w' ∧
      Blk w' G (rsCells (.slice (some ⟨g, 0, none⟩) vars.length cap) true br (nLive br live vars dn)) 142 := by
  obtain ⟨v0, v1, v2, v3, v4, v5, v6, v7, hdv⟩ := domV8 h8
  have hGlt := hG.lt
  have hglt : g < w.heap.size := hvs.lt rfl
  have hgG : g ≠ G := fun e => by subst e; exact hvs.ne hG (by decide) rfl
  obtain ⟨W, hW⟩ : ∃ W, W = (w.alloc (.cells (domV dn) 76)).alloc (.cells (domV zero8) 76) := ⟨_, rfl⟩
  have hfW : Nw w W := by rw [hW]; exact ((Fr.refl _ w).alloc _).alloc _
  have hbD : Blk W w.heap.size (domV dn) 76 := by rw [hW]; exact (Blk.new _ _ _).alloc _
  have hbR : Blk W (w.heap.size + 1) (domV zero8) 76 := by
    rw [hW]
    have := Blk.new (w.alloc (.cells (domV dn) 76)) (domV zero8) 76
    simpa using this
  have hsW : W.heap.size = w.heap.size + 2 := by rw [hW]; simp
  have hGW := hG.nw hfW
  have hvW := hvs.nw hfW
  obtain ⟨c0, c1, c2, c3, c4, c5, c6, c7⟩ := cells8 (hdv ▸ hbD)
  have HbD := hd hbD
  have HbR := hd hbR
  have HW := hd hW
  have HsW := hd hsW
  have Hdv := hd hdv
  have HGW := hd hGW
  have HvW := hd hvW
  clear hW hsW hbD hbR hdv hG hvs hGW hvW
  go_enter Try.func113, Try.ntmps113
  go_upto_region 1 with fail
  rw [show (w.alloc (Obj.cells (domV dn) 76)).alloc (Obj.cells #[Value.int .u8 0, .int .u8 0, .int .u8 0, .int .u8 0, .int .u8 0, .int .u8 0, .int .u8 0, .int .u8 0] 76) = W from HW.out.symm]
  go_wp2_with fail
  rw [← Hdv.out]
  refine (drop_any G g cap true br live vars dn W HGW.out HvW.out h8 h24 hbr hlive h4 hv hd64).mono ?_
  rintro e w1 ⟨rfl, hf1, hb1⟩
  have hs1 : w.heap.size + 2 ≤ w1.heap.size := by have := hf1.size; have := HsW.out; omega
  have hbD1 : Blk w1 w.heap.size (domV dn) 76 := HbD.out.fr hf1 (by omega)
  have hbR1 : Blk w1 (w.heap.size + 1) (domV zero8) 76 := HbR.out.fr hf1 (by omega)
  have hrv1 := HvW.out.fr hf1 (fun k hk e => hgG (by cases hk; exact e))
  have hnt : w1.cell? ⟨G, 1, none⟩ = some (.bool true) := hb1.cell 1
  have hb1' : Blk w1 G (rsCells (.slice (some ⟨g, 0, none⟩) vars.length cap) true br (nLive br live vars dn)) 142 := hb1
  have hlv : nLive br live vars dn < 18446744073709551616 := dropTo_lt br vars dn live hlive _
  obtain ⟨X, hX⟩ : ∃ X, X = w1.alloc (.cells (domV zero8) 76) := ⟨_, rfl⟩
  have hfX : Nw w1 X := by rw [hX]; exact (Fr.refl _ w1).alloc _
  have hbS : Blk X w1.heap.size (domV zero8) 76 := by rw [hX]; exact Blk.new _ _ _
  have hntX : X.cell? ⟨G, 1, none⟩ = some (.bool true) := (hb1.nw hfX).cell 1
  have HX := hd hX
  have HbS := hd hbS
  have Hb1 := hd (hb1'.nw hfX)
  have HbD1 := hd (hbD1.nw hfX)
  have HbR1 := hd (hbR1.nw hfX)
  have Hrv1 := hd (hrv1.nw hfX)
  clear hb1 hb1' hbD1 hbR1 hrv1 hX hbS c0 c1 c2 c3 c4 c5 c6 c7 hnt
  go_upto_region 3 with fail
  rw [show w1.alloc (Obj.cells #[Value.int .u8 0, .int .u8 0, .int .u8 0, .int .u8 0, .int .u8 0, .int .u8 0, .int .u8 0, .int .u8 0] 76) = X from HX.out.symm]
  obtain ⟨m, hm⟩ : ∃ m, (unc br vars dn vars.length 0 (nLive br live vars dn) zero8).2 = m := ⟨_, rfl⟩
  have hmlen : m.length = 8 := by rw [← hm]; exact (unc_ok br vars dn hd64 vars.length 0 (nLive br live vars dn) zero8 zero8_lt).1
  have hcL : X.cell? ⟨G, 26, none⟩ = some (.int .u64 (nLive br live vars dn : Nat)) := (Hb1.out.cell 26).trans (rsCells_live _ _ _ _ h24)
  have hfin : nDomN br live vars dn = replTo vars dn m vars.length := by simp only [nDomN]; rw [hm]
  have Hm := hd hm
  have Hfin := hd hfin
  clear hm hfin
  go_wp2_with (go_at_call 116; refine (unc_any G g cap w.heap.size w1.heap.size true br (nLive br live vars dn) vars dn (by omega) h8 h24 hbr h4 hcap hv hd64 vars.length 0 (by omega) (nLive br live vars dn) zero8 X hlv rfl zero8_lt Hb1.out Hrv1.out HbD1.out HbS.out).mono ?_; rintro e w2 ⟨rfl, hf2, hb2⟩)
  have hs2 := hf2.size
  have hfXs := hfX.size
  have hb2' : Blk w2 w1.heap.size (domV m) 76 := by rw [← Hm.out]; exact hb2
  have hG2 := Hb1.out.fr hf2 (by omega)
  have hD2 := HbD1.out.fr hf2 (by omega)
  have hR2 := HbR1.out.fr hf2 (by omega)
  have hv2 := Hrv1.out.fr hf2 (fun k hk e => by have e' : g = w1.heap.size := by cases hk; exact e
                                                omega)
  have hcG : w2.cell? ⟨G, 0, none⟩ = some (.slice (some ⟨g, 0, none⟩) vars.length cap) := hG2.cell 0
  obtain ⟨m0, m1, m2, m3, m4, m5, m6, m7, hmv⟩ := domV8 hmlen
  obtain ⟨c0, c1, c2, c3, c4, c5, c6, c7⟩ := cells8 (Hdv.out ▸ hD2)
  obtain ⟨s0, s1, s2, s3, s4, s5, s6, s7⟩ := cells8 (hmv ▸ hb2')
  have Hv2 := hd (hv2.drew.ints)
  have HG2 := hd hG2
  have HR2 := hd hR2
  have Hmv := hd hmv
  have HF2 : Hid (Fr (fun k => k = G) w w2) := ((hfW.mono (fun i h => h.elim)).trans hf1 (fun i h => .inl h)).trans (hfX.mono (fun i h => h.elim)) (fun i h => .inl h) |>.trans hf2 (fun i h => .inr (by omega))
  clear hb2 hb2' hG2 hD2 hR2 hv2 hmv
  go_still_tail 6, (by kernel_rfl)
  go_wp2_with fail
  rw [← Hdv.out, ← Hmv.out]
  refine (replaced_any (some ⟨g, 0, none⟩) cap vars dn m _ h4 hv Hv2.out h8 hmlen).mono ?_
  rintro e w3 ⟨rfl, hf3⟩
  have hrl : (replTo vars dn m vars.length).length = 8 := by rw [replTo_length]; exact h8
  obtain ⟨r0, r1, r2, r3, r4, r5, r6, r7, hrv⟩ := domV8 hrl
  obtain ⟨a0, a1, a2, a3, a4, a5, a6, a7, hav⟩ := domV8 (d := zero8) rfl
  have hR3 : Blk w3 (w.heap.size + 1) #[a0, a1, a2, a3, a4, a5, a6, a7] 76 := hav ▸ (HR2.out.drew.nw hf3)
  obtain ⟨t0, t1, t2, t3, t4, t5, t6, t7⟩ := cells8 hR3
  have hfz : ∀ i, w3.frozen? ⟨w.heap.size + 1, i, none⟩ = false := hR3.free
  have o0 : ∀ i, i < 8 → (#[r0, r1, r2, r3, r4, r5, r6, r7] : Array Value).size = 8 := fun _ _ => rfl
  rw [hrv]
  have Hrv := hd hrv
  have HR3 := hd hR3
  have HF3 : Hid (Fr (fun k => k = G) w w3) := (HF2.out.drew).trans hf3 (fun i h => h.elim)
  have HG3 := hd (HG2.out.drew.nw hf3)
  have ho := domV_one (replTo vars dn m vars.length) hrv
  clear hrv hav hR3 c0 c1 c2 c3 c4 c5 c6 c7 s0 s1 s2 s3 s4 s5 s6 s7 o0
  obtain ⟨⟨y0, rfl⟩, ⟨y1, rfl⟩, ⟨y2, rfl⟩, ⟨y3, rfl⟩, ⟨y4, rfl⟩, ⟨y5, rfl⟩, ⟨y6, rfl⟩, ⟨y7, rfl⟩⟩ := ho
  go_wp2
  have hB := HR3.out.set8 0 1 2 3 4 5 6 7 (.int .u8 y0) (.int .u8 y1) (.int .u8 y2) (.int .u8 y3) (.int .u8 y4) (.int .u8 y5) (.int .u8 y6) (.int .u8 y7)
  have hF8 := HF3.out.set8 (w.heap.size + 1) 0 1 2 3 4 5 6 7 (.int .u8 y0) (.int .u8 y1) (.int .u8 y2) (.int .u8 y3) (.int .u8 y4) (.int .u8 y5) (.int .u8 y6) (.int .u8 y7) (.inr (by omega))
  have hFg := (Fr.refl (fun k => k = w.heap.size + 1) w3).set8 (w.heap.size + 1) 0 1 2 3 4 5 6 7 (.int .u8 y0) (.int .u8 y1) (.int .u8 y2) (.int .u8 y3) (.int .u8 y4) (.int .u8 y5) (.int .u8 y6) (.int .u8 y7) (.inl rfl)
  have hG8 := HG3.out.fr hFg (by omega)
  rw [arr8] at hB
  generalize hX8 : ((((((((w3.setCell ⟨w.heap.size + 1, 0, none⟩ (Value.int .u8 y0)).setCell ⟨w.heap.size + 1, 1, none⟩ (Value.int .u8 y1)).setCell ⟨w.heap.size + 1, 2, none⟩ (Value.int .u8 y2)).setCell ⟨w.heap.size + 1, 3, none⟩ (Value.int .u8 y3)).setCell ⟨w.heap.size + 1, 4, none⟩ (Value.int .u8 y4)).setCell ⟨w.heap.size + 1, 5, none⟩ (Value.int .u8 y5)).setCell ⟨w.heap.size + 1, 6, none⟩ (Value.int .u8 y6)).setCell ⟨w.heap.size + 1, 7, none⟩ (Value.int .u8 y7)) = X8 at hB hF8 hG8 ⊢
  obtain ⟨q0, q1, q2, q3, q4, q5, q6, q7⟩ := cells8 hB
  refine bodyPost_ret (v := .agg (domV (nDomN br live vars dn))) ?_ rfl ⟨rfl, hF8, hG8⟩
  rw [Hfin.out, Hrv.out]
  simp [results, Try.results113, go_sem, q0, q1, q2, q3, q4, q5, q6, q7]
end Go.Proofs.Ytkjfpdfkcfgfkaa

/- Nodes of a diagram as values and as keys of a map; a map of numbers. -/
namespace Go.Proofs.Ytkjfpdfkcfgfkaa
open Go.RowKit Go.Maps

/-- Six numbers as cells. -/
def nodeC (n : List Nat) : List Value := n.map (fun (x : Nat) => Value.int .i64 (x : Int))
abbrev nodeV (n : List Nat) : Value := .agg (nodeC n).toArray
/-- What may be a node: six numbers that are not great. -/
def NodeOk (n : List Nat) : Prop := n.length = 6 ∧ ∀ x ∈ n, x < 4294967296
theorem Try.laidOutB' : laidOutB Try.prog = true := by kernel_rfl
theorem nodeKeyed : Keyed Try.prog 154 := Keyed.of_law (deep_law_laid Try.laidOutB' (m := 3) (by omega) (of_decide_eq_true (by kernel_rfl)) (by kernel_rfl) (by kernel_rfl))
theorem intKeyed : Keyed Try.prog 3 := int_keyed Try.underlying3

theorem list6 {n : List Nat} (h : n.length = 6) : ∃ a b c d e f, n = [a, b, c, d, e, f] := by
  match n, h with
  | [a, b, c, d, e, f], _ => exact ⟨a, b, c, d, e, f, rfl⟩
theorem wf64 (x : Nat) (h : x < 4294967296) : (Lit.int .i64 (x : Int)).wf = true := WalkArith.wf_i64 (by omega)
theorem node_key (n : List Nat) (h : NodeOk n) : ∃ kl, keyOf Try.prog 154 (nodeV n) = some kl := by
  obtain ⟨a, b, c, d, e, f, rfl⟩ := list6 h.1
  have hx := h.2
  have ha := wf64 a (hx a (by simp))
  have hb := wf64 b (hx b (by simp))
  have hc := wf64 c (hx c (by simp))
  have hd := wf64 d (hx d (by simp))
  have he := wf64 e (hx e (by simp))
  have hf := wf64 f (hx f (by simp))
  have u1 := Try.underlying154
  have u2 := Try.underlying64
  have u3 := Try.underlying3
  have c1 : Try.prog.cellsOf 154 = 6 := by kernel_rfl
  have c2 : Try.prog.cellsOf 64 = 6 := by kernel_rfl
  have c3 : Try.prog.cellsOf 3 = 1 := by kernel_rfl
  have kt : Try.prog.keyType 154 = true := by kernel_rfl
  have hn : Try.prog.types.size + 1 = (Try.prog.types.size - 2) + 1 + 1 + 1 := by
    have : 2 ≤ Try.prog.types.size := of_decide_eq_true (by kernel_rfl)
    omega
  unfold keyOf
  rw [u1]
  dsimp only
  rw [kt, hn]
  generalize Try.prog.types.size - 2 = dd
  simp [Value.formed, u1, c1, nodeC, Program.keyLits, u2, u3, c2, c3, Value.cells, List.range, List.range.loop, ha, hb, hc, hd, he, hf]

/-- Block B is a map from keys of type k to numbers, of at most n entries: f. -/
def NumMap (w : World) (k : TypeId) (B n : Nat) (f : Value → Option Nat) : Prop :=
  ∃ D : DataW Unit, w.ownsMap Try.prog k (plainElem Try.prog 3) B n D ∧ ∀ key kl, keyOf Try.prog k key = some kl → has D kl = (f key).isSome ∧ D.atKey kl (.lit (.int .i64 0)) = .lit (.int .i64 ((f key).getD 0 : Nat))
theorem NumMap.made (w : World) (k : TypeId) : NumMap (w.alloc (.map #[] 0)) k w.heap.size 0 (fun _ => none) :=
  ⟨.map [], World.ownsMap_made w _ _ _, fun _ _ _ => ⟨rfl, rfl⟩⟩
theorem NumMap.block {w w' : World} {k : TypeId} {B n : Nat} {f : Value → Option Nat} (h : NumMap w k B n f) (hb : w'.heap[B]? = w.heap[B]?) : NumMap w' k B n f := by
  obtain ⟨D, ⟨es, clock, hh, r⟩, hD⟩ := h
  exact ⟨D, ⟨es, clock, hb.trans hh, r⟩, hD⟩
theorem NumMap.lt {w : World} {k : TypeId} {B n : Nat} {f : Value → Option Nat} (h : NumMap w k B n f) : B < w.heap.size := by
  obtain ⟨D, h, _⟩ := h
  exact h.lt
theorem NumMap.fr {S : Nat → Prop} {w w' : World} {k : TypeId} {B n : Nat} {f : Value → Option Nat} (h : NumMap w k B n f) (hf : Fr S w w') (hn : ¬ S B) : NumMap w' k B n f := h.block (hf.block B h.lt hn)
theorem NumMap.nw {w w' : World} {k : TypeId} {B n : Nat} {f : Value → Option Nat} (h : NumMap w k B n f) (hf : Nw w w') : NumMap w' k B n f := h.fr hf (fun x => x)
theorem NumMap.bk {lo : Nat} {w w' : World} {k : TypeId} {B n : Nat} {f : Value → Option Nat} (h : NumMap w k B n f) (hb : Bk lo w w') (hl : B < lo) : NumMap w' k B n f := by
  obtain ⟨row, hg, hr⟩ := hb
  exact h.block (hg.block B h.lt (fun e => by have := (hr B e.symm).1; omega))
theorem NumMap.mono {w : World} {k : TypeId} {B n n' : Nat} {f : Value → Option Nat} (h : NumMap w k B n f) (hn : n ≤ n') : NumMap w k B n' f := by
  obtain ⟨D, h, hD⟩ := h
  exact ⟨D, h.mono hn, hD⟩
theorem NumMap.map {w : World} {k : TypeId} {B n : Nat} {f : Value → Option Nat} (h : NumMap w k B n f) : ∃ o, w.heap[B]? = some o ∧ loopy o = false := by
  obtain ⟨D, ⟨es, clock, hh, _⟩, _⟩ := h
  exact ⟨_, hh, rfl⟩
theorem zeroInt (w : World) : (zeroValue 3).run Try.prog w = .ok (.int .i64 0) w := by kernel_rfl
theorem plainInt_inv {v : Value} {z : DataW Unit × List MemPlace} (h : plainElem Try.prog 3 v = some z) : ∃ a, v = .int .i64 a ∧ z.1 = .lit (.int .i64 a) := by
  obtain ⟨a, h1, h2, _⟩ := plainElem_int_inv Try.underlying3 h
  exact ⟨a, h1, by rw [h2]⟩
/-- m[k] with ok. -/
theorem NumMap.look_ok {w : World} {t k : TypeId} {B n : Nat} {f : Value → Option Nat} (h : NumMap w k B n f) (K : Keyed Try.prog k) (ht : Try.prog.underlying t = some (.map k 3)) {key : Value} {kl : Lit} (hkey : keyOf Try.prog k key = some kl) :
    (Instr.lookup t (.map (some B)) key true).run Try.prog w = .ok (.tuple #[.int .i64 ((f key).getD 0 : Nat), .bool (f key).isSome]) w := by
  obtain ⟨D, h, hD⟩ := h
  obtain ⟨v, ps, hrun, hv⟩ := h.look_ok K ht (zeroInt w) (plainElem_int Try.underlying3 (by decide)) hkey
  obtain ⟨a, rfl, ha⟩ := plainInt_inv hv
  obtain ⟨h1, h2⟩ := hD key kl hkey
  rw [hrun, h1]
  rw [h2] at ha
  simp only [DataW.lit.injEq, Lit.int.injEq, true_and] at ha
  rw [← ha]
/-- m[k]. -/
theorem NumMap.look {w : World} {t k : TypeId} {B n : Nat} {f : Value → Option Nat} (h : NumMap w k B n f) (K : Keyed Try.prog k) (ht : Try.prog.underlying t = some (.map k 3)) {key : Value} {kl : Lit} (hkey : keyOf Try.prog k key = some kl) :
    (Instr.lookup t (.map (some B)) key false).run Try.prog w = .ok (.int .i64 ((f key).getD 0 : Nat)) w := by
  obtain ⟨D, h, hD⟩ := h
  obtain ⟨c, hrun, hat, _⟩ := h.lookup_int K ht Try.underlying3 (zeroInt w) hkey
  obtain ⟨_, h2⟩ := hD key kl hkey
  rw [h2] at hat
  simp only [DataW.lit.injEq, Lit.int.injEq, true_and] at hat
  rw [hrun, ← hat]
open Classical in
/-- m[k] = x. -/
theorem NumMap.store {w : World} {t k : TypeId} {B n : Nat} {f : Value → Option Nat} (h : NumMap w k B n f) (K : Keyed Try.prog k) (ht : Try.prog.underlying t = some (.map k 3)) (hn : n < maxLen) {key : Value} {kl : Lit} (hkey : keyOf Try.prog k key = some kl) (x : Nat) (hx : x < 4294967296) :
    ∃ w', (Instr.mapUpdate t (.map (some B)) key (.int .i64 (x : Int))).run Try.prog w = .ok () w' ∧ NumMap w' k B (n + 1) (fun v => if v = key then some x else f v) ∧ Fr (fun j => j = B) w w' := by
  obtain ⟨D, h, hD⟩ := h
  obtain ⟨w', hrun, hown, hg⟩ := h.update K ht hn hkey (plainElem_int Try.underlying3 (wf64 x hx))
  refine ⟨w', hrun, ⟨_, hown, fun key' kl' hk' => ?_⟩, (Fr.refl _ w).grown hg (fun j hj => .inl (by cases hj; rfl))⟩
  by_cases he : kl' = kl
  · subst he
    have : key' = key := K.inj hk' hkey
    subst this
    dsimp only
    rw [if_pos rfl]
    exact ⟨has_put_same h.isMap (K.key hkey) _, atKey_put_same h.isMap (K.key hkey) _ _⟩
  · have : key' ≠ key := fun e => by subst e; rw [hk'] at hkey; exact he (Option.some.inj hkey)
    dsimp only
    rw [if_neg this, has_put_other he, atKey_put_other he]
    exact hD key' kl' hk'
end Go.Proofs.Ytkjfpdfkcfgfkaa
