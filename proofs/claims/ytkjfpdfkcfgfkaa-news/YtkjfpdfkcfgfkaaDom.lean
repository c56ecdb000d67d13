/- Contracts about domains: Changed, replaced, emptied. -/
import Derived.Test.YtkjfpdfkcfgfkaaWork1
import Derived.Test.YtkjfpdfkcfgfkaaRs2
namespace Go.Proofs.Ytkjfpdfkcfgfkaa
open Go.RowKit

/-- Eight domains as a value. -/
abbrev domV (d : List Nat) : Array Value := (d.map (fun (x : Nat) => Value.int .u8 (x : Int))).toArray
theorem domV_get (d : List Nat) (i : Nat) (h : i < d.length) : (domV d)[i]? = some (.int .u8 (d.getD i 0 : Nat)) := by
  simp [domV, h]
theorem domV_set (d : List Nat) (i x : Nat) : (domV d).setIfInBounds i (.int .u8 (x : Int)) = domV (d.set i x) := by
  simp [domV, List.map_set]
theorem list8 {d : List Nat} (h : d.length = 8) : ∃ d0 d1 d2 d3 d4 d5 d6 d7, d = [d0, d1, d2, d3, d4, d5, d6, d7] := by
  match d, h with
  | [d0, d1, d2, d3, d4, d5, d6, d7], _ => exact ⟨d0, d1, d2, d3, d4, d5, d6, d7, rfl⟩

/-- Eight cells of one block stored one after the other. -/
theorem Fr.set8 {S : Nat → Prop} {a b : World} (h : Fr S a b) (g o0 o1 o2 o3 o4 o5 o6 o7 : Nat) (v0 v1 v2 v3 v4 v5 v6 v7 : Value) (hg : S g ∨ a.heap.size ≤ g) :
    Fr S a ((((((((b.setCell ⟨g, o0, none⟩ v0).setCell ⟨g, o1, none⟩ v1).setCell ⟨g, o2, none⟩ v2).setCell ⟨g, o3, none⟩ v3).setCell ⟨g, o4, none⟩ v4).setCell ⟨g, o5, none⟩ v5).setCell ⟨g, o6, none⟩ v6).setCell ⟨g, o7, none⟩ v7) :=
  (((((((h.setCell ⟨g, o0, none⟩ v0 hg).setCell ⟨g, o1, none⟩ v1 hg).setCell ⟨g, o2, none⟩ v2 hg).setCell ⟨g, o3, none⟩ v3 hg).setCell ⟨g, o4, none⟩ v4 hg).setCell ⟨g, o5, none⟩ v5 hg).setCell ⟨g, o6, none⟩ v6 hg).setCell ⟨g, o7, none⟩ v7 hg
theorem Blk.set8 {b : World} {g : Nat} {cur : Array Value} {e : TypeId} (h : Blk b g cur e) (o0 o1 o2 o3 o4 o5 o6 o7 : Nat) (v0 v1 v2 v3 v4 v5 v6 v7 : Value) :
    Blk ((((((((b.setCell ⟨g, o0, none⟩ v0).setCell ⟨g, o1, none⟩ v1).setCell ⟨g, o2, none⟩ v2).setCell ⟨g, o3, none⟩ v3).setCell ⟨g, o4, none⟩ v4).setCell ⟨g, o5, none⟩ v5).setCell ⟨g, o6, none⟩ v6).setCell ⟨g, o7, none⟩ v7) g ((((((((cur.setIfInBounds o0 v0).setIfInBounds o1 v1).setIfInBounds o2 v2).setIfInBounds o3 v3).setIfInBounds o4 v4).setIfInBounds o5 v5).setIfInBounds o6 v6).setIfInBounds o7 v7) e :=
  (((((((h.set o0 v0).set o1 v1).set o2 v2).set o3 v3).set o4 v4).set o5 v5).set o6 v6).set o7 v7

theorem arr8 (a0 a1 a2 a3 a4 a5 a6 a7 v0 v1 v2 v3 v4 v5 v6 v7 : Value) : ((((((((#[a0, a1, a2, a3, a4, a5, a6, a7].setIfInBounds 0 v0).setIfInBounds 1 v1).setIfInBounds 2 v2).setIfInBounds 3 v3).setIfInBounds 4 v4).setIfInBounds 5 v5).setIfInBounds 6 v6).setIfInBounds 7 v7) = #[v0, v1, v2, v3, v4, v5, v6, v7] := by simp
theorem cells8 {w : World} {g : Nat} {v0 v1 v2 v3 v4 v5 v6 v7 : Value} {e : TypeId} (h : Blk w g #[v0, v1, v2, v3, v4, v5, v6, v7] e) :
    w.cell? ⟨g, 0, none⟩ = some v0 ∧ w.cell? ⟨g, 1, none⟩ = some v1 ∧ w.cell? ⟨g, 2, none⟩ = some v2 ∧ w.cell? ⟨g, 3, none⟩ = some v3 ∧ w.cell? ⟨g, 4, none⟩ = some v4 ∧ w.cell? ⟨g, 5, none⟩ = some v5 ∧ w.cell? ⟨g, 6, none⟩ = some v6 ∧ w.cell? ⟨g, 7, none⟩ = some v7 :=
  ⟨h.cell 0, h.cell 1, h.cell 2, h.cell 3, h.cell 4, h.cell 5, h.cell 6, h.cell 7⟩

/-- Does a variable of the table have another domain? -/
def changedB (vars : List Int) (a b : List Nat) (k : Nat) : Bool := (List.range k).any (fun i => a.getD (vars.getD i 0).toNat 0 != b.getD (vars.getD i 0).toNat 0)

set_option maxHeartbeats 1600000 in
set_option maxRecDepth 1000000 in
theorem changed_any (vo : Option Addr) (cap : Nat) (vars : List Int) (a b : List Nat) (w : World) (h4 : vars.length ≤ 4) (hv : ∀ i, i < vars.length → 0 ≤ vars.getD i 0 ∧ vars.getD i 0 < 8) (hvs : IntsAt w vo vars)
    (ha : a.length = 8) (hb : b.length = 8) :
    Calls Try.prog 105 #[.agg #[.slice vo vars.length cap], .agg (domV a), .agg (domV b)] w fun e w' =>
      e = .returned (.bool (changedB vars a b vars.length)) ∧ Nw w w' := by
  obtain ⟨T, hT⟩ : ∃ T, T = w.heap.size := ⟨_, rfl⟩
  obtain ⟨W, hW⟩ : ∃ W, W = ((w.alloc (.cells #[.slice vo vars.length cap] 129)).alloc (.cells (domV a) 76)).alloc (.cells (domV b) 76) := ⟨_, rfl⟩
  have hfW : Nw w W := by rw [hW]; exact (((Fr.refl _ w).alloc _).alloc _).alloc _
  have hbA : Blk W (T + 1) (domV a) 76 := by
    rw [hW, hT]
    have := (Blk.new (w.alloc (.cells #[.slice vo vars.length cap] 129)) (domV a) 76).alloc (.cells (domV b) 76)
    simpa using this
  have hbB : Blk W (T + 2) (domV b) 76 := by
    rw [hW, hT]
    have := Blk.new ((w.alloc (.cells #[.slice vo vars.length cap] 129)).alloc (.cells (domV a) 76)) (domV b) 76
    simpa using this
  have hvW := hvs.nw hfW
  go_enter Try.func105, Try.ntmps105
  go_wp2_with fail
  rw [← hW, ← hT]
  clear hW hT hvs
  go_loopw [12] (fun i wr => ∃ k : Nat, k ≤ vars.length ∧ i = .int .i64 k ∧ (∃ n, wr = W.drewN n) ∧ Hid (changedB vars a b k = false)) (fun i _ => vars.length - (intOf i).toNat)
  case atStart => exact ⟨0, Nat.zero_le _, rfl, ⟨0, rfl⟩, rfl⟩
  case round =>
    obtain ⟨k, hk, rfl, ⟨n, rfl⟩, HC⟩ := hrel
    by_cases hlt : k < vars.length
    · obtain ⟨b1, o1, rfl, _, hck⟩ := hvW k hlt
      obtain ⟨hv0, hv8⟩ := hv k hlt
      obtain ⟨q, hq⟩ : ∃ q : Nat, vars.getD k 0 = (q : Int) := ⟨(vars.getD k 0).toNat, by omega⟩
      have hcs : changedB vars a b (k + 1) = (changedB vars a b k || (a.getD q 0 != b.getD q 0)) := by
        simp only [changedB, List.range_succ, List.any_append, List.any_cons, List.any_nil, Bool.or_false]
        rw [hq, Int.toNat_natCast]
      have hmono : changedB vars a b (k + 1) = true → changedB vars a b vars.length = true := fun h => by
        simp only [changedB, List.any_eq_true, List.mem_range] at h ⊢
        obtain ⟨i, hi, h'⟩ := h
        exact ⟨i, by omega, h'⟩
      rw [hq] at hck hv0 hv8
      have hcA : W.cell? ⟨T + 1, q, none⟩ = some (.int .u8 (a.getD q 0 : Nat)) := (hbA.cell q).trans (domV_get a q (by omega))
      have hcB : W.cell? ⟨T + 2, q, none⟩ = some (.int .u8 (b.getD q 0 : Nat)) := (hbB.cell q).trans (domV_get b q (by omega))
      have Hcs := hd hcs
      have Hmono := hd hmono
      obtain ⟨x, hx⟩ : ∃ x, a.getD q 0 = x := ⟨_, rfl⟩
      obtain ⟨y, hy⟩ : ∃ y, b.getD q 0 = y := ⟨_, rfl⟩
      rw [hx] at hcA Hcs
      rw [hy] at hcB Hcs
      clear hcs hmono hq hx hy hvW hv hbA hbB
      by_cases hxy : x = y
      · subst hxy
        go_wp2
        go_quiet (fail)
        go_wp2
        refine ⟨⟨k + 1, by omega, by go_num, ⟨_, rfl⟩, ?_⟩, by simp [intOf]; omega⟩
        show _ = _
        rw [Hcs.out, HC.out]
        simp
      · have hxy' : ((x : Int) != (y : Int)) = true := by simp; omega
        go_wp2
        go_quiet (fail)
        go_wp2
        go_ret
        refine ⟨?_, (hfW.drewN _).drewN _⟩
        rw [Hmono.out (by rw [Hcs.out, HC.out]; simp [hxy])]
        rfl
    · obtain rfl : k = vars.length := by omega
      go_wp2
      go_ret
      exact ⟨by rw [HC.out]; rfl, hfW.drewN _⟩

/-- The domains with those of the table's first k variables taken from another list. -/
def replTo (vars : List Int) (d s : List Nat) : Nat → List Nat
  | 0 => d
  | k + 1 => (replTo vars d s k).set (vars.getD k 0).toNat (s.getD (vars.getD k 0).toNat 0)
theorem replTo_length (vars : List Int) (d s : List Nat) : ∀ k, (replTo vars d s k).length = d.length
  | 0 => rfl
  | k + 1 => by simp [replTo, replTo_length vars d s k]

set_option maxHeartbeats 1600000 in
set_option maxRecDepth 1000000 in
theorem replaced_any (vo : Option Addr) (cap : Nat) (vars : List Int) (a b : List Nat) (w : World) (h4 : vars.length ≤ 4) (hv : ∀ i, i < vars.length → 0 ≤ vars.getD i 0 ∧ vars.getD i 0 < 8) (hvs : IntsAt w vo vars)
    (ha : a.length = 8) (hb : b.length = 8) :
    Calls Try.prog 111 #[.agg #[.slice vo vars.length cap], .agg (domV a), .agg (domV b)] w fun e w' =>
      e = .returned (.agg (domV (replTo vars a b vars.length))) ∧ Nw w w' := by
  obtain ⟨T, hT⟩ : ∃ T, T = w.heap.size := ⟨_, rfl⟩
  obtain ⟨Z, hZ⟩ : ∃ Z, Z = #[Value.int .u8 0, .int .u8 0, .int .u8 0, .int .u8 0, .int .u8 0, .int .u8 0, .int .u8 0, .int .u8 0] := ⟨_, rfl⟩
  obtain ⟨W, hW⟩ : ∃ W, W = (((w.alloc (.cells #[.slice vo vars.length cap] 129)).alloc (.cells (domV a) 76)).alloc (.cells (domV b) 76)).alloc (.cells Z 76) := ⟨_, rfl⟩
  have hfW : Nw w W := by rw [hW]; exact ((((Fr.refl _ w).alloc _).alloc _).alloc _).alloc _
  have hbA : Blk W (T + 1) (domV a) 76 := by
    rw [hW, hT]
    have := ((Blk.new (w.alloc (.cells #[.slice vo vars.length cap] 129)) (domV a) 76).alloc (.cells (domV b) 76)).alloc (.cells Z 76)
    simpa using this
  have hbB : Blk W (T + 2) (domV b) 76 := by
    rw [hW, hT]
    have := (Blk.new ((w.alloc (.cells #[.slice vo vars.length cap] 129)).alloc (.cells (domV a) 76)) (domV b) 76).alloc (.cells Z 76)
    simpa using this
  have hbR : Blk W (T + 3) Z 76 := by
    rw [hW, hT]
    have := Blk.new (((w.alloc (.cells #[.slice vo vars.length cap] 129)).alloc (.cells (domV a) 76)).alloc (.cells (domV b) 76)) Z 76
    simpa using this
  have hvW := hvs.nw hfW
  have hvlt : ∀ b o, vo = some ⟨b, o, none⟩ → 0 < vars.length → b < T := fun b o e h0 => by
    obtain ⟨b', o', e', hb', _⟩ := hvs 0 h0
    rw [e] at e'
    cases e'
    omega
  have HsT := hd hT.symm
  have HZ := hd hZ
  have HW := hd hW
  have HT := hd hT
  clear hW hT hZ
  go_enter Try.func111, Try.ntmps111
  go_wp2_with fail
  rw [← HZ.out, ← HW.out, ← HT.out]
  clear hvs HW HT
  go_loopw [12] (fun i wr => ∃ k : Nat, k ≤ vars.length ∧ i = .int .i64 k ∧ Fr (fun j => j = T + 1) W wr ∧ Hid (Blk wr (T + 1) (domV (replTo vars a b k)) 76)) (fun i _ => vars.length - (intOf i).toNat)
  case atStart => exact ⟨0, Nat.zero_le _, rfl, Fr.refl _ _, hbA⟩
  case round =>
    obtain ⟨k, hk, rfl, hf, hbk⟩ := hrel
    have hrlen : (replTo vars a b k).length = 8 := by rw [replTo_length]; exact ha
    by_cases hlt : k < vars.length
    · obtain ⟨b1, o1, rfl, hb1, hck0⟩ := hvW k hlt
      have hb1T := hvlt b1 o1 rfl (by omega)
      have hck : wr.cell? ⟨b1, o1 + k, none⟩ = some (.int .i64 (vars.getD k 0)) := (hf.cell hb1 (by omega)).trans hck0
      obtain ⟨hv0, hv8⟩ := hv k hlt
      obtain ⟨q, hq⟩ : ∃ q : Nat, vars.getD k 0 = (q : Int) := ⟨(vars.getD k 0).toNat, by omega⟩
      have hcs : replTo vars a b (k + 1) = (replTo vars a b k).set q (b.getD q 0) := by
        simp only [replTo]
        rw [hq, Int.toNat_natCast]
      rw [hq] at hck hv0 hv8
      have hbB' : Blk wr (T + 2) (domV b) 76 := hbB.fr hf (by omega)
      have hcB : wr.cell? ⟨T + 2, q, none⟩ = some (.int .u8 (b.getD q 0 : Nat)) := (hbB'.cell q).trans (domV_get b q (by omega))
      have hcA : wr.cell? ⟨T + 1, q, none⟩ = some (.int .u8 ((replTo vars a b k).getD q 0 : Nat)) := (hbk.out.cell q).trans (domV_get _ q (by omega))
      have hfz := hbk.out.free q
      have Hcs := hd hcs
      obtain ⟨y, hy⟩ : ∃ y, b.getD q 0 = y := ⟨_, rfl⟩
      obtain ⟨x, hx⟩ : ∃ x, (replTo vars a b k).getD q 0 = x := ⟨_, rfl⟩
      rw [hy] at hcB Hcs
      rw [hx] at hcA
      clear hcs hq hx hy hvW hv hbA hbB hbB' hck0 hbR
      go_wp2
      refine ⟨⟨k + 1, by omega, by go_num, hf.setCell _ _ (.inl rfl), ?_⟩, by simp [intOf]; omega⟩
      show Blk _ _ _ _
      rw [Hcs.out, ← domV_set]
      exact hbk.out.set q _
    · obtain rfl : k = vars.length := by omega
      have hbR' : Blk wr (T + 3) Z 76 := hbR.fr hf (by omega)
      rw [HZ.out] at hbR'
      obtain ⟨d0, d1, d2, d3, d4, d5, d6, d7, hd8⟩ := list8 hrlen
      have hb8 := hbk.out
      rw [hd8] at hb8
      have r0 : wr.cell? ⟨T + 1, 0, none⟩ = some (.int .u8 (d0 : Int)) := hb8.cell 0
      have r1 : wr.cell? ⟨T + 1, 1, none⟩ = some (.int .u8 (d1 : Int)) := hb8.cell 1
      have r2 : wr.cell? ⟨T + 1, 2, none⟩ = some (.int .u8 (d2 : Int)) := hb8.cell 2
      have r3 : wr.cell? ⟨T + 1, 3, none⟩ = some (.int .u8 (d3 : Int)) := hb8.cell 3
      have r4 : wr.cell? ⟨T + 1, 4, none⟩ = some (.int .u8 (d4 : Int)) := hb8.cell 4
      have r5 : wr.cell? ⟨T + 1, 5, none⟩ = some (.int .u8 (d5 : Int)) := hb8.cell 5
      have r6 : wr.cell? ⟨T + 1, 6, none⟩ = some (.int .u8 (d6 : Int)) := hb8.cell 6
      have r7 : wr.cell? ⟨T + 1, 7, none⟩ = some (.int .u8 (d7 : Int)) := hb8.cell 7
      have s0 : wr.cell? ⟨T + 3, 0, none⟩ = some (.int .u8 0) := hbR'.cell 0
      have s1 : wr.cell? ⟨T + 3, 1, none⟩ = some (.int .u8 0) := hbR'.cell 1
      have s2 : wr.cell? ⟨T + 3, 2, none⟩ = some (.int .u8 0) := hbR'.cell 2
      have s3 : wr.cell? ⟨T + 3, 3, none⟩ = some (.int .u8 0) := hbR'.cell 3
      have s4 : wr.cell? ⟨T + 3, 4, none⟩ = some (.int .u8 0) := hbR'.cell 4
      have s5 : wr.cell? ⟨T + 3, 5, none⟩ = some (.int .u8 0) := hbR'.cell 5
      have s6 : wr.cell? ⟨T + 3, 6, none⟩ = some (.int .u8 0) := hbR'.cell 6
      have s7 : wr.cell? ⟨T + 3, 7, none⟩ = some (.int .u8 0) := hbR'.cell 7
      have f0 : ∀ i, wr.frozen? ⟨T + 3, i, none⟩ = false := hbR'.free
      have Hd8 := hd hd8
      have HR := hd hbR'
      clear hb8 hd8 hbk hvW hv hbA hbB hbR hbR' hrlen
      go_wp2
      have hB := HR.out.set8 0 1 2 3 4 5 6 7 (.int .u8 (d0 : Int)) (.int .u8 (d1 : Int)) (.int .u8 (d2 : Int)) (.int .u8 (d3 : Int)) (.int .u8 (d4 : Int)) (.int .u8 (d5 : Int)) (.int .u8 (d6 : Int)) (.int .u8 (d7 : Int))
      have hF : Nw w wr := hfW.trans hf (fun i h => .inr (by have := HsT.out; omega))
      have hF8 := hF.set8 (T + 3) 0 1 2 3 4 5 6 7 (.int .u8 (d0 : Int)) (.int .u8 (d1 : Int)) (.int .u8 (d2 : Int)) (.int .u8 (d3 : Int)) (.int .u8 (d4 : Int)) (.int .u8 (d5 : Int)) (.int .u8 (d6 : Int)) (.int .u8 (d7 : Int)) (.inr (by have := HsT.out; omega))
      have hv8 : domV (replTo vars a b vars.length) = #[.int .u8 (d0 : Int), .int .u8 (d1 : Int), .int .u8 (d2 : Int), .int .u8 (d3 : Int), .int .u8 (d4 : Int), .int .u8 (d5 : Int), .int .u8 (d6 : Int), .int .u8 (d7 : Int)] := by rw [Hd8.out]; rfl
      generalize hX : ((((((((wr.setCell ⟨T + 1 + 1 + 1, 0, none⟩ (Value.int .u8 (d0 : Int))).setCell ⟨T + 1 + 1 + 1, 1, none⟩ (Value.int .u8 (d1 : Int))).setCell ⟨T + 1 + 1 + 1, 2, none⟩ (Value.int .u8 (d2 : Int))).setCell ⟨T + 1 + 1 + 1, 3, none⟩ (Value.int .u8 (d3 : Int))).setCell ⟨T + 1 + 1 + 1, 4, none⟩ (Value.int .u8 (d4 : Int))).setCell ⟨T + 1 + 1 + 1, 5, none⟩ (Value.int .u8 (d5 : Int))).setCell ⟨T + 1 + 1 + 1, 6, none⟩ (Value.int .u8 (d6 : Int))).setCell ⟨T + 1 + 1 + 1, 7, none⟩ (Value.int .u8 (d7 : Int))) = X
      rw [show T + 3 = T + 1 + 1 + 1 from rfl] at hB hF8
      rw [hX] at hB hF8
      rw [arr8] at hB
      obtain ⟨q0, q1, q2, q3, q4, q5, q6, q7⟩ := cells8 hB
      refine bodyPost_ret (v := .agg (domV (replTo vars a b vars.length))) ?_ rfl ⟨rfl, hF8⟩
      rw [hv8]
      simp [results, Try.results111, go_sem, q0, q1, q2, q3, q4, q5, q6, q7]
end Go.Proofs.Ytkjfpdfkcfgfkaa
