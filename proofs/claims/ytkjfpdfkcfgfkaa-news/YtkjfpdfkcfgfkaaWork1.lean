/- Contracts of the program's Work: dead, has, fault, Domain. -/
import Derived.Test.YtkjfpdfkcfgfkaaSetList
namespace Go.Proofs.Ytkjfpdfkcfgfkaa
open Go.RowKit

theorem workCells_sz (szv : Value) (d : List Nat) (tv : Value) (l : Rest) : (workCells szv d tv l)[0]? = some szv := by simp [workCells]
theorem workCells_dom (szv : Value) (d : List Nat) (tv : Value) (l : Rest) (i : Nat) (hi : i < d.length) : (workCells szv d tv l)[1 + i]? = some (.int .u8 (d.getD i 0 : Nat)) := by
  rw [Nat.add_comm]
  simp [workCells, List.getElem?_append_left, hi]
theorem workCells_tabs (szv : Value) (d : List Nat) (tv : Value) (l : Rest) (h8 : d.length = 8) : (workCells szv d tv l)[9]? = some tv := by
  simp [workCells, h8]
theorem workCells_backs (szv : Value) (d : List Nat) (tv : Value) (l : Rest) (h8 : d.length = 8) : (workCells szv d tv l)[10]? = some l.backs := by
  simp [workCells, h8]
theorem workCells_starts (szv : Value) (d : List Nat) (tv : Value) (l : Rest) (h8 : d.length = 8) : (workCells szv d tv l)[11]? = some l.starts := by
  simp [workCells, h8]

theorem workCells_busy (szv : Value) (d : List Nat) (tv : Value) (l : Rest) (h8 : d.length = 8) : (workCells szv d tv l)[12]? = some (.bool l.busy) := by
  simp [workCells, h8]

set_option maxHeartbeats 400000 in
theorem dead_any (X : Nat) (szv : Value) (d : List Nat) (tv : Value) (l : Rest) (w : World) (hX : Blk w X (workCells szv d tv l) 82) (h8 : d.length = 8) :
    Calls Try.prog 37 #[.pointer (some ⟨X, 0, none⟩)] w fun e w' => e = .returned (.bool (d.getD 0 0 == 0)) ∧ w' = w := by
  have h1 : w.cell? ⟨X, 1, none⟩ = some (.int .u8 (d.getD 0 0 : Nat)) := (hX.cell 1).trans (workCells_dom szv d tv l 0 (by omega))
  obtain ⟨x, hx⟩ : ∃ x, d.getD 0 0 = x := ⟨_, rfl⟩
  rw [hx] at h1
  have Hx := hd hx
  clear hx hX
  go_enter Try.func37, Try.ntmps37
  go_wp2
  go_ret
  refine ⟨?_, rfl⟩
  rw [Hx.out]
  show Ending.returned (.bool ((x : Int) == 0)) = _
  congr 2
  rw [Bool.eq_iff_iff]
  simp

set_option maxHeartbeats 400000 in
theorem has_any (X : Nat) (szv : Value) (d : List Nat) (tv : Value) (l : Rest) (zs : List Int) (v : Int) (w : World) (hX : Blk w X (workCells szv d tv l) 82)
    (hsz : Row w szv 3 (zs.map (Value.int .i64))) (_ : zs.length ≤ 8) :
    Calls Try.prog 47 #[.pointer (some ⟨X, 0, none⟩), .int .i64 v] w fun e w' => e = .returned (.bool (decide (0 ≤ v) && decide (v < zs.length))) ∧ w' = w := by
  have h1 : w.cell? ⟨X, 0, none⟩ = some szv := (hX.cell 0).trans (workCells_sz ..)
  obtain ⟨ao, cap, hf, _⟩ := hsz.form
  simp only [List.length_map] at hf
  rw [hf] at h1
  clear hf hX hsz
  by_cases h0 : 0 ≤ v
  · go_enter Try.func47, Try.ntmps47
    go_wp2
    go_ret
    exact ⟨by simp [h0], rfl⟩
  · have hb : decide (0 ≤ v) = false := by simpa using h0
    go_enter Try.func47, Try.ntmps47
    go_wp2
    go_ret
    exact ⟨by simp, rfl⟩

set_option maxHeartbeats 800000 in
/-- The answer of Domain at a variable. -/
theorem domain_ok (X : Nat) (szv : Value) (d : List Nat) (tv : Value) (l : Rest) (zs : List Int) (v : Nat) (w : World) (hX : Blk w X (workCells szv d tv l) 82)
    (hsz : Row w szv 3 (zs.map (Value.int .i64))) (hl : zs.length ≤ 8) (hv : v < zs.length) (h8 : d.length = 8) (hd8 : d.getD v 0 < 256) (hbz : l.busy = false) :
    Calls Try.prog 28 #[.pointer (some ⟨X, 0, none⟩), .int .i64 v] w fun e w' =>
      e = .returned (.tuple #[.slice (some ⟨w.heap.size, 0, none⟩) (vals (d.getD v 0)).length (vals (d.getD v 0)).length, .int .i64 0]) ∧ Nw w w' ∧ Blk w' w.heap.size (ints (vals (d.getD v 0))).toArray 3 := by
  have h1 : w.cell? ⟨X, 1 + v, none⟩ = some (.int .u8 (d.getD v 0 : Nat)) := (hX.cell _).trans (workCells_dom szv d tv l v (by omega))
  obtain ⟨x, hx⟩ : ∃ x, d.getD v 0 = x := ⟨_, rfl⟩
  rw [hx] at h1 hd8 ⊢
  have hcb : w.cell? ⟨X, 12, none⟩ = some (.bool false) := (hX.cell 12).trans ((workCells_busy szv d tv l h8).trans (by rw [hbz]))
  clear hx hbz
  have hb1 : (decide ((0 : Int) ≤ (v : Int)) && decide ((v : Int) < (zs.length : Int))) = true := by simp; omega
  have hi8 : (v : Int) < 8 := by omega
  go_enter Try.func28, Try.ntmps28
  go_wp2_with (first
    | (go_at_call 47; refine (has_any X szv d tv l zs v _ hX hsz hl).mono ?_; rw [hb1]; rintro e w' ⟨rfl, rfl⟩)
    | (go_at_call 48; refine (list_any x _ hd8).mono ?_; rintro e w2 ⟨rfl, hf2, hb2⟩))
  go_ret2
  exact ⟨rfl, hf2, hb2⟩

set_option maxHeartbeats 800000 in
theorem domain_no (X : Nat) (szv : Value) (d : List Nat) (tv : Value) (l : Rest) (zs : List Int) (v : Int) (w : World) (hX : Blk w X (workCells szv d tv l) 82)
    (hsz : Row w szv 3 (zs.map (Value.int .i64))) (hl : zs.length ≤ 8) (hv : ¬ (0 ≤ v ∧ v < zs.length)) (h8 : d.length = 8) (hbz : l.busy = false) :
    Calls Try.prog 28 #[.pointer (some ⟨X, 0, none⟩), .int .i64 v] w fun e w' => e = .returned (.tuple #[.slice none 0 0, .int .i64 1]) ∧ w' = w := by
  have hb1 : (decide ((0 : Int) ≤ v) && decide (v < (zs.length : Int))) = false := by simp; omega
  have hcb : w.cell? ⟨X, 12, none⟩ = some (.bool false) := (hX.cell 12).trans ((workCells_busy szv d tv l h8).trans (by rw [hbz]))
  clear hbz
  go_enter Try.func28, Try.ntmps28
  go_wp2_with (first
    | (go_at_call 47; refine (has_any X szv d tv l zs v _ hX hsz hl).mono ?_; rw [hb1]; rintro e w' ⟨rfl, rfl⟩))
  go_ret2
  exact ⟨rfl, rfl⟩

/-- What Fix and Remove ask first. -/
def faultOf (zs : List Int) (d : List Nat) (v value : Int) : Int :=
  if 0 ≤ v ∧ v < zs.length ∧ 0 ≤ value ∧ value < zs.getD v.toNat 0 then (if d.getD 0 0 = 0 then 3 else 0) else 1

set_option maxHeartbeats 1600000 in
theorem fault_any (X : Nat) (szv : Value) (d : List Nat) (tv : Value) (l : Rest) (zs : List Int) (v value : Int) (w : World) (hX : Blk w X (workCells szv d tv l) 82)
    (hsz : Row w szv 3 (zs.map (Value.int .i64))) (hl : zs.length ≤ 8) (h8 : d.length = 8) (hbz : l.busy = false) :
    Calls Try.prog 39 #[.pointer (some ⟨X, 0, none⟩), .int .i64 v, .int .i64 value] w fun e w' => e = .returned (.int .i64 (faultOf zs d v value)) ∧ w' = w := by
  have hcb : w.cell? ⟨X, 12, none⟩ = some (.bool false) := (hX.cell 12).trans ((workCells_busy szv d tv l h8).trans (by rw [hbz]))
  clear hbz
  by_cases hv : 0 ≤ v ∧ v < zs.length
  · obtain ⟨h0, h1⟩ := hv
    obtain ⟨k, rfl⟩ := Int.eq_ofNat_of_zero_le h0
    have hk : k < zs.length := by omega
    have hb1 : (decide ((0 : Int) ≤ (k : Int)) && decide ((k : Int) < (zs.length : Int))) = true := by simp; omega
    have hc0 : w.cell? ⟨X, 0, none⟩ = some szv := (hX.cell 0).trans (workCells_sz ..)
    obtain ⟨g, cap, he, _, hc1, _⟩ := hsz.cell k (by simpa using hk)
    simp only [List.getElem_map, List.length_map] at hc1 he
    rw [he] at hc0
    obtain ⟨z, hz⟩ : ∃ z, zs[k] = z := ⟨_, rfl⟩
    rw [hz] at hc1
    have hz' : zs.getD k 0 = z := by simp [hk, hz]
    by_cases hval : 0 ≤ value ∧ value < z
    · obtain ⟨hv0, hv1⟩ := hval
      cases hdd : (d.getD 0 0 == 0) with
      | true =>
        have hfin : faultOf zs d k value = 3 := by
          unfold faultOf
          rw [if_pos ⟨h0, h1, hv0, by rw [Int.toNat_natCast, hz']; exact hv1⟩, if_pos (by simpa using hdd)]
        rw [hfin]
        have Hdd := hd hdd
        have Hz := hd hz
        clear hdd hz hz' hfin he
        go_enter Try.func39, Try.ntmps39
        go_wp2_with (first
          | (go_at_call 47; refine (has_any X szv d tv l zs k _ hX hsz hl).mono ?_; rw [hb1]; rintro e w' ⟨rfl, rfl⟩)
          | (go_at_call 37; refine (dead_any X szv d tv l _ hX h8).mono ?_; rw [Hdd.out]; rintro e w' ⟨rfl, rfl⟩))
        go_ret
        exact ⟨rfl, rfl⟩
      | false =>
        have hfin : faultOf zs d k value = 0 := by
          unfold faultOf
          rw [if_pos ⟨h0, h1, hv0, by rw [Int.toNat_natCast, hz']; exact hv1⟩, if_neg (by simpa using hdd)]
        rw [hfin]
        have Hdd := hd hdd
        have Hz := hd hz
        clear hdd hz hz' hfin he
        go_enter Try.func39, Try.ntmps39
        go_wp2_with (first
          | (go_at_call 47; refine (has_any X szv d tv l zs k _ hX hsz hl).mono ?_; rw [hb1]; rintro e w' ⟨rfl, rfl⟩)
          | (go_at_call 37; refine (dead_any X szv d tv l _ hX h8).mono ?_; rw [Hdd.out]; rintro e w' ⟨rfl, rfl⟩))
        go_ret
        exact ⟨rfl, rfl⟩
    · have hfin : faultOf zs d k value = 1 := by
        unfold faultOf
        rw [if_neg (fun h => hval ⟨h.2.2.1, by have h4 := h.2.2.2; rw [Int.toNat_natCast, hz'] at h4; exact h4⟩)]
      rw [hfin]
      have Hz := hd hz
      clear hz hz' hfin he
      by_cases hv0 : 0 ≤ value
      · have hv1 : ¬ value < z := fun h => hval ⟨hv0, h⟩
        go_enter Try.func39, Try.ntmps39
        go_wp2_with (first
          | (go_at_call 47; refine (has_any X szv d tv l zs k _ hX hsz hl).mono ?_; rw [hb1]; rintro e w' ⟨rfl, rfl⟩))
        go_ret
        exact ⟨rfl, rfl⟩
      · go_enter Try.func39, Try.ntmps39
        go_wp2_with (first
          | (go_at_call 47; refine (has_any X szv d tv l zs k _ hX hsz hl).mono ?_; rw [hb1]; rintro e w' ⟨rfl, rfl⟩))
        go_ret
        exact ⟨rfl, rfl⟩
  · have hb1 : (decide ((0 : Int) ≤ v) && decide (v < (zs.length : Int))) = false := by simp; omega
    have hfin : faultOf zs d v value = 1 := by
      unfold faultOf
      rw [if_neg (fun h => hv ⟨h.1, h.2.1⟩)]
    rw [hfin]
    clear hfin
    go_enter Try.func39, Try.ntmps39
    go_wp2_with (first
      | (go_at_call 47; refine (has_any X szv d tv l zs v _ hX hsz hl).mono ?_; rw [hb1]; rintro e w' ⟨rfl, rfl⟩))
    go_ret
    exact ⟨rfl, rfl⟩
end Go.Proofs.Ytkjfpdfkcfgfkaa
