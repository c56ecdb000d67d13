/- Contract of the statement's helper 'kept': all lists that came out, and all that were handed in, hold what the caller wrote. -/
import Derived.Test.YtkjfpdfkcfgfkaaLaw2
namespace Go.Proofs.Ytkjfpdfkcfgfkaa
open Go.RowKit

/-- A slice all of whose numbers are c. -/
def AllAre (w : World) (v : Value) (c : Int) : Prop := ∃ ao n cap, v = .slice ao n cap ∧ n * 8 ≤ 140737488355328 ∧ IntsAt w ao (List.replicate n c)
/-- A slice of n nil slices. -/
def AllNil (w : World) (v : Value) : Prop := ∃ ao n cap, v = .slice ao n cap ∧ n * 24 ≤ 140737488355328 ∧ ∀ i, i < n → ∃ b o, ao = some ⟨b, o, none⟩ ∧ b < w.heap.size ∧ w.cell? ⟨b, o + i, none⟩ = some (.slice none 0 0)

/-- What 'kept' looks at. -/
structure Keeps (w : World) (nv tv rv : Value) (nums turned rows : List Value) : Prop where
  rn : Row w nv 22 nums
  rt : Row w tv 22 turned
  rr : Row w rv 25 rows
  ln : nums.length * 24 ≤ 140737488355328
  lt : turned.length * 24 ≤ 140737488355328
  lr : rows.length * 24 ≤ 140737488355328
  an : ∀ i (h : i < nums.length), AllAre w nums[i] (-1 - (i / 4 * 4 : Nat))
  at_ : ∀ i (h : i < turned.length), AllAre w turned[i] (-7)
  ar : ∀ i (h : i < rows.length), AllNil w rows[i]

set_option maxHeartbeats 1600000 in
set_option maxRecDepth 1000000 in
theorem kept_any (B : Nat) (s0 nv tv rv : Value) (nums turned rows : List Value) (w : World)
    (hB : Blk w B #[s0, nv, tv, rv] 28) (hK : Keeps w nv tv rv nums turned rows) :
    Calls Try.prog 11 #[.pointer (some ⟨B, 0, none⟩)] w fun e w' => e = .returned (.bool true) ∧ w' = w := by
  have c1 : w.cell? ⟨B, 1, none⟩ = some nv := hB.cell 1
  have c2 : w.cell? ⟨B, 2, none⟩ = some tv := hB.cell 2
  have c3 : w.cell? ⟨B, 3, none⟩ = some rv := hB.cell 3
  have hln := hK.ln
  have hlt := hK.lt
  have hlr := hK.lr
  obtain ⟨an, cn, rfl, hna⟩ := hK.rn.form
  obtain ⟨at0, ct, rfl, hta⟩ := hK.rt.form
  obtain ⟨ar, cr, rfl, hra⟩ := hK.rr.form
  have HK := hd hK
  have HB := hd hB
  clear hK hB hna hta hra
  go_enter Try.func11, Try.ntmps11
  go_wp2
  go_loop [3] (fun i => ∃ k : Nat, k ≤ nums.length ∧ i = .int .i64 k) (fun i => nums.length - (intOf i).toNat)
  case atStart => exact ⟨0, Nat.zero_le _, rfl⟩
  case round =>
    obtain ⟨k, hk, rfl⟩ := hrel
    by_cases hkl : k < nums.length
    · obtain ⟨g, cap, he, _, hcell, _⟩ := HK.out.rn.cell k hkl
      obtain ⟨ao, m, cap2, he2, hm, hz⟩ := HK.out.an k hkl
      cases he
      rw [he2] at hcell
      clear he2
      go_wp2
      go_loop [4] (fun i => ∃ j : Nat, j ≤ m ∧ i = .int .i64 j) (fun i => m - (intOf i).toNat)
      case atStart => exact ⟨0, Nat.zero_le _, rfl⟩
      case round =>
        obtain ⟨j, hj, rfl⟩ := hrel
        by_cases hjl : j < m
        · obtain ⟨b, o, rfl, _, hc⟩ := hz j (by simpa using hjl)
          clear hz
          rw [show (List.replicate m (-1 - ((k / 4 * 4 : Nat) : Int))).getD j 0 = -1 - ((k / 4 * 4 : Nat) : Int) from by simp [hjl]] at hc
          go_wp2
          exact ⟨⟨j + 1, by omega, by go_num⟩, by simp [intOf]; omega⟩
        · go_wp2
          exact ⟨⟨k + 1, by omega, by go_num⟩, by simp [intOf]; omega⟩
    · go_wp2
      clear c1 hkl hk
      go_loop [5] (fun i => ∃ k : Nat, k ≤ turned.length ∧ i = .int .i64 k) (fun i => turned.length - (intOf i).toNat)
      case atStart => exact ⟨0, Nat.zero_le _, rfl⟩
      case round =>
        obtain ⟨k, hk, rfl⟩ := hrel
        by_cases hkl : k < turned.length
        · obtain ⟨g, cap, he, _, hcell, _⟩ := HK.out.rt.cell k hkl
          obtain ⟨ao, m, cap2, he2, hm, hz⟩ := HK.out.at_ k hkl
          cases he
          rw [he2] at hcell
          clear he2
          go_wp2
          go_loop [6] (fun i => ∃ j : Nat, j ≤ m ∧ i = .int .i64 j) (fun i => m - (intOf i).toNat)
          case atStart => exact ⟨0, Nat.zero_le _, rfl⟩
          case round =>
            obtain ⟨j, hj, rfl⟩ := hrel
            by_cases hjl : j < m
            · obtain ⟨b, o, rfl, _, hc⟩ := hz j (by simpa using hjl)
              clear hz
              rw [show (List.replicate m (-7 : Int)).getD j 0 = -7 from by simp [hjl]] at hc
              go_wp2
              exact ⟨⟨j + 1, by omega, by go_num⟩, by simp [intOf]; omega⟩
            · go_wp2
              exact ⟨⟨k + 1, by omega, by go_num⟩, by simp [intOf]; omega⟩
        · go_wp2
          clear c2 hkl hk
          go_loop [7] (fun i => ∃ k : Nat, k ≤ rows.length ∧ i = .int .i64 k) (fun i => rows.length - (intOf i).toNat)
          case atStart => exact ⟨0, Nat.zero_le _, rfl⟩
          case round =>
            obtain ⟨k, hk, rfl⟩ := hrel
            by_cases hkl : k < rows.length
            · obtain ⟨g, cap, he, _, hcell, _⟩ := HK.out.rr.cell k hkl
              obtain ⟨ao, m, cap2, he2, hm, hz⟩ := HK.out.ar k hkl
              cases he
              rw [he2] at hcell
              clear he2
              go_wp2
              go_loop [8] (fun i => ∃ j : Nat, j ≤ m ∧ i = .int .i64 j) (fun i => m - (intOf i).toNat)
              case atStart => exact ⟨0, Nat.zero_le _, rfl⟩
              case round =>
                obtain ⟨j, hj, rfl⟩ := hrel
                by_cases hjl : j < m
                · obtain ⟨b, o, rfl, _, hc⟩ := hz j hjl
                  clear hz
                  go_wp2
                  exact ⟨⟨j + 1, by omega, by go_num⟩, by simp [intOf]; omega⟩
                · go_wp2
                  exact ⟨⟨k + 1, by omega, by go_num⟩, by simp [intOf]; omega⟩
            · go_wp2
              go_ret
              exact ⟨rfl, rfl⟩
end Go.Proofs.Ytkjfpdfkcfgfkaa
