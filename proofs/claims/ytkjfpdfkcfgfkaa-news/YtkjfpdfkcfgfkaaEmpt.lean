/- Contract of the program's emptied. -/
import Derived.Test.YtkjfpdfkcfgfkaaDom
namespace Go.Proofs.Ytkjfpdfkcfgfkaa
open Go.RowKit

theorem Try.arrDom : Try.prog.underlying 76 = some (.array 8 74) := by kernel_rfl
theorem slice_doms (n : Nat) (hn : n ≤ 8) (b : Nat) (W : World) : (Instr.sliceAt 76 (.pointer (some ⟨b, 0, none⟩)) none (some (.int .i64 (n : Int))) none).run Try.prog W = .ok (.slice (some ⟨b, 0, none⟩) n 8) W := by
  have h1 : Try.prog.arrayLen 76 = 8 := by kernel_rfl
  have h2 : Try.prog.elem 76 = 74 := by kernel_rfl
  rw [run_sliceAt_array_h W 76 ⟨b, 0, none⟩ (by rw [h1, h2]; exact Try.arrDom) .i64 n (by omega) (by rw [h1]; omega), h1, h2]
  simp [go_sem, slicedAt]

theorem containsSet_at (b o n cap : Nat) (xs : List Nat) (w : World) (hn : xs.length = n) (hl : xs.length ≤ 1000)
    (hc : ∀ i, i < xs.length → w.cell? ⟨b, o + i, none⟩ = some (.int .u8 (xs.getD i 0 : Nat))) :
    Calls Try.prog 77 #[.slice (some ⟨b, o, none⟩) n cap, .int .u8 0] w fun e w' => e = .returned (.bool (xs.contains 0)) ∧ w' = w := by
  subst hn
  exact containsSet_any b o cap xs w hl hc

/-- Has one of the first n domains no value? -/
def emptyB (n : Nat) (dn : List Nat) : Bool := (dn.take n).contains 0

set_option maxHeartbeats 800000 in
set_option maxRecDepth 1000000 in
theorem emptied_any (X : Nat) (szv : Value) (d : List Nat) (tv : Value) (l : Rest) (zs : List Int) (dn : List Nat) (w : World) (hX : Blk w X (workCells szv d tv l) 82)
    (hsz : Row w szv 3 (zs.map (Value.int .i64))) (hl : zs.length ≤ 8) (h8 : dn.length = 8) :
    Calls Try.prog 65 #[.pointer (some ⟨X, 0, none⟩), .agg (domV dn)] w fun e w' => e = .returned (.bool (emptyB zs.length dn)) ∧ Nw w w' := by
  have hf0 : Nw w (w.alloc (.cells (domV dn) 76)) := (Fr.refl _ w).alloc _
  have hb0 : Blk (w.alloc (.cells (domV dn) 76)) w.heap.size (domV dn) 76 := Blk.new _ _ _
  have hXlt := hX.lt
  have h1 : w.cell? ⟨X, 0, none⟩ = some szv := (hX.cell 0).trans (workCells_sz ..)
  have htl : (dn.take zs.length).length = zs.length := by simp; omega
  have hcs : ∀ i, i < (dn.take zs.length).length → (w.alloc (.cells (domV dn) 76)).cell? ⟨w.heap.size, 0 + i, none⟩ = some (.int .u8 ((dn.take zs.length).getD i 0 : Nat)) := fun i hi => by
    rw [Nat.zero_add, hb0.cell, domV_get dn i (by omega)]
    rw [htl] at hi
    simp [List.getElem?_take_of_lt hi]
  obtain ⟨ao, cap, hf, _⟩ := hsz.form
  simp only [List.length_map] at hf
  rw [hf] at h1
  have hsl := slice_doms zs.length hl
  obtain ⟨eb, heb⟩ : ∃ eb, emptyB zs.length dn = eb := ⟨_, rfl⟩
  have heb' : (dn.take zs.length).contains 0 = eb := heb
  rw [heb]
  have Heb := hd heb'
  clear heb heb'
  have Hcs := hd hcs
  have Hb0 := hd hb0
  clear hf hX hsz hcs hb0
  go_enter Try.func65, Try.ntmps65
  go_wp2_with (go_at_call 77; refine (containsSet_at w.heap.size 0 zs.length _ (dn.take zs.length) _ htl (by omega) Hcs.out).mono ?_; rw [Heb.out]; rintro e w' ⟨rfl, rfl⟩)
  go_ret
  exact ⟨rfl, hf0⟩
end Go.Proofs.Ytkjfpdfkcfgfkaa
