/- Contract of the program's New. -/
import Derived.Test.YtkjfpdfkcfgfkaaProg1
import Derived.Deep.RegionHeld3
namespace Go.Proofs.Ytkjfpdfkcfgfkaa
open Go.RowKit

def okSize (z : Int) : Bool := decide (1 ≤ z ∧ z ≤ 6)
def okSizes (zs : List Int) : Bool := decide (1 ≤ zs.length ∧ zs.length ≤ 8) && zs.all okSize
/-- What a Work has behind its tables: the trail's functions, the levels' starts, whether it is gone through. -/
structure Rest where
  backs : Value
  starts : Value
  busy : Bool
/-- The rest of a new Work. -/
def rest0 : Rest := ⟨.slice none 0 0, .slice none 0 0, false⟩
/-- The cells of a Work: its sizes, eight domains, its tables, the rest. -/
def workCells (szv : Value) (d : List Nat) (tv : Value) (l : Rest) : Array Value := (szv :: (d.map (fun (x : Nat) => Value.int .u8 (x : Int)) ++ [tv, l.backs, l.starts, .bool l.busy])).toArray
def fullTo (zs : List Int) (k : Nat) : List Nat := (zs.take k).map (fun z => 2 ^ z.toNat - 1) ++ List.replicate (8 - k) 0
theorem fullTo_length (zs : List Int) (k : Nat) (hk : k ≤ zs.length) (h8 : zs.length ≤ 8) : (fullTo zs k).length = 8 := by simp [fullTo]; omega
theorem workCells_size (szv : Value) (d : List Nat) (tv : Value) (l : Rest) : (workCells szv d tv l).size = d.length + 5 := by simp [workCells]
theorem workCells_set (szv : Value) (d : List Nat) (tv : Value) (l : Rest) (i x : Nat) (hi : i < d.length) :
    (workCells szv d tv l).setIfInBounds (1 + i) (.int .u8 (x : Int)) = workCells szv (d.set i x) tv l := by
  rw [Nat.add_comm]
  simp [workCells, hi, List.map_set]
theorem fullTo_succ (zs : List Int) (k : Nat) (hk : k < zs.length) (h8 : zs.length ≤ 8) : (fullTo zs k).set k (2 ^ (zs.getD k 0).toNat - 1) = fullTo zs (k + 1) := by
  have h1 : ∀ m, 8 - k = m + 1 → List.replicate (8 - k) 0 = 0 :: List.replicate m 0 := by
    intro m hm
    rw [hm]; rfl
  obtain ⟨m, hm⟩ : ∃ m, 8 - k = m + 1 := ⟨8 - (k + 1), by omega⟩
  simp only [fullTo]
  rw [h1 m hm, show 8 - (k + 1) = m from by omega, List.set_append_right _ _ (by simp; omega)]
  have h3 : zs.take (k + 1) = zs.take k ++ [zs[k]] := List.take_succ_eq_append_getElem hk
  rw [h3, List.map_append, List.append_assoc]
  congr 1
  simp [Nat.min_eq_left (Nat.le_of_lt hk), hk]

set_option maxHeartbeats 800000 in
set_option maxRecDepth 1000000 in
theorem new_len (ao : Option Addr) (cap n : Nat) (w : World) (hn : n * 8 ≤ 140737488355328) (h : n < 1 ∨ 8 < n) :
    Calls Try.prog 30 #[.slice ao n cap] w fun e w' => e = .returned (.tuple #[.pointer none, .int .i64 1]) ∧ w' = w := by
  rcases h with h | h
  · obtain rfl : n = 0 := by omega
    go_enter Try.func30, Try.ntmps30
    go_wp2
    go_ret2
    exact ⟨rfl, rfl⟩
  · go_enter Try.func30, Try.ntmps30
    go_wp2
    go_ret2
    exact ⟨rfl, rfl⟩

set_option maxHeartbeats 800000 in
set_option maxRecDepth 1000000 in
theorem new_any (b o : Nat) (cap : Nat) (zs : List Int) (w : World) (h1 : 1 ≤ zs.length) (h8 : zs.length ≤ 8) (h : IntsAt w (some ⟨b, o, none⟩) zs) :
    Calls Try.prog 30 #[.slice (some ⟨b, o, none⟩) zs.length cap] w fun e w' =>
      Nw w w' ∧ ((okSizes zs = true ∧ ∃ B szv, e = .returned (.tuple #[.pointer (some ⟨B, 0, none⟩), .int .i64 0]) ∧ Blk w' B (workCells szv (fullTo zs zs.length) (.slice none 0 0) rest0) 82 ∧
          Row w' szv 3 (zs.map (Value.int .i64)) ∧ w.heap.size ≤ B ∧ (∀ k, szv.ownBlock = some k → w.heap.size ≤ k)) ∨
        (okSizes zs = false ∧ e = .returned (.tuple #[.pointer none, .int .i64 1]))) := by
  go_enter Try.func30, Try.ntmps30
  go_wp2_with (go_at_call 49; refine (clone_any _ _ _ zs _ (by omega) (by omega) h).mono ?_; rintro e w1 ⟨g, cap', rfl, hf1, hr1, hg1⟩)
  have hB0 : Blk (w1.alloc (.cells #[.slice (some ⟨g, 0, none⟩) zs.length cap', .int .u8 0, .int .u8 0, .int .u8 0, .int .u8 0, .int .u8 0, .int .u8 0, .int .u8 0, .int .u8 0, .slice none 0 0, .slice none 0 0, .slice none 0 0, .bool false] 82)) w1.heap.size (workCells (.slice (some ⟨g, 0, none⟩) zs.length cap') (fullTo zs 0) (.slice none 0 0) rest0) 82 := Blk.new _ _ _
  have hF0 := hf1.alloc (.cells #[.slice (some ⟨g, 0, none⟩) zs.length cap', .int .u8 0, .int .u8 0, .int .u8 0, .int .u8 0, .int .u8 0, .int .u8 0, .int .u8 0, .int .u8 0, .slice none 0 0, .slice none 0 0, .slice none 0 0, .bool false] 82)
  have hR0 := hr1.alloc (.cells #[.slice (some ⟨g, 0, none⟩) zs.length cap', .int .u8 0, .int .u8 0, .int .u8 0, .int .u8 0, .int .u8 0, .int .u8 0, .int .u8 0, .int .u8 0, .slice none 0 0, .slice none 0 0, .slice none 0 0, .bool false] 82)
  have hle := hf1.size
  have hgl : g < w1.heap.size := hr1.lt rfl
  clear h
  generalize hX : w1.alloc (.cells #[.slice (some ⟨g, 0, none⟩) zs.length cap', .int .u8 0, .int .u8 0, .int .u8 0, .int .u8 0, .int .u8 0, .int .u8 0, .int .u8 0, .int .u8 0, .slice none 0 0, .slice none 0 0, .slice none 0 0, .bool false] 82) = X at *
  clear hX hf1 hr1
  generalize w1.heap.size = B at *
  go_loopw [24] (fun i wr => ∃ k : Nat, k ≤ zs.length ∧ i = .int .i64 k ∧ Hid (Blk wr B (workCells (.slice (some ⟨g, 0, none⟩) zs.length cap') (fullTo zs k) (.slice none 0 0) rest0) 82) ∧ Nw w wr ∧ Row wr (.slice (some ⟨g, 0, none⟩) zs.length cap') 3 (zs.map (Value.int .i64)) ∧ (zs.take k).all okSize = true) (fun i _ => zs.length - (intOf i).toNat)
  case atStart => exact ⟨0, Nat.zero_le _, rfl, hB0, hF0, hR0, by simp⟩
  case round =>
    obtain ⟨k, hk, rfl, hb, hf, hr, hall⟩ := hrel
    have Hall := hd hall
    clear hall hB0 hF0 hR0
    by_cases hlt : k < zs.length
    · obtain ⟨hcell, _⟩ := hr.at_ k (by simpa using hlt)
      simp only [List.getElem_map] at hcell
      by_cases hok : okSize zs[k] = true
      · have hok2 : 1 ≤ zs[k] ∧ zs[k] ≤ 6 := by simpa [okSize] using hok
        obtain ⟨z, hz⟩ : ∃ z : Nat, zs[k] = (z : Int) := ⟨zs[k].toNat, by omega⟩
        rw [hz] at hcell hok2
        obtain ⟨hz1, hz6⟩ := hok2
        have Hz := hd hz
        have Hok := hd hok
        clear hz hok
        have hi0 : (0 : Int) ≤ (k : Int) := by omega
        have hi8 : (k : Int) < 8 := by omega
        have hfz := hb.out.free (1 + k)
        obtain ⟨x, hcd⟩ : ∃ x, wr.cell? ⟨B, 1 + k, none⟩ = some x := ⟨_, (hb.out.cell _).trans (Array.getElem?_eq_getElem (by rw [workCells_size, fullTo_length zs k hk h8]; omega))⟩
        go_wp2
        go_region_held3 (fun w' => True) (trivial) (first | (go_at_call 50; refine (below_any z _ (by omega)).mono ?_; rintro e w' ⟨rfl, rfl⟩))
        go_wp2
        have hne : B ≠ g := by omega
        go_roundw
        case rel =>
          refine ⟨k + 1, by omega, by go_num, ?_, (hf.setCell _ _ (.inr hle)).drew, ?_, ?_⟩
          · have h5 := hb.out.set (1 + k) (.int .u8 ((2 ^ z - 1 : Nat) : Int))
            rw [workCells_set _ _ _ _ _ _ (by rw [fullTo_length zs k hk h8]; omega)] at h5
            have h6 := fullTo_succ zs k hlt h8
            rw [show (zs.getD k 0).toNat = z from by simp [hlt, Hz.out]] at h6
            rw [h6] at h5
            exact h5.drew
          · exact (hr.fr ((Fr.refl (fun j => j = B) wr).setCell ⟨B, 1 + k, none⟩ _ (.inl rfl)) (fun j hj e => by cases hj; exact hne e.symm)).drew
          · rw [List.take_succ_eq_append_getElem hlt, List.all_append, Hall.out]
            simp [Hok.out]
        case measure => simp [intOf]; omega
      · have hok2 : ¬ (1 ≤ zs[k] ∧ zs[k] ≤ 6) := by simpa [okSize] using hok
        have hfin : okSizes zs = false := by
          have : zs.all okSize = false := by
            rw [List.all_eq_false]
            exact ⟨zs[k], List.getElem_mem hlt, hok⟩
          simp [okSizes, this]
        have Hfin := hd hfin
        clear hfin hok
        go_wp2
        all_goals (go_ret2; exact ⟨hf, .inr ⟨Hfin.out, rfl⟩⟩)
    · obtain rfl : k = zs.length := by omega
      go_wp2
      go_ret2
      refine ⟨hf, .inl ⟨?_, B, _, rfl, hb.out, hr, hle, fun j hj => by cases hj; exact hg1⟩⟩
      have := Hall.out
      rw [List.take_length] at this
      simp only [okSizes, this, Bool.and_true, decide_eq_true_eq]
      omega
end Go.Proofs.Ytkjfpdfkcfgfkaa
