/- Contracts of the program's tables of Way 1: how one is made. -/
import Derived.Test.YtkjfpdfkcfgfkaaValid2
import Derived.Laws.BitsAllLaws
namespace Go.Proofs.Ytkjfpdfkcfgfkaa
open Go.RowKit

set_option maxHeartbeats 400000 in
set_option maxRecDepth 1000000 in
theorem newScope_any (b o cap : Nat) (zs : List Int) (w : World) (hz : zs.length * 8 ≤ 140737488355328) (h0 : 0 < zs.length) (h : IntsAt w (some ⟨b, o, none⟩) zs) :
    Calls Try.prog 75 #[.slice (some ⟨b, o, none⟩) zs.length cap] w fun e w' =>
      ∃ g cap', e = .returned (.agg #[.slice (some ⟨g, 0, none⟩) zs.length cap']) ∧ Nw w w' ∧ Row w' (.slice (some ⟨g, 0, none⟩) zs.length cap') 3 (zs.map (Value.int .i64)) ∧ w.heap.size ≤ g := by
  have hf0 : Nw w (w.alloc (.cells #[.slice none 0 0] 129)) := (Fr.refl _ w).alloc _
  have hb0 : Blk (w.alloc (.cells #[.slice none 0 0] 129)) w.heap.size #[.slice none 0 0] 129 := Blk.new _ _ _
  go_enter Try.func75, Try.ntmps75
  go_wp2_with (go_at_call 49; refine (clone_any b o cap zs _ hz h0 (h.nw hf0)).mono ?_; rintro e w1 ⟨g, cap', rfl, hf1, hr1, hg1⟩; have hb1 := hd (hb0.nw hf1); have hc1 : w1.cell? ⟨w.heap.size, 0, none⟩ = some (.slice none 0 0) := hb1.out.cell 0; have hfz := hb1.out.free 0)
  have hb2 := hb1.out.set 0 (.slice (some ⟨g, 0, none⟩) zs.length cap')
  have hc2 : (w1.setCell ⟨w.heap.size, 0, none⟩ (.slice (some ⟨g, 0, none⟩) zs.length cap')).cell? ⟨w.heap.size, 0, none⟩ = some (.slice (some ⟨g, 0, none⟩) zs.length cap') := by rw [hb2.cell 0]; simp
  refine bodyPost_ret (v := .agg #[.slice (some ⟨g, 0, none⟩) zs.length cap']) (by simp [results, Try.results75, go_sem, hc2]) rfl ⟨g, cap', rfl, (hf0.trans hf1 (fun i h => h.elim)).setCell _ _ (.inr (Nat.le_refl _)), ?_, ?_⟩
  · exact hr1.fr ((Fr.refl (fun k => k = w.heap.size) w1).setCell ⟨w.heap.size, 0, none⟩ _ (.inl rfl)) (fun k hk e => by cases hk; simp at hg1; have e' : g = w.heap.size := e; omega)
  · simp at hg1; omega

/-- The cells of a table of Way 1: its variables, whether it is Not, for each entry and value the rows that bear it, the live rows. -/
def rsCells (vv : Value) (nt : Bool) (br : List Nat) (live : Nat) : Array Value := (vv :: .bool nt :: (br.map (fun (x : Nat) => Value.int .u64 (x : Int)) ++ [.int .u64 (live : Int)])).toArray
theorem rsCells_br (vv : Value) (nt : Bool) (br : List Nat) (live j : Nat) (hj : j < br.length) : (rsCells vv nt br live)[2 + j]? = some (.int .u64 (br.getD j 0 : Nat)) := by
  rw [Nat.add_comm]
  simp [rsCells, List.getElem?_append_left, hj]
theorem rsCells_set (vv : Value) (nt : Bool) (br : List Nat) (live j x : Nat) (hj : j < br.length) : (rsCells vv nt br live).setIfInBounds (2 + j) (.int .u64 (x : Int)) = rsCells vv nt (br.set j x) live := by
  rw [Nat.add_comm]
  simp [rsCells, hj, List.map_set]
theorem rsCells_live (vv : Value) (nt : Bool) (br : List Nat) (live : Nat) (h : br.length = 24) : (rsCells vv nt br live)[26]? = some (.int .u64 (live : Int)) := by
  simp [rsCells, h]
theorem rsCells_setLive (vv : Value) (nt : Bool) (br : List Nat) (live x : Nat) (h : br.length = 24) : (rsCells vv nt br live).setIfInBounds 26 (.int .u64 (x : Int)) = rsCells vv nt br x := by
  simp [rsCells, h]

/-- Does an entry stand for a value? -/
def bearsB (a : Int) (v : Nat) : Bool := a == -1 || a == (v : Int)
/-- The bearers when the first m cells have been gone through with a row's bit. -/
def addTo (br : List Nat) (row : List Int) (bit m : Nat) : List Nat := br.mapIdx (fun j x => if decide (j < m) && bearsB (row.getD (j / 6) 0) (j % 6) then x ||| bit else x)
theorem addTo_length (br : List Nat) (row : List Int) (bit m : Nat) : (addTo br row bit m).length = br.length := by simp [addTo]
theorem addTo_zero (br : List Nat) (row : List Int) (bit : Nat) : addTo br row bit 0 = br := by
  apply List.ext_getElem
  · simp [addTo]
  · intro i h1 h2; simp [addTo]
theorem addTo_get (br : List Nat) (row : List Int) (bit m j : Nat) (hj : j < br.length) : (addTo br row bit m).getD j 0 = if decide (j < m) && bearsB (row.getD (j / 6) 0) (j % 6) then br.getD j 0 ||| bit else br.getD j 0 := by
  simp [addTo, hj]
theorem addTo_yes (br : List Nat) (row : List Int) (bit i v : Nat) (hv : v < 6) (hj : 6 * i + v < br.length) (hb : bearsB (row.getD i 0) v = true) :
    (addTo br row bit (6 * i + v)).set (6 * i + v) (br.getD (6 * i + v) 0 ||| bit) = addTo br row bit (6 * i + v + 1) := by
  apply List.ext_getElem
  · simp [addTo]
  · intro k h1 h2
    simp only [addTo, List.length_mapIdx, List.length_set] at h1 h2
    rw [List.getElem_set]
    simp only [addTo, List.getElem_mapIdx]
    by_cases hk : 6 * i + v = k
    · subst hk
      have e1 : (6 * i + v) / 6 = i := by omega
      have e2 : (6 * i + v) % 6 = v := by omega
      simp only [e1, e2, hb]
      simp [hj]
    · rw [if_neg hk]
      have : (k < 6 * i + v + 1) ↔ (k < 6 * i + v) := by omega
      simp [this]
theorem addTo_no (br : List Nat) (row : List Int) (bit i v : Nat) (hv : v < 6) (hb : bearsB (row.getD i 0) v = false) : addTo br row bit (6 * i + v) = addTo br row bit (6 * i + v + 1) := by
  apply List.ext_getElem
  · simp [addTo]
  · intro k h1 h2
    simp only [addTo, List.getElem_mapIdx]
    by_cases hk : 6 * i + v = k
    · subst hk
      have e1 : (6 * i + v) / 6 = i := by omega
      have e2 : (6 * i + v) % 6 = v := by omega
      simp only [e1, e2, hb]
      simp
    · have : (k < 6 * i + v + 1) ↔ (k < 6 * i + v) := by omega
      simp [this]

theorem bearsB_eq (a : Int) (v : Nat) : (a == -1 || a == (v : Int)) = bearsB a v := rfl

set_option maxHeartbeats 1600000 in
set_option maxRecDepth 1000000 in
theorem add_any (G : Nat) (vv : Value) (nt : Bool) (br : List Nat) (live : Nat) (ro : Option Addr) (rcap : Nat) (row : List Int) (bit : Nat) (w : World) (hG : Blk w G (rsCells vv nt br live) 142) (h24 : br.length = 24)
    (hbr : ∀ j, br.getD j 0 < 18446744073709551616) (hbit : bit < 18446744073709551616) (hrl : row.length ≤ 4) (hr : IntsAt w ro row) (hrn : ∀ b o, ro = some ⟨b, o, none⟩ → 0 < row.length → b ≠ G) :
    Calls Try.prog 76 #[.pointer (some ⟨G, 0, none⟩), .slice ro row.length rcap, .int .u64 bit] w fun e w' =>
      e = .returned (.tuple #[]) ∧ Fr (fun k => k = G) w w' ∧ Blk w' G (rsCells vv nt (addTo br row bit (6 * row.length)) live) 142 := by
  go_enter Try.func76, Try.ntmps76
  go_wp2
  go_loopw [11] (fun i wr => ∃ k : Nat, k ≤ row.length ∧ i = .int .i64 k ∧ Fr (fun k => k = G) w wr ∧ Hid (Blk wr G (rsCells vv nt (addTo br row bit (6 * k)) live) 142)) (fun i _ => row.length - (intOf i).toNat)
  case atStart => exact ⟨0, Nat.zero_le _, rfl, Fr.refl _ _, by rw [Nat.mul_zero, addTo_zero]; exact hG⟩
  case round =>
    obtain ⟨k, hk, rfl, hf, hb⟩ := hrel
    by_cases hlt : k < row.length
    · obtain ⟨b, o, rfl, hbl, hc⟩ := hr k hlt
      have hck : wr.cell? ⟨b, o + k, none⟩ = some (.int .i64 (row.getD k 0)) := (hf.cell hbl (hrn b o rfl (by omega))).trans hc
      clear hc
      obtain ⟨y, hy⟩ : ∃ y, row.getD k 0 = y := ⟨_, rfl⟩
      rw [hy] at hck
      have Hy := hd hy
      clear hy
      go_wp2
      go_loopw [16] (fun i wi => ∃ m : Nat, m ≤ 6 ∧ i = .int .i64 m ∧ Fr (fun k => k = G) w wi ∧ Hid (Blk wi G (rsCells vv nt (addTo br row bit (6 * k + m)) live) 142)) (fun i _ => 6 - (intOf i).toNat)
      case atStart => exact ⟨0, Nat.zero_le _, rfl, hf, hb⟩
      case round =>
        obtain ⟨m, hm, rfl, hfi, hbi⟩ := hrel
        by_cases hm6 : m < 6
        · have hj : 6 * k + m < (addTo br row bit (6 * k + m)).length := by rw [addTo_length]; omega
          have hj2 : 6 * k + m < br.length := by omega
          cases hbb : bearsB y m with
          | true =>
            have Hbb := hd hbb
            have hcb : wr.cell? ⟨G, 2 + (6 * k + m), none⟩ = some (.int .u64 (br.getD (6 * k + m) 0 : Nat)) := by
              rw [hbi.out.cell, rsCells_br _ _ _ _ _ hj, addTo_get _ _ _ _ _ hj2]
              simp
            have hfz := hbi.out.free (2 + (6 * k + m))
            rw [show 2 + (6 * k + m) = 2 + k * 6 + m from by omega] at hcb hfz
            have hx := hbr (6 * k + m)
            obtain ⟨x, hxe⟩ : ∃ x, br.getD (6 * k + m) 0 = x := ⟨_, rfl⟩
            rw [hxe] at hcb hx
            have Hxe := hd hxe
            have hi0 : (0 : Int) ≤ (k : Int) := by omega
            have hi4 : (k : Int) < 4 := by omega
            have hj0 : (0 : Int) ≤ (m : Int) := by omega
            have hj6 : (m : Int) < 6 := by omega
            clear hbb hxe hj hj2
            go_wp2_with (go_at_call 85; refine (bears_any y m _).mono ?_; rw [bearsB_eq, Hbb.out]; rintro e w' ⟨rfl, rfl⟩)
            go_region
            have h5 := hbi.out.set (2 + (6 * k + m)) (.int .u64 ((x ||| bit : Nat) : Int))
            rw [rsCells_set _ _ _ _ _ _ (by rw [addTo_length]; omega), ← Hxe.out, addTo_yes br row bit k m hm6 (by omega) (by rw [Hy.out]; exact Hbb.out), Hxe.out] at h5
            have H5 := hd h5
            clear h5
            go_wp2
            refine ⟨⟨m + 1, by omega, by go_num, (hfi.setCell _ _ (.inl rfl)).drew, ?_⟩, by simp [intOf]; omega⟩
            show Blk _ _ _ _
            rw [u64_or_nat x bit hx hbit, show 2 + k * 6 + m = 2 + (6 * k + m) from by omega]
            exact H5.out.drew
          | false =>
            have Hbb := hd hbb
            clear hbb
            go_wp2_with (go_at_call 85; refine (bears_any y m _).mono ?_; rw [bearsB_eq, Hbb.out]; rintro e w' ⟨rfl, rfl⟩)
            exact ⟨⟨m + 1, by omega, by go_num, hfi, by show Blk _ _ _ _; rw [← Nat.add_assoc, ← addTo_no br row bit k m hm6 (by rw [Hy.out]; exact Hbb.out)]; exact hbi.out⟩, by simp [intOf]; omega⟩
        · obtain rfl : m = 6 := by omega
          go_wp2
          exact ⟨⟨k + 1, by omega, by go_num, hfi, by show Blk _ _ _ _; rw [show 6 * (k + 1) = 6 * k + 6 from by omega]; exact hbi.out⟩, by simp [intOf]; omega⟩
    · obtain rfl : k = row.length := by omega
      go_wp2
      go_end0
      exact ⟨rfl, hf, hb.out⟩
end Go.Proofs.Ytkjfpdfkcfgfkaa
