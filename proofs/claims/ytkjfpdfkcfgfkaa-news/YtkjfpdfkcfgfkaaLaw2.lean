/- Contract of the statement's helper 'returned'. -/
import Derived.Test.YtkjfpdfkcfgfkaaLaw1
namespace Go.Proofs.Ytkjfpdfkcfgfkaa
open Go.RowKit

theorem Try.infoInts : (Try.prog.info? 22).map (fun i => (i.zero, i.size, i.bytes)) = some (some (.slice none 0 0), 1, 24) := by kernel_rfl

/-- The cells of 'own' when the first k have been turned. -/
def turnedTo (zs : List Int) (k : Nat) : Array Value := ((List.replicate k (-7) ++ (zs ++ [78]).drop k).map (Value.int .i64)).toArray
theorem turnedTo_zero (zs : List Int) : turnedTo zs 0 = ((zs ++ [78]).map (Value.int .i64)).toArray := by simp [turnedTo]
theorem turnedTo_size (zs : List Int) (k : Nat) (hk : k ≤ zs.length + 1) : (turnedTo zs k).size = zs.length + 1 := by simp [turnedTo]; omega
theorem turnedTo_succ (zs : List Int) (k : Nat) (hk : k < zs.length + 1) : (turnedTo zs k).setIfInBounds k (.int .i64 (-7)) = turnedTo zs (k + 1) := by
  apply Array.ext
  · simp [turnedTo_size zs k (by omega), turnedTo_size zs (k + 1) (by omega)]
  · intro i h1 h2
    simp only [turnedTo, List.setIfInBounds_toArray, List.getElem_toArray, List.getElem_set, List.getElem_map]
    by_cases h : k = i
    · subst h; simp
    · rw [if_neg h]
      congr 1
      simp only [List.getElem_append, List.length_replicate, List.getElem_replicate, List.getElem_drop]
      by_cases h3 : i < k
      · simp [h3, show i < k + 1 by omega]
      · simp only [h3, show ¬ i < k + 1 by omega, dite_false]
        have e1 : k + (i - k) = i := by omega
        have e2 : k + 1 + (i - (k + 1)) = i := by omega
        simp only [e1, e2]
theorem turnedTo_end (zs : List Int) : turnedTo zs (zs.length + 1) = (List.replicate (zs.length + 1) (Value.int .i64 (-7))).toArray := by
  simp [turnedTo]

set_option maxHeartbeats 800000 in
set_option maxRecDepth 1000000 in
theorem returned_any (B g : Nat) (ao : Option Addr) (cap : Nat) (zs : List Int) (s0 s1 tv s3 : Value) (xs : List Value) (w : World) (hz : zs.length * 8 ≤ 140737488355328)
    (hB : Blk w B #[s0, s1, tv, s3] 28) (htv : Row w tv 22 xs) (hxs : (xs.length + 1) * 24 ≤ 140737488355328)
    (hg : Blk w g ((zs ++ [78]).map (Value.int .i64)).toArray 3) (hl : IntsAt w ao zs) :
    Calls Try.prog 34 #[.pointer (some ⟨B, 0, none⟩), .slice (some ⟨g, 0, none⟩) (zs.length + 1) (zs.length + 1), .slice ao zs.length cap] w fun e w' =>
      e = .returned (.bool true) ∧ ∃ tv', Fr (fun k => k = B ∨ k = g ∨ tv.ownBlock = some k) w w' ∧ Blk w' B #[s0, s1, tv', s3] 28 ∧
        Row w' tv' 22 (xs ++ [.slice (some ⟨g, 0, none⟩) (zs.length + 1) (zs.length + 1)]) ∧ Blk w' g (turnedTo zs (zs.length + 1)) 3 ∧
        (∀ k, tv'.ownBlock = some k → tv.ownBlock = some k ∨ w.heap.size ≤ k) := by
  obtain ⟨i0, hi, hz0, hz1, hz2⟩ := info_parts Try.infoInts
  have hg78 : w.cell? ⟨g, zs.length, none⟩ = some (.int .i64 78) := by rw [hg.cell]; simp
  have hown : IntsAt w (some ⟨g, 0, none⟩) zs := IntsAt.of_blk hg 0 zs (fun i hi => by
    simp [List.getElem?_append_left, hi])
  go_enter Try.func34, Try.ntmps34
  go_wp2_with (go_at_call 54; refine (sameInts_eq _ _ _ _ zs _ hz hown hl).mono ?_; rintro e w' ⟨rfl, n, rfl⟩)
  have hgn : Blk (w.drewN n) g (turnedTo zs 0) 3 := by rw [turnedTo_zero]; exact hg
  have hFr0 : Fr (fun k => k = g) w (w.drewN n) := (Fr.refl _ w).drewN n
  clear hg78 hown hl
  go_loopw [10] (fun i wr => ∃ k : Nat, k ≤ zs.length + 1 ∧ i = .int .i64 k ∧ Hid (Blk wr g (turnedTo zs k) 3) ∧ Fr (fun k => k = g) w wr) (fun i _ => zs.length + 1 - (intOf i).toNat)
  case atStart => exact ⟨0, Nat.zero_le _, rfl, hgn, hFr0⟩
  case round =>
    obtain ⟨k, hk, rfl, hb, hf⟩ := hrel
    clear hgn hFr0
    by_cases hlt : k < zs.length + 1
    · have hfz := hb.out.free k
      have hck : wr.cell? ⟨g, k, none⟩ = some _ := (hb.out.cell k).trans (Array.getElem?_eq_getElem (by rw [turnedTo_size zs k hk]; exact hlt))
      go_wp2
      go_roundw
      case rel => exact ⟨k + 1, by omega, by go_num, by rw [← turnedTo_succ zs k hlt]; exact hb.out.set k _, hf.setCell _ _ (.inl rfl)⟩
      case measure => simp [intOf]; omega
    · obtain rfl : k = zs.length + 1 := by omega
      have hgB : g ≠ B := fun e => by subst e; have := (hg.inj hB).2; revert this; decide
      have hBr : Blk wr B #[s0, s1, tv, s3] 28 := hB.fr hf (fun e => hgB e.symm)
      have htr : Row wr tv 22 xs := htv.fr hf (fun k hk e => by subst e; exact htv.ne hg (by decide) hk)
      have hc2 : wr.cell? ⟨B, 2, none⟩ = some tv := hBr.cell 2
      go_wp2_with (at_builtin; refine wpList_append_own_at _ rfl _ _ 25 rfl 0 22 i0 (.slice none 0 0) 1 24 Try.underlying25 hi hz0 hz1 hz2 rfl (by decide) _ _ _ rfl (htr.alloc _) ⟨wr.heap.size, 0, none⟩ 1 1 [.slice (some ⟨g, 0, none⟩) (zs.length + 1) (zs.length + 1)] rfl rfl (cell_one_new _ _ _) (by simp [Value.oneCell']) (by unfold maxLen; omega) (by omega) (Nat.zero_le _) ?_; intro v' w1 hown' hgrow _ hat; obtain ⟨g', cap', rfl, hr1, hf1, ha1, hlt1⟩ := app1 hown' hgrow hat; have hB1 : Blk w1 B #[s0, s1, tv, s3] 28 := hBr.fr hf1 (fun e => htr.ne hBr (by decide) e); have hfzB := hB1.free 2; have hcB1 : w1.cell? ⟨B, 2, none⟩ = some tv := hB1.cell 2; clear hown' hgrow hat)
      have hb1 : Blk w1 g (turnedTo zs (zs.length + 1)) 3 := hb.out.fr hf1 (fun e => htr.ne hb.out (by decide) e)
      have hg'B : g' ≠ B := fun e => by
        subst e
        exact hr1.ne hB1 (by decide) rfl
      go_ret
      refine ⟨rfl, .slice (some ⟨g', 0, none⟩) (xs.length + 1) cap', ?_, ?_, ?_, hb1.other _ _ hgB, ?_⟩
      · exact ((hf.mono (fun i e => .inl (.inr (.inl e)))).trans hf1 (fun i e => .inl (.inr (.inr e)))).setCell _ _ (.inl (.inl rfl))
      · have := hB1.set 2 (.slice (some ⟨g', 0, none⟩) (xs.length + 1) cap')
        simpa using this
      · exact hr1.fr ((Fr.refl (fun k => k = B) w1).setCell ⟨B, 2, none⟩ _ (.inl rfl)) (fun k hk e => hg'B (by cases hk; exact e))
      · intro k hk
        cases hk
        rcases ha1 with h | h
        · exact .inl h
        · exact .inr (by have := hf.size; simp only [h]; omega)
end Go.Proofs.Ytkjfpdfkcfgfkaa
