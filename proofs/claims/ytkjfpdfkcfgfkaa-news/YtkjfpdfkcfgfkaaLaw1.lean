/- Contracts of the statement's own helpers: sameInts, lent. -/
import Derived.Test.YtkjfpdfkcfgfkaaProg
import Derived.Test.YtkjfpdfkcfgfkaaBase
import Derived.Deep.QuietTactic
import Derived.BigQuiet
import Derived.Laws.CopyOwn
namespace Go.Proofs.Ytkjfpdfkcfgfkaa
open Go.RowKit

theorem Try.infoInt : (Try.prog.info? 3).map (fun i => (i.zero, i.size, i.bytes)) = some (some (.int .i64 0), 1, 8) := by kernel_rfl
theorem Try.infoIntSize : (Try.prog.info? 3).map (·.size) = some 1 := by kernel_rfl

set_option maxHeartbeats 400000 in
set_option maxRecDepth 1000000 in
theorem sameInts_eq (ao bo : Option Addr) (ca cb : Nat) (xs : List Int) (w : World) (hx : xs.length * 8 ≤ 140737488355328)
    (ha : IntsAt w ao xs) (hb : IntsAt w bo xs) :
    Calls Try.prog 54 #[.slice ao xs.length ca, .slice bo xs.length cb] w fun e w' => e = .returned (.bool true) ∧ ∃ n, w' = w.drewN n := by
  go_enter Try.func54, Try.ntmps54
  go_wp2
  go_loopw [5] (fun i wr => ∃ k : Nat, k ≤ xs.length ∧ i = .int .i64 k ∧ ∃ n, wr = w.drewN n) (fun i _ => xs.length - (intOf i).toNat)
  case atStart => exact ⟨0, Nat.zero_le _, rfl, 0, rfl⟩
  case round =>
    obtain ⟨k, hk, rfl, n, rfl⟩ := hrel
    by_cases hlt : k < xs.length
    · obtain ⟨b1, o1, rfl, _, h1⟩ := ha k hlt
      obtain ⟨b2, o2, rfl, _, h2⟩ := hb k hlt
      clear ha hb
      go_wp2
      go_quiet (fail)
      go_wp2
      go_roundw
      case rel => exact ⟨k + 1, by omega, by go_num, _, rfl⟩
      case measure => simp [intOf]; omega
    · go_wp2
      go_ret
      exact ⟨rfl, n, rfl⟩

/-- What an owned row of n cells, as large as its slice, is as a block. -/
theorem blk_of_owns {w : World} {base n : Nat} {e : TypeId} {g : Nat} {xs : List Value} (h : w.ownsRow base e 1 (.slice (some ⟨g, 0, none⟩) n n) n xs) : Blk w g xs.toArray e := by
  obtain ⟨hl, h2⟩ := h
  rcases h2 with ⟨h2, _⟩ | ⟨g', cap, cur, hv, _, hh, hn, _, hs, ht⟩
  · cases h2
  · cases hv
    have : cur.toList = xs := by rw [← ht, List.take_of_length_le (by simp; omega)]
    have h3 : cur = xs.toArray := by rw [← this]
    rw [h3] at hh
    exact hh

theorem lent_made {w w1 : World} {n : Nat} {z : Value} (hown : w1.ownsRow w.heap.size 3 1 (.slice (some ⟨w.heap.size, 0, none⟩) n n) n (madeCells z.cells (n * 1)).toList) (hgrow : w.grownBy w1 none) :
    ∃ L : List Value, L.length = n ∧ Blk w1 w.heap.size L.toArray 3 ∧ Below w.heap.size w w1 :=
  ⟨_, by have := hown.1; omega, blk_of_owns hown, ((Fr.refl (fun _ => False) w).grown hgrow (fun k e => by cases e)).below⟩

theorem lent_src {w w1 : World} {ao : Option Addr} {zs : List Int} (h : IntsAt w ao zs) (hb : Below w.heap.size w w1) :
    0 < (zs.map (Value.int .i64)).length → ∃ ad, ao = some ad ∧ ∀ (j : Nat) (v : Value), (zs.map (Value.int .i64))[j]? = some v → w1.cell? (ad.add j) = some v := by
  intro hp
  simp at hp
  obtain ⟨b, o, rfl, hlt, _⟩ := h 0 hp
  refine ⟨⟨b, o, none⟩, rfl, fun j v hj => ?_⟩
  have hj' : j < zs.length := by
    have := (List.getElem?_eq_some_iff.1 hj).1
    simpa using this
  obtain ⟨b', o', he, _, hc⟩ := h j hj'
  cases he
  rw [show (⟨b, o, none⟩ : Addr).add j = ⟨b, o + j, none⟩ from by simp [Addr.add], hb.cell (p := ⟨b, o + j, none⟩) hlt, hc]
  rw [List.getElem?_map, List.getElem?_eq_getElem hj'] at hj
  simp at hj
  simp [← hj, hj']

theorem lent_fill (zs : List Int) (L : List Value) (hL : L.length = zs.length + 1) :
    (splice L 0 (zs.map (Value.int .i64))).toArray.setIfInBounds zs.length (.int .i64 78) = ((zs ++ [78]).map (Value.int .i64)).toArray := by
  obtain ⟨x, hx⟩ : ∃ x, L.drop zs.length = [x] := by
    match h : L.drop zs.length with
    | [] => have := congrArg List.length h; simp at this; omega
    | [x] => exact ⟨x, rfl⟩
    | _ :: _ :: _ => have := congrArg List.length h; simp at this; omega
  have : splice L 0 (zs.map (Value.int .i64)) = zs.map (Value.int .i64) ++ [x] := by simp [splice, hx]
  rw [this]
  simp

set_option maxHeartbeats 400000 in
set_option maxRecDepth 1000000 in
theorem lent_any (ao : Option Addr) (cap : Nat) (zs : List Int) (w : World) (hz : zs.length * 8 ≤ 140737488355328) (h : IntsAt w ao zs) :
    Calls Try.prog 32 #[.slice ao zs.length cap] w fun e w' =>
      e = .returned (.slice (some ⟨w.heap.size, 0, none⟩) (zs.length + 1) (zs.length + 1)) ∧ Nw w w' ∧ Blk w' w.heap.size ((zs ++ [78]).map (Value.int .i64)).toArray 3 := by
  obtain ⟨i0, hi, hz0, hz1, hz2⟩ := info_parts Try.infoInt
  have HI := Try.infoIntSize
  go_enter Try.func32, Try.ntmps32
  go_wp2_with (first
    | (at_make; refine wpList_make_full _ rfl _ _ 22 rfl w.heap.size 3 i0 (.int .i64 0) 1 Try.underlying22 hi hz0 hz1 .i64 .i64 _ _ (zs.length + 1) rfl rfl (by go_num) (by go_num) (by rw [hz2]; omega) (by unfold maxLen; omega) (Nat.le_refl _) ?_; intro w1 hown hgrow; obtain ⟨L, hL, hblk, hbel⟩ := lent_made hown hgrow; have hsrc := hd (lent_src h hbel); clear hown hgrow hi hz0 hz1 hz2)
    | (refine wpList_copy_splice (by rfl) (.tmp 8) (.tmp 9) 22 22 (by rfl) 3 Try.underlying22 HI (some ⟨w.heap.size, 0, none⟩) ao (zs.length + 1) (zs.length + 1) zs.length cap (by rfl) (by rfl) w.heap.size 0 L 3 hblk (zs.map (Value.int .i64)) (by simp) (fun hp => ⟨rfl, hsrc.out hp⟩) (by simp; omega) (ints_oneCell _ _) w.heap.size w hbel (Nat.le_refl _) ?_; intro w2 hg2 hb2; have hg3 := hd (show Blk w2 w.heap.size _ _ from hg2.out); have hf3 := hg3.out.free zs.length; have hc3 : w2.cell? ⟨w.heap.size, zs.length, none⟩ = some _ := (hg3.out.cell zs.length).trans (Array.getElem?_eq_getElem (by simp [length_splice, hL]))))
  go_ret
  refine ⟨rfl, (Fr.of_below hb2).setCell _ _ (.inr (Nat.le_refl _)), ?_⟩
  have h4 := hg3.out.set zs.length (.int .i64 78)
  rw [lent_fill zs L hL] at h4
  exact h4
end Go.Proofs.Ytkjfpdfkcfgfkaa
