/- The answer of the statements' first line: New, Post, Domain, Remove, Domain at fixed numbers, in every world. -/
import Derived.Test.YtkjfpdfkcfgfkaaPost
import Derived.Test.YtkjfpdfkcfgfkaaNews
namespace Go.Proofs.Ytkjfpdfkcfgfkaa
open Go.RowKit

def rows0 : List (List Int) := [[0, 1], [1, 2]]
theorem n_br : brTo rows0 2 = brTo rows0 rows0.length := rfl
theorem n_dom1 : nDom (brTo rows0 rows0.length) (2 ^ rows0.length - 1) [0, 1] [7, 7, 0, 0, 0, 0, 0, 0] = [3, 6, 0, 0, 0, 0, 0, 0] := by decide
theorem n_live1 : nLive (brTo rows0 rows0.length) (2 ^ rows0.length - 1) [0, 1] [7, 7, 0, 0, 0, 0, 0, 0] = 3 := by decide
theorem n_dom2 : nDom (brTo rows0 rows0.length) 3 [0, 1] [3, 2, 0, 0, 0, 0, 0, 0] = [1, 2, 0, 0, 0, 0, 0, 0] := by decide
theorem n_full : fullTo [3, 3] [(3 : Int), 3].length = [7, 7, 0, 0, 0, 0, 0, 0] := by decide
theorem lt64_get (d : List Nat) (h : ∀ x ∈ d, x < 64) (q : Nat) : d.getD q 0 < 64 := by
  by_cases hq : q < d.length
  · have := h _ (List.getElem_mem hq)
    simpa [List.getD, hq] using this
  · simp [List.getD, hq]

set_option maxHeartbeats 3200000 in
set_option maxRecDepth 1000000 in
theorem first_ok : FirstOk := by
  intro w
  go_enter Try.func9, Try.ntmps9
  go_wp2_with fail
  have hb0 : Blk (w.alloc (.cells #[.int .i64 3, .int .i64 3] 3)) w.heap.size #[.int .i64 3, .int .i64 3] 3 := Blk.new _ _ _
  have hf0 : Nw w (w.alloc (.cells #[.int .i64 3, .int .i64 3] 3)) := (Fr.refl _ w).alloc _
  refine (new_any w.heap.size 0 2 [3, 3] _ (by decide) (by decide) (IntsAt.of_blk hb0 0 _ (fun i hi => by
    match i, hi with
    | 0, _ => rfl
    | 1, _ => rfl))).mono ?_
  rintro e w1 ⟨hf1, hcase⟩
  rcases hcase with ⟨_, X, szv, rfl, hX1, hs1, hXl, hsl⟩ | ⟨hno, _⟩
  · rw [n_full] at hX1
    have HX1 := hd hX1
    have Hs1 := hd hs1
    have Hf1 : Hid (Nw w w1) := hf0.trans hf1 (fun i h => h.elim)
    simp at hXl hsl
    have hXw : w.heap.size < X := by omega
    have Hsl := hd hsl
    clear hb0 hf0 hf1 hX1 hs1 hsl hXl
    go_wp2_with fail
    obtain ⟨V, hV⟩ : ∃ V, V = (((w1.alloc (.cells #[.int .i64 0, .int .i64 1] 3)).alloc (.cells #[.int .i64 0, .int .i64 1] 3)).alloc (.cells #[.int .i64 1, .int .i64 2] 3)).alloc (.cells #[.slice (some ⟨w1.heap.size + 1, 0, none⟩) 2 2, .slice (some ⟨w1.heap.size + 1 + 1, 0, none⟩) 2 2] 22) := ⟨_, rfl⟩
    have hfV : Nw w1 V := by rw [hV]; exact ((((Fr.refl _ w1).alloc _).alloc _).alloc _).alloc _
    have k0 : Blk V w1.heap.size #[.int .i64 0, .int .i64 1] 3 := by rw [hV]; exact (((Blk.new _ _ _).alloc _).alloc _).alloc _
    have k1 : Blk V (w1.heap.size + 1) #[.int .i64 0, .int .i64 1] 3 := by
      rw [hV]
      have := ((Blk.new (w1.alloc (.cells #[.int .i64 0, .int .i64 1] 3)) #[.int .i64 0, .int .i64 1] 3).alloc (.cells #[.int .i64 1, .int .i64 2] 3)).alloc (.cells #[.slice (some ⟨w1.heap.size + 1, 0, none⟩) 2 2, .slice (some ⟨w1.heap.size + 1 + 1, 0, none⟩) 2 2] 22)
      simpa using this
    have k2 : Blk V (w1.heap.size + 1 + 1) #[.int .i64 1, .int .i64 2] 3 := by
      rw [hV]
      have := (Blk.new ((w1.alloc (.cells #[.int .i64 0, .int .i64 1] 3)).alloc (.cells #[.int .i64 0, .int .i64 1] 3)) #[.int .i64 1, .int .i64 2] 3).alloc (.cells #[.slice (some ⟨w1.heap.size + 1, 0, none⟩) 2 2, .slice (some ⟨w1.heap.size + 1 + 1, 0, none⟩) 2 2] 22)
      simpa using this
    have k3 : Blk V (w1.heap.size + 1 + 1 + 1) #[.slice (some ⟨w1.heap.size + 1, 0, none⟩) 2 2, .slice (some ⟨w1.heap.size + 1 + 1, 0, none⟩) 2 2] 22 := by
      rw [hV]
      have := Blk.new (((w1.alloc (.cells #[.int .i64 0, .int .i64 1] 3)).alloc (.cells #[.int .i64 0, .int .i64 1] 3)).alloc (.cells #[.int .i64 1, .int .i64 2] 3)) #[.slice (some ⟨w1.heap.size + 1, 0, none⟩) 2 2, .slice (some ⟨w1.heap.size + 1 + 1, 0, none⟩) 2 2] 22
      simpa using this
    rw [← hV]
    have hvs : IntsAt V (some ⟨w1.heap.size, 0, none⟩) [0, 1] := IntsAt.of_blk k0 0 _ (fun i hi => by
      match i, hi with
      | 0, _ => rfl
      | 1, _ => rfl)
    have hr1 : IntsAt V (some ⟨w1.heap.size + 1, 0, none⟩) [0, 1] := IntsAt.of_blk k1 0 _ (fun i hi => by
      match i, hi with
      | 0, _ => rfl
      | 1, _ => rfl)
    have hr2 : IntsAt V (some ⟨w1.heap.size + 1 + 1, 0, none⟩) [1, 2] := IntsAt.of_blk k2 0 _ (fun i hi => by
      match i, hi with
      | 0, _ => rfl
      | 1, _ => rfl)
    have hrs : RowsAt V (some ⟨w1.heap.size + 1 + 1 + 1, 0, none⟩) rows0 := fun i hi => by
      match i, hi with
      | 0, _ => exact ⟨_, 0, _, 2, rfl, k3.lt, k3.cell 0, hr1⟩
      | 1, _ => exact ⟨_, 0, _, 2, rfl, k3.lt, k3.cell 1, hr2⟩
    refine (post_one X w1.heap.size 0 (some ⟨w1.heap.size + 1 + 1 + 1, 0, none⟩) 2 2 szv [3, 3] [7, 7, 0, 0, 0, 0, 0, 0] rest0 none 0 [0, 1] rows0 V (HX1.out.nw hfV) (Hs1.out.nw hfV) (by decide) rfl rfl (by decide) rfl rfl (by decide) hvs hrs (by decide) (by decide) (by decide) (by decide) (by decide)
      (by decide) (lt64_get _ (by decide)) (by rw [n_dom1]; rintro _ rfl; decide) (by decide) (by rw [n_dom1]; decide)).mono ?_
    rw [n_dom1, n_live1]
    rintro e w2 ⟨rfl, tb, tcap, G, g, cap, hGl, hf2, hX2, ht2, hG2, hv2⟩
    have hF2 : Nw w w2 := (Hf1.out.trans hfV (fun i h => h.elim)).trans hf2 (fun i h => .inr (by omega))
    have hsX2 : ∀ k, szv.ownBlock = some k → k ≠ X := fun k hk e => by subst e; exact Hs1.out.ne HX1.out (by decide) hk
    have hs2 := (Hs1.out.nw hfV).fr hf2 (fun k hk e => hsX2 k hk e)
    have hGw : w.heap.size < w2.heap.size := by have := hX2.lt; omega
    have HX2 := hd hX2
    have Ht2 := hd ht2
    have HG2 := hd hG2
    have Hv2 := hd hv2
    have Hs2 := hd hs2
    have HF2 := hd hF2
    have HGl : Hid (w.heap.size ≤ G) := by
      have := hfV.size
      have := Hf1.out.size
      show w.heap.size ≤ G
      omega
    clear hV hfV k0 k1 k2 k3 hvs hr1 hr2 hrs hX2 ht2 hG2 hv2 hs2 hF2 hf2 HX1 Hs1 Hf1
    go_wp2_with fail
    refine (domain_ok X szv _ _ rest0 [3, 3] 1 w2 HX2.out Hs2.out (by decide) (by decide) rfl (by decide) rfl).mono ?_
    rw [show vals ([3, 6, 0, 0, 0, 0, 0, 0].getD 1 0) = [1, 2] by decide]
    rintro e w3 ⟨rfl, hf3, hl3⟩
    have HX3 := hd (HX2.out.nw hf3)
    have Ht3 := hd (Ht2.out.nw hf3)
    have HG3 := hd (HG2.out.nw hf3)
    have Hv3 := hd (Hv2.out.nw hf3)
    have Hs3 := hd (Hs2.out.nw hf3)
    have HF3 : Hid (Nw w w3) := HF2.out.trans hf3 (fun i h => h.elim)
    have Hl3 := hd hl3
    have hG3l : w.heap.size ≤ G := HGl.out
    have hG3w : G < w2.heap.size := HG2.out.lt
    have hX3w : X < w2.heap.size := HX2.out.lt
    clear HX2 Ht2 HG2 Hv2 Hs2 HF2 hf3 hl3
    go_wp2_with fail
    refine (remove_one X tb tcap G g cap szv [3, 3] [3, 6, 0, 0, 0, 0, 0, 0] rest0 none 0 (brTo rows0 rows0.length) 3 [0, 1] 1 2 2 w3 HX3.out Hs3.out (by decide) rfl rfl (by decide) Ht3.out HG3.out Hv3.out (by decide) (by decide) (by decide) rfl (by decide) (brTo_length _ _)
      (fun j => Nat.lt_of_lt_of_le (brTo_lt rows0 rows0.length j) (by decide)) (by decide) (by decide) (by decide) (lt64_get _ (by decide)) (by decide) (by rw [show [3, 6, 0, 0, 0, 0, 0, 0].set 1 2 = [3, 2, 0, 0, 0, 0, 0, 0] from rfl, n_dom2]; rintro _ rfl; decide) (by decide) (by rw [show [3, 6, 0, 0, 0, 0, 0, 0].set 1 2 = [3, 2, 0, 0, 0, 0, 0, 0] from rfl, n_dom2]; decide)).mono ?_
    rw [show [3, 6, 0, 0, 0, 0, 0, 0].set 1 2 = [3, 2, 0, 0, 0, 0, 0, 0] from rfl, n_dom2]
    rintro e w4 ⟨rfl, hf4, hX4, _⟩
    have hl4 := Hl3.out.fr hf4 (by omega)
    have hs4 := Hs3.out.fr hf4 (fun k hk e => by
      rcases e with e | e
      · exact hsX2 k hk e
      · subst e; exact Hs3.out.ne HG3.out (by decide) hk)
    have HF4 : Hid (Nw w w4) := HF3.out.trans hf4 (fun i h => .inr (by omega))
    have HX4 := hd hX4
    have Hs4 := hd hs4
    have Hl4 := hd hl4
    clear HX3 Ht3 HG3 Hv3 Hs3 HF3 Hl3 hf4 hX4 hl4 hs4
    go_wp2_with fail
    refine (domain_ok X szv _ _ rest0 [3, 3] 0 w4 HX4.out Hs4.out (by decide) (by decide) rfl (by decide) rfl).mono ?_
    rw [show vals ([1, 2, 0, 0, 0, 0, 0, 0].getD 0 0) = [0] by decide]
    rintro e w5 ⟨rfl, hf5, hl5⟩
    have hF5 : Nw w w5 := HF4.out.trans hf5 (fun i h => h.elim)
    have hl1 := Hl4.out.nw hf5
    have p0 : w5.cell? ⟨w2.heap.size, 0, none⟩ = some (.int .i64 1) := hl1.cell 0
    have p1 : w5.cell? ⟨w2.heap.size, 1, none⟩ = some (.int .i64 2) := hl1.cell 1
    have p2 : w5.cell? ⟨w4.heap.size, 0, none⟩ = some (.int .i64 0) := hl5.cell 0
    have HF5 := hd hF5
    clear hF5 hl1 hl5 hf5 HF4 HX4 Hs4 Hl4
    go_wp2
    go_ret
    exact ⟨rfl, HF5.out⟩
  · exact absurd hno (by decide)
end Go.Proofs.Ytkjfpdfkcfgfkaa
