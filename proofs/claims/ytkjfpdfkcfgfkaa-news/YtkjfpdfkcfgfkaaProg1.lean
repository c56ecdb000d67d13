/- Contracts of the program's small functions: slices.Clone at ints, values.Below, values.One. -/
import Derived.Test.YtkjfpdfkcfgfkaaLaw1
namespace Go.Proofs.Ytkjfpdfkcfgfkaa
open Go.RowKit

theorem clone_src {w : World} {b o : Nat} {zs : List Int} (h : IntsAt w (some ⟨b, o, none⟩) zs) (ob : Obj) :
    ∀ (j : Nat) (v : Value), (zs.map (Value.int .i64))[j]? = some v → (w.alloc ob).cell? ((⟨b, o, none⟩ : Addr).add j) = some v := by
  intro j v hj
  have hj' : j < zs.length := by
    have := (List.getElem?_eq_some_iff.1 hj).1
    simpa using this
  obtain ⟨b', o', he, hlt, hc⟩ := h j hj'
  cases he
  rw [show (⟨b, o, none⟩ : Addr).add j = ⟨b, o + j, none⟩ from by simp [Addr.add], Fr.cell ((Fr.refl (fun _ => False) w).alloc ob) hlt (fun x => x), hc]
  rw [List.getElem?_map, List.getElem?_eq_getElem hj'] at hj
  simp at hj
  simp [← hj, hj']

theorem clone_end {w w1 : World} {e : TypeId} {v' : Value} {n : Nat} {xs : List Value} (hx : 0 < n) (hn : xs.length = n) (h1 : w1.ownsRow 0 e 1 v' (0 + n) ([] ++ xs))
    (hg : (w.alloc (.cells #[] e)).grownBy w1 (Value.slice (some ⟨w.heap.size, 0, none⟩) 0 0).ownBlock)
    (hat : v'.ownBlock = (Value.slice (some ⟨w.heap.size, 0, none⟩) 0 0).ownBlock ∨ v'.ownBlock = some (w.alloc (.cells #[] e)).heap.size) :
    ∃ g cap, v' = .slice (some ⟨g, 0, none⟩) n cap ∧ Nw w w1 ∧ Row w1 v' e xs ∧ w.heap.size ≤ g := by
  subst hn
  have hr : Row w1 v' e xs := by unfold Row; simpa using h1
  have hfr : Nw w w1 := ((Fr.refl _ w).alloc (.cells #[] e)).grown hg (fun k hk => .inr (by cases hk; exact Nat.le_refl _))
  rcases h1.2 with ⟨_, hn⟩ | ⟨g, cap, cur, rfl, _⟩
  · omega
  · refine ⟨g, cap, by simp, hfr, hr, ?_⟩
    rcases hat with hat | hat
    · simp [Value.ownBlock] at hat; omega
    · simp [Value.ownBlock] at hat; omega

set_option maxHeartbeats 400000 in
set_option maxRecDepth 1000000 in
theorem clone_any (b o : Nat) (cap : Nat) (zs : List Int) (w : World) (hz : zs.length * 8 ≤ 140737488355328) (h0 : 0 < zs.length) (h : IntsAt w (some ⟨b, o, none⟩) zs) :
    Calls Try.prog 49 #[.slice (some ⟨b, o, none⟩) zs.length cap] w fun e w' =>
      ∃ g cap', e = .returned (.slice (some ⟨g, 0, none⟩) zs.length cap') ∧ Nw w w' ∧ Row w' (.slice (some ⟨g, 0, none⟩) zs.length cap') 3 (zs.map (Value.int .i64)) ∧ w.heap.size ≤ g := by
  obtain ⟨i0, hi, hz0, hz1, hz2⟩ := info_parts Try.infoInt
  have heq := fun (w : World) a n c => Lib.run_eql_slice_nil (P := Try.prog) w 22 3 a n c 0 0 Try.underlying22
  go_enter Try.func49, Try.ntmps49
  have hsrc := hd (clone_src h (.cells #[] 3))
  clear h
  go_wp2_with (at_builtin; refine wpList_append_own_at _ rfl _ _ 22 rfl 0 3 i0 (.int .i64 0) 1 8 Try.underlying22 hi hz0 hz1 hz2 rfl (by decide) _ 0 [] rfl (World.ownsRow_made w #[] 0 (Nat.zero_le _) (Nat.zero_le _) rfl) ⟨b, o, none⟩ zs.length cap (zs.map (Value.int .i64)) rfl (by simp) hsrc.out (ints_oneCell _ _) (by unfold maxLen; omega) (by omega) (Nat.zero_le _) ?_; intro v' w1 hown' hgrow _ hat; obtain ⟨g', cap', rfl, hf1, hr1, hg1⟩ := clone_end h0 (by simp) hown' hgrow hat; clear hown' hgrow hat)
  go_ret
  exact ⟨g', cap', rfl, hf1, hr1, hg1⟩

set_option maxHeartbeats 400000 in
theorem below_any (n : Nat) (w : World) (h : n ≤ 6) :
    Calls Try.prog 50 #[.int .i64 n] w fun e w' => e = .returned (.int .u8 (2 ^ n - 1 : Nat)) ∧ w' = w := by
  match n, h with
  | 0, _ | 1, _ | 2, _ | 3, _ | 4, _ | 5, _ | 6, _ =>
    go_enter Try.func50, Try.ntmps50
    go_wp2
    go_ret
    exact ⟨rfl, rfl⟩
end Go.Proofs.Ytkjfpdfkcfgfkaa
