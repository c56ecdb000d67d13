/- The statement News, out of the contracts of what it calls. -/
import Derived.Test.YtkjfpdfkcfgfkaaOpens
namespace Go.Proofs.Ytkjfpdfkcfgfkaa
open Go.RowKit

theorem turned_all {w : World} {g : Nat} {zs : List Int} (h : Blk w g (turnedTo zs (zs.length + 1)) 3) (hz : (zs.length + 1) * 8 ≤ 140737488355328) : AllAre w (.slice (some ⟨g, 0, none⟩) (zs.length + 1) (zs.length + 1)) (-7) := by
  refine ⟨some ⟨g, 0, none⟩, zs.length + 1, zs.length + 1, rfl, hz, IntsAt.of_blk h 0 _ (fun i hi => ?_)⟩
  rw [turnedTo_end, Nat.zero_add]
  simp only [List.length_replicate] at hi
  simp [hi]

/-- What 'opens' leaves, whatever the sizes are. -/
theorem opens_all (B : Nat) (sv nv tv rv : Value) (ss ts : List Value) (ao : Option Addr) (cap : Nat) (zs : List Int) (w : World) (hz : zs.length * 8 ≤ 140737488351232)
    (hB : Blk w B #[sv, nv, tv, rv] 28) (htv : Row w tv 22 ts) (hts : (ts.length + 1) * 24 ≤ 140737488355328) (hsv : Row w sv 68 ss) (hss : (ss.length + 1) * 8 ≤ 140737488355328) (hl : IntsAt w ao zs) :
    Calls Try.prog 10 #[.pointer (some ⟨B, 0, none⟩), .slice ao zs.length cap] w fun e w' =>
      e = .returned (.bool true) ∧ ∃ sv' tv' ss', Fr (fun k => k = B ∨ tv.ownBlock = some k ∨ sv.ownBlock = some k) w w' ∧ Blk w' B #[sv', nv, tv', rv] 28 ∧ Row w' sv' 68 ss' ∧ ss'.length ≤ ss.length + 1 ∧
        Row w' tv' 22 (ts ++ [.slice (some ⟨w.heap.size, 0, none⟩) (zs.length + 1) (zs.length + 1)]) ∧ Blk w' w.heap.size (turnedTo zs (zs.length + 1)) 3 ∧
        (∀ k, tv'.ownBlock = some k → tv.ownBlock = some k ∨ w.heap.size ≤ k) ∧ (∀ k, sv'.ownBlock = some k → sv.ownBlock = some k ∨ w.heap.size ≤ k) := by
  by_cases hlen : zs.length < 1 ∨ 8 < zs.length
  · refine (opens_len B sv nv tv rv ts ao cap zs w hz hB htv hts hl hlen).mono ?_
    rintro e w' ⟨he, tv', hf, hB', htv', hg', hlo⟩
    refine ⟨he, sv, tv', ss, hf.mono (fun i h => .inl (h.elim .inl (fun h => .inr (.inl h)))), hB', ?_, by omega, htv', hg', hlo, fun k hk => .inl hk⟩
    exact hsv.fr hf (fun k hk e => by
      rcases e with e | e
      · subst e; exact hsv.ne hB (by decide) hk
      · obtain ⟨cur, hb, _⟩ := htv.blk e
        exact hsv.ne hb (by decide) hk)
  · refine (opens_any B sv nv tv rv ss ts ao cap zs w (by omega) (by omega) hB htv hts hsv hss hl).mono ?_
    rintro e w' ⟨he, sv', tv', hf, hB', htv', hg', hlo, hcase⟩
    rcases hcase with ⟨_, rfl, hsv'⟩ | ⟨_, D, X, Y, szv, hsv', hslo, _⟩
    · exact ⟨he, sv', tv', ss, hf, hB', hsv', by omega, htv', hg', hlo, fun k hk => .inl hk⟩
    · exact ⟨he, sv', tv', _, hf, hB', hsv', by simp, htv', hg', hlo, hslo⟩

/-- What is said of 'first'. -/
def FirstOk : Prop := ∀ w : World, Calls Try.prog 9 #[] w fun e w' => e = .returned (.bool true) ∧ Nw w w'

set_option maxHeartbeats 1600000 in
set_option maxRecDepth 1000000 in
theorem news_walk (hfirst : FirstOk) (ao bo : Option Addr) (ca cb : Nat) (xs ys : List Int) (w : World) (hx : xs.length * 8 ≤ 140737488351232) (hy : ys.length * 8 ≤ 140737488351232) (ha : IntsAt w ao xs) (hb : IntsAt w bo ys) :
    Calls Try.prog 3 #[.slice ao xs.length ca, .slice bo ys.length cb] w fun e w' => e = .returned (.bool true) ∧ Nw w w' := by
  have hB0 : Blk (w.alloc (.cells #[nilS, nilS, nilS, nilS] 28)) w.heap.size #[nilS, nilS, nilS, nilS] 28 := Blk.new _ _ _
  have hF0 : Nw w (w.alloc (.cells #[nilS, nilS, nilS, nilS] 28)) := (Fr.refl _ w).alloc _
  go_enter Try.func3, Try.ntmps3
  go_wp2_with fail
  refine (hfirst _).mono ?_
  rintro e w1 ⟨rfl, hf1⟩
  have hB1 := hB0.nw hf1
  have ha1 := (ha.nw hF0).nw hf1
  have hb1 := (hb.nw hF0).nw hf1
  have hF1 : Nw w w1 := hF0.trans hf1 (fun i h => h.elim)
  have hs1 : w.heap.size < w1.heap.size := hB1.lt
  clear hB0 hF0 hf1
  go_wp2_with fail
  refine (opens_all w.heap.size nilS nilS nilS nilS [] [] ao ca xs _ hx hB1 (Row.nil _ _) (by simp) (Row.nil _ _) (by simp) ha1).mono ?_
  rintro e w2 ⟨rfl, sv2, tv2, ss2, hf2, hB2, hsv2, hss2, htv2, hg2, hlo2, hslo2⟩
  have hF12 : Fr (fun k => k = w.heap.size) w1 w2 := hf2.mono (fun i h => .inl (by
    rcases h with h | h | h
    · exact h
    · cases h
    · cases h))
  have hb2 : IntsAt w2 bo ys := by
    intro i hi
    obtain ⟨b, o, e, hbl, hc⟩ := hb i hi
    obtain ⟨b', o', e', hbl', hc'⟩ := hb1 i hi
    rw [e] at e'
    cases e'
    exact ⟨b, o, e, Nat.lt_of_lt_of_le hbl' hF12.size, (hF12.cell hbl' (by omega)).trans hc'⟩
  simp only [List.nil_append, List.length_nil, Nat.zero_add] at htv2 hss2
  have hs2 := hF12.size
  clear hf2
  go_wp2_with fail
  refine (opens_all w.heap.size sv2 nilS tv2 nilS ss2 _ bo cb ys _ hy hB2 htv2 (by simp) hsv2 (by omega) hb2).mono ?_
  rintro e w3 ⟨rfl, sv3, tv3, ss3, hf3, hB3, hsv3, hss3, htv3, hg3, hlo3, hslo3⟩
  have hg2' : Blk w3 w1.heap.size (turnedTo xs (xs.length + 1)) 3 := hg2.fr hf3 (fun e => by
    rcases e with e | e | e
    · omega
    · exact htv2.ne hg2 (by decide) e
    · exact hsv2.ne hg2 (by decide) e)
  have hK : Keeps w3 nilS tv3 nilS [] [.slice (some ⟨w1.heap.size, 0, none⟩) (xs.length + 1) (xs.length + 1), .slice (some ⟨w2.heap.size, 0, none⟩) (ys.length + 1) (ys.length + 1)] [] := by
    refine ⟨Row.nil _ _, htv3, Row.nil _ _, by simp, by simp, by simp, fun i h => by simp at h, fun i h => ?_, fun i h => by simp at h⟩
    match i, h with
    | 0, _ => exact turned_all hg2' (by omega)
    | 1, _ => exact turned_all hg3 (by omega)
  have hF3 : Nw w w3 := (hF1.trans hF12 (fun i h => .inr (by omega))).trans hf3 (fun i h => .inr (by
    rcases h with h | h | h
    · omega
    · rcases hlo2 i h with h' | h'
      · cases h'
      · omega
    · rcases hslo2 i h with h' | h'
      · cases h'
      · omega))
  clear hf3 hg2 hg2' hB2 hsv2 htv2 hlo2 hslo2 hlo3 hslo3 hF12 hF1 hB1 ha1 hb1 hb2
  go_wp2_with fail
  refine (kept_any w.heap.size sv3 nilS tv3 nilS _ _ _ _ hB3 hK).mono ?_
  rintro e w4 ⟨rfl, rfl⟩
  go_wp2
  go_ret
  exact ⟨rfl, hF3⟩
end Go.Proofs.Ytkjfpdfkcfgfkaa
