/- Contract of values.Set.List. -/
import Derived.Test.YtkjfpdfkcfgfkaaEach
namespace Go.Proofs.Ytkjfpdfkcfgfkaa
open Go.RowKit Go.Shelf
attribute [local go_sem] Oper.semAt_some

abbrev ints (l : List Nat) : List Value := l.map (fun (x : Nat) => Value.int .i64 (x : Int))

set_option maxHeartbeats 1600000 in
set_option maxRecDepth 1000000 in
theorem list_any (s : Nat) (w : World) (hs : s < 256) :
    Calls Try.prog 48 #[.int .u8 s] w fun e w' =>
      e = .returned (.slice (some ⟨w.heap.size, 0, none⟩) (vals s).length (vals s).length) ∧ Nw w w' ∧ Blk w' w.heap.size (ints (vals s)).toArray 3 := by
  obtain ⟨i0, hi, hz0, hz1, hz2⟩ := info_parts Try.infoInt
  have hmf : ∀ (fn : Fn) (first cap : Array Value) (w : World), (Instr.makeFunc fn first cap).run Try.prog w = .ok (.func fn first cap) w := fun _ _ _ _ => rfl
  have hp8 : pop s ≤ 8 := by unfold pop; exact Nat.le_trans (List.length_filter_le _ _) (by simp)
  refine (callsIn_wide (n := 9)).1 ?_
  refine callsIn_of_wp_marks Try.func48 rfl trivial ?_ rfl
  simp only [Try.ntmps48, List.size_toArray, List.length_cons, List.length_nil, Nat.reduceAdd, Nat.reduceSub, Array.replicate_succ, Array.replicate_zero, List.push_toArray, List.append_toArray, List.nil_append, List.cons_append]
  gi_wp2_with (first
    | (refine ⟨trivial, ?_⟩; gi_at_call 38; refine (callsIn_wide.2 (len_any s _ hs)).mono ?_; rintro e w' ⟨rfl, rfl⟩)
    | (gi_at_make; refine wpListIn_make_own _ rfl _ _ 22 rfl 0 3 i0 (.int .i64 0) 1 Try.underlying22 hi hz0 hz1 .i64 .i64 _ (pop s) rfl rfl rfl (by rw [hz2]; omega) (by unfold maxLen; omega) (Nat.zero_le _) ?_; intro w1 hown hgrow))
  have hr0 : Row w1 (.slice (some ⟨w'.heap.size, 0, none⟩) ([] : List Nat).length (pop s)) 3 (ints []) := hown
  have hf0 : Nw w' w1 := (Fr.refl _ w').grown hgrow (fun k e => by cases e)
  have hlt0 : w'.heap.size < w1.heap.size := hr0.lt rfl
  clear hown hgrow
  refine wp_each hs rfl (by simp) (fun pre W => Blk W w1.heap.size #[.slice (some ⟨w'.heap.size, 0, none⟩) pre.length (pop s)] 22 ∧ Row W (.slice (some ⟨w'.heap.size, 0, none⟩) pre.length (pop s)) 3 (ints pre) ∧ Nw w' W)
    (fun pre A B h hb => ⟨h.1.bk hb, h.2.1.bk hb, h.2.2.bk hb (by simp; omega)⟩) ⟨Blk.new _ _ _, hr0.alloc _, hf0.alloc _⟩ ?round ?done
  case round =>
    rintro l pre v W hpre ⟨hb, hr, hf⟩
    have hc0 : W.cell? ⟨w1.heap.size, 0, none⟩ = some (.slice (some ⟨w'.heap.size, 0, none⟩) pre.length (pop s)) := hb.cell 0
    have hfz := hb.free 0
    have hlen : pre.length + 1 ≤ pop s := by
      have := hpre.length_le
      simp [vals, pop] at this ⊢
      omega
    have Hb := hd hb
    clear hb
    gi_wp2_with (gi_at_builtin; refine wpListIn_append_fits _ rfl _ _ 22 rfl 0 3 i0 1 Try.underlying22 hi hz1 w'.heap.size pre.length (pop s) (ints pre) rfl (by have := hr.alloc (.cells #[.int .i64 (v : Int)] 3); unfold Row at this; simpa using this) ⟨W.heap.size, 0, none⟩ 1 1 [.int .i64 (v : Int)] rfl rfl (cell_one_new _ _ _) (by simp [Value.oneCell']) hlen ?_; intro w2 hown2 hgrow2; have hf2 : Fr (fun k => k = w'.heap.size) W w2 := ((Fr.refl _ W).alloc _).grown hgrow2 (fun k e => by cases e; exact .inl rfl); have hb2 := hd (Hb.out.fr hf2 (by omega)); have hc2 : w2.cell? ⟨w1.heap.size, 0, none⟩ = some _ := hb2.out.cell 0; have hfz2 := hb2.out.free 0)
    have hlen2 : (pre ++ [v]).length = pre.length + 1 := by simp
    have hints : ints (pre ++ [v]) = ints pre ++ [.int .i64 (v : Int)] := by simp [ints]
    refine ⟨((hf2.mono (S' := fun k => k = w'.heap.size ∨ k = w1.heap.size) (fun i h => .inl (.inl h))).setCell ⟨w1.heap.size, 0, none⟩ _ (.inl (.inr rfl))).keeps ?_, ?_, ?_, ?_⟩
    · rintro k (h | h)
      · subst h
        obtain ⟨cur, hb, _⟩ := hr.blk rfl
        exact ⟨_, _, hb⟩
      · subst h; exact ⟨_, _, Hb.out⟩
    · rw [hlen2]
      have := hb2.out.set 0 (.slice (some ⟨w'.heap.size, 0, none⟩) (pre.length + 1) (pop s))
      simpa using this
    · rw [hlen2, hints]
      have h5 : Row w2 (.slice (some ⟨w'.heap.size, 0, none⟩) (pre.length + 1) (pop s)) 3 (ints pre ++ [.int .i64 (v : Int)]) := by
        unfold Row
        simpa using hown2
      exact h5.fr ((Fr.refl (fun k => k = w1.heap.size) w2).setCell ⟨w1.heap.size, 0, none⟩ _ (.inl rfl)) (fun k hk e => by cases hk; exact absurd e (Nat.ne_of_lt hlt0))
    · exact (hf.trans hf2 (fun i h => .inr (by omega))).setCell _ _ (.inr (by show w'.heap.size ≤ w1.heap.size; omega))
  case done =>
    rintro D W hD ⟨hb, hr, hf⟩ hK
    have hc0 : W.cell? ⟨w1.heap.size, 0, none⟩ = some (.slice (some ⟨w'.heap.size, 0, none⟩) (vals s).length (pop s)) := hb.cell 0
    gi_wp2
    have hDle : w'.heap.size ≤ D := by simp at hD; omega
    refine ⟨by simp, .inl ⟨_, _, rfl, run_takeDeferred hK, ?_⟩⟩
    refine ⟨_, results_tmp rfl _ _ _, rfl, hf.bk (Bk.put (.deferred none) hDle hK rfl) (Nat.le_refl _), ?_⟩
    have h6 : Row W (.slice (some ⟨w'.heap.size, 0, none⟩) (vals s).length (pop s)) 3 (ints (vals s)) := hr
    have h7 : Blk W w'.heap.size (ints (vals s)).toArray 3 := by
      unfold Row at h6
      simp only [ints, List.length_map] at h6 ⊢
      exact blk_of_owns (n := (vals s).length) h6
    exact h7.bk (Bk.put (.deferred none) hDle hK rfl)
end Go.Proofs.Ytkjfpdfkcfgfkaa
