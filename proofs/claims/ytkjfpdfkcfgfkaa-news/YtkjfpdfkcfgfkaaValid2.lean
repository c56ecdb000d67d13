/- Contract of the program's Valid. -/
import Derived.Test.YtkjfpdfkcfgfkaaValid
namespace Go.Proofs.Ytkjfpdfkcfgfkaa
open Go.RowKit

/-- The rows of a table, wherever they lie. -/
def RowsAt (w : World) (ao : Option Addr) (rows : List (List Int)) : Prop := ∀ i, i < rows.length → ∃ b o ro rcap, ao = some ⟨b, o, none⟩ ∧ b < w.heap.size ∧
  w.cell? ⟨b, o + i, none⟩ = some (.slice ro (rows.getD i []).length rcap) ∧ IntsAt w ro (rows.getD i [])
theorem RowsAt.nw {w w' : World} {ao : Option Addr} {rows : List (List Int)} (h : RowsAt w ao rows) (f : Nw w w') : RowsAt w' ao rows := by
  intro i hi
  obtain ⟨b, o, ro, rcap, rfl, hb, hc, hz⟩ := h i hi
  exact ⟨b, o, ro, rcap, rfl, Nat.lt_of_lt_of_le hb f.size, (f.cell hb (fun x => x)).trans hc, hz.nw f⟩
def okWay (way : Int) : Bool := way == 1 || way == 2
def okRowAt (zs vars : List Int) (rows : List (List Int)) (i : Nat) : Bool := okRow zs vars (rows.getD i [])
def okTable (zs vars : List Int) (rows : List (List Int)) (way : Int) : Bool := okWay way && okVars zs.length vars && decide (rows.length ≤ 60) && (List.range rows.length).all (okRowAt zs vars rows)
theorem okVars_bounds {n : Nat} {vars : List Int} (h : okVars n vars = true) : 1 ≤ vars.length ∧ vars.length ≤ 4 ∧ ∀ i, i < vars.length → 0 ≤ vars.getD i 0 ∧ vars.getD i 0 < n := by
  simp only [okVars, Bool.and_eq_true, decide_eq_true_eq, List.all_eq_true, List.mem_range] at h
  refine ⟨h.1.1, h.1.2, fun i hi => ?_⟩
  have := h.2 i hi
  simp only [okVar, Bool.and_eq_true, decide_eq_true_eq] at this
  exact ⟨this.1.1, this.1.2⟩

set_option maxHeartbeats 1600000 in
set_option maxRecDepth 1000000 in
theorem valid_any (vo ro so : Option Addr) (vcap rcap scap : Nat) (vars : List Int) (rows : List (List Int)) (nt : Bool) (way : Int) (zs : List Int) (w : World)
    (hl : vars.length * 8 ≤ 140737488355328) (hrl : rows.length * 24 ≤ 140737488355328) (hvcap : vars.length ≤ vcap) (hvs : IntsAt w vo vars) (hrs : RowsAt w ro rows) (hs : IntsAt w so zs) :
    Calls Try.prog 51 #[.agg #[.slice vo vars.length vcap, .slice ro rows.length rcap, .bool nt, .int .i64 way], .slice so zs.length scap] w fun e w' =>
      e = .returned (.bool (okTable zs vars rows way)) ∧ Nw w w' := by
  obtain ⟨W, hW⟩ : ∃ W, w.alloc (.cells #[.slice vo vars.length vcap, .slice ro rows.length rcap, .bool nt, .int .i64 way] 58) = W := ⟨_, rfl⟩
  have hfW : Nw w W := by rw [← hW]; exact (Fr.refl _ w).alloc _
  have hbW : Blk W w.heap.size #[.slice vo vars.length vcap, .slice ro rows.length rcap, .bool nt, .int .i64 way] 58 := by rw [← hW]; exact Blk.new _ _ _
  have hvs' := hvs.nw hfW
  have hrs' := hrs.nw hfW
  have hs' := hs.nw hfW
  cases hway : okWay way with
  | false =>
    have hfin : okTable zs vars rows way = false := by simp [okTable, hway]
    rw [hfin]
    have h1 : (way != 1) = true := by simp only [okWay, Bool.or_eq_false_iff] at hway; simpa using hway.1
    have h2 : (way != 2) = true := by simp only [okWay, Bool.or_eq_false_iff] at hway; simpa using hway.2
    clear hfin hway hW
    go_enter Try.func51, Try.ntmps51
    go_wp2
    go_ret
    exact ⟨rfl, (Fr.refl _ w).alloc _⟩
  | true =>
    have hw12 : way = 1 ∨ way = 2 := by simpa [okWay] using hway
    cases hov : okVars zs.length vars with
    | false =>
      have hfin : okTable zs vars rows way = false := by simp [okTable, hov]
      rw [hfin]
      have Hov := hd hov
      clear hfin hov hway
      subst hW
      rcases hw12 with rfl | rfl
      all_goals
        go_enter Try.func51, Try.ntmps51
        go_wp2_with (go_at_call 61; refine (validVars_any vo vcap vars zs.length _ hl hvcap hvs').mono ?_; rw [Hov.out]; rintro e w' ⟨rfl, rfl⟩)
        go_ret
        exact ⟨rfl, hfW⟩
    | true =>
      obtain ⟨hv1, hv4, hvb⟩ := okVars_bounds hov
      have Hov := hd hov
      subst hW
      by_cases h60 : rows.length ≤ 60
      · have hrows : (List.range rows.length).all (okRowAt zs vars rows) = okTable zs vars rows way := by simp [okTable, hway, hov, h60]
        rw [← hrows]
        clear hrows hway hov
        rcases hw12 with rfl | rfl
        all_goals
          go_enter Try.func51, Try.ntmps51
          go_wp2_with (go_at_call 61; refine (validVars_any vo vcap vars zs.length _ hl hvcap hvs').mono ?_; rw [Hov.out]; rintro e w' ⟨rfl, rfl⟩)
          go_loop [30] (fun i => ∃ k : Nat, k ≤ rows.length ∧ i = .int .i64 k ∧ Hid ((List.range k).all (okRowAt zs vars rows) = true)) (fun i => rows.length - (intOf i).toNat)
          case atStart => exact ⟨0, Nat.zero_le _, rfl, rfl⟩
          case round =>
            obtain ⟨k, hk, rfl, HA⟩ := hrel
            by_cases hlt : k < rows.length
            · obtain ⟨b, o, rr, rcap2, rfl, _, hck, hrow⟩ := hrs' k hlt
              obtain ⟨R, hR⟩ : ∃ R, rows.getD k [] = R := ⟨_, rfl⟩
              rw [hR] at hck hrow
              have hat : okRowAt zs vars rows k = okRow zs vars R := by rw [← hR]; rfl
              have Hat := hd hat
              clear hat hR hrs hrs' hvs hs hbW
              cases hok : okRow zs vars R with
              | true =>
                have Hok := hd hok
                have HT : Hid ((List.range (k + 1)).all (okRowAt zs vars rows) = true) := by
                  show _ = _
                  rw [List.range_succ, List.all_append, HA.out]
                  simp [Hat.out, hok]
                clear hok
                go_wp2_with (go_at_call 62; refine (validRow_any rr vo so rcap2 vcap scap R vars zs _ hv4 hvb hrow hvs' hs').mono ?_; rw [Hok.out]; rintro e w' ⟨rfl, rfl⟩)
                exact ⟨⟨k + 1, by omega, by go_num, HT⟩, by simp [intOf]; omega⟩
              | false =>
                have Hok := hd hok
                have HK : Hid ((List.range rows.length).all (okRowAt zs vars rows) = false) := by
                  show _ = _
                  rw [List.all_eq_false]
                  exact ⟨k, List.mem_range.2 hlt, by simp [Hat.out, hok]⟩
                clear hok
                go_wp2_with (go_at_call 62; refine (validRow_any rr vo so rcap2 vcap scap R vars zs _ hv4 hvb hrow hvs' hs').mono ?_; rw [Hok.out]; rintro e w' ⟨rfl, rfl⟩)
                go_ret
                exact ⟨by rw [HK.out]; rfl, hfW⟩
            · obtain rfl : k = rows.length := by omega
              go_wp2
              go_ret
              exact ⟨by rw [HA.out]; rfl, hfW⟩
      · have hfin : okTable zs vars rows way = false := by simp [okTable, h60]
        rw [hfin]
        clear hfin hway hov
        rcases hw12 with rfl | rfl
        all_goals
          go_enter Try.func51, Try.ntmps51
          go_wp2_with (go_at_call 61; refine (validVars_any vo vcap vars zs.length _ hl hvcap hvs').mono ?_; rw [Hov.out]; rintro e w' ⟨rfl, rfl⟩)
          go_ret
          exact ⟨rfl, hfW⟩
end Go.Proofs.Ytkjfpdfkcfgfkaa
