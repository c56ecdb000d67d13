/- Contracts of the program's tables of Way 1: newRowSets, Make. -/
import Derived.Test.YtkjfpdfkcfgfkaaRs1
import Derived.Deep.RegionHeld3
import Derived.Deep.DeepCutAuto
namespace Go.Proofs.Ytkjfpdfkcfgfkaa
open Go.RowKit

theorem Fr.of_drew {S : Nat → Prop} {a b : World} (h : Fr S a.drew b) : Fr S a b := ⟨h.os, h.tape, h.output, h.size, h.block⟩

/-- The bearers when the first k rows have been laid in. -/
def brTo (rows : List (List Int)) : Nat → List Nat
  | 0 => List.replicate 24 0
  | k + 1 => addTo (brTo rows k) (rows.getD k []) (2 ^ k) (6 * (rows.getD k []).length)
theorem brTo_length (rows : List (List Int)) : ∀ k, (brTo rows k).length = 24
  | 0 => by simp [brTo]
  | k + 1 => by simp [brTo, addTo_length, brTo_length rows k]
theorem brTo_lt (rows : List (List Int)) : ∀ k j, (brTo rows k).getD j 0 < 2 ^ k
  | 0, j => by
    simp only [brTo, List.getD, List.getElem?_replicate]
    split <;> simp
  | k + 1, j => by
    have ih := brTo_lt rows k j
    have h2 : 2 ^ (k + 1) = 2 ^ k + 2 ^ k := by omega
    by_cases hj : j < (brTo rows k).length
    · simp only [brTo]
      rw [addTo_get _ _ _ _ _ hj]
      split
      · exact Nat.or_lt_two_pow (by omega) (by have := Nat.two_pow_pos k; omega)
      · omega
    · have hn : (brTo rows (k + 1)).length ≤ j := by rw [brTo_length] at hj ⊢; omega
      simp only [List.getD, List.getElem?_eq_none hn]
      exact Nat.two_pow_pos _
theorem live_or (k : Nat) : (2 ^ k - 1) ||| 2 ^ k = 2 ^ (k + 1) - 1 := by
  have h := Nat.two_pow_add_eq_or_of_lt (i := k) (b := 2 ^ k - 1) (by have := Nat.two_pow_pos k; omega) 1
  rw [Nat.mul_one] at h
  rw [Nat.or_comm, ← h]
  have := Nat.two_pow_pos k
  omega

theorem wrap_pow (k : Nat) (hk : k < 64) : IntKind.u64.wrap ((2 : Int) ^ k) = ((2 ^ k : Nat) : Int) := by
  have e : ((2 : Int) ^ k) = ((2 ^ k : Nat) : Int) := by simp
  have hp : 2 ^ k < 18446744073709551616 := Nat.lt_of_lt_of_le (Nat.pow_lt_pow_right (by omega) hk) (by decide)
  rw [e, IntKind.wrap_u64]
  generalize 2 ^ k = p at *
  omega

set_option maxHeartbeats 1600000 in
set_option maxRecDepth 1000000 in
theorem newRs_any (b o : Nat) (ro : Option Addr) (vcap rcap : Nat) (vars : List Int) (rows : List (List Int)) (nt : Bool) (way : Int) (w : World)
    (hv0 : 0 < vars.length) (hv4 : vars.length ≤ 4) (hrl : rows.length ≤ 60) (hrow : ∀ i, i < rows.length → (rows.getD i []).length ≤ 4) (hvs : IntsAt w (some ⟨b, o, none⟩) vars) (hrs : RowsAt w ro rows) :
    Calls Try.prog 64 #[.agg #[.slice (some ⟨b, o, none⟩) vars.length vcap, .slice ro rows.length rcap, .bool nt, .int .i64 way]] w fun e w' =>
      ∃ G g cap', e = .returned (.pointer (some ⟨G, 0, none⟩)) ∧ Nw w w' ∧ Blk w' G (rsCells (.slice (some ⟨g, 0, none⟩) vars.length cap') nt (brTo rows rows.length) (2 ^ rows.length - 1)) 142 ∧
        Row w' (.slice (some ⟨g, 0, none⟩) vars.length cap') 3 (vars.map (Value.int .i64)) ∧ w.heap.size ≤ G ∧ w.heap.size ≤ g := by
  obtain ⟨T, hT⟩ : ∃ T, T = w.heap.size := ⟨_, rfl⟩
  obtain ⟨W, hW⟩ : ∃ W, W = w.alloc (.cells #[.slice (some ⟨b, o, none⟩) vars.length vcap, .slice ro rows.length rcap, .bool nt, .int .i64 way] 58) := ⟨_, rfl⟩
  have hfW : Nw w W := by rw [hW]; exact (Fr.refl _ w).alloc _
  have hbW : Blk W T #[.slice (some ⟨b, o, none⟩) vars.length vcap, .slice ro rows.length rcap, .bool nt, .int .i64 way] 58 := by rw [hW, hT]; exact Blk.new _ _ _
  have hvW := hvs.nw hfW
  have hrW := hrs.nw hfW
  have hc0 : W.cell? ⟨T, 0, none⟩ = some (.slice (some ⟨b, o, none⟩) vars.length vcap) := hbW.cell 0
  have hc1 : W.cell? ⟨T, 1, none⟩ = some (.slice ro rows.length rcap) := hbW.cell 1
  have hc2 : W.cell? ⟨T, 2, none⟩ = some (.bool nt) := hbW.cell 2
  go_enter Try.func64, Try.ntmps64
  go_upto_region 1 with fail
  rw [← hW, ← hT]
  clear hW hT hvs hrs
  go_cut [3] (fun p wx => ∃ G g cap', p = .pointer (some ⟨G, 0, none⟩) ∧ Nw W wx ∧ Hid (Blk wx G (rsCells (.slice (some ⟨g, 0, none⟩) vars.length cap') nt (brTo rows 0) (2 ^ 0 - 1)) 142) ∧
        Row wx (.slice (some ⟨g, 0, none⟩) vars.length cap') 3 (vars.map (Value.int .i64)) ∧ W.heap.size ≤ G ∧ W.heap.size ≤ g)
  case first =>
    go_region_held3 (fun w' => w'.cell? ⟨T, 0, none⟩ = some (.slice (some ⟨b, o, none⟩) vars.length vcap) ∧ w'.cell? ⟨T, 2, none⟩ = some (.bool nt))
      (first | (go_keep; done) | (exact ⟨hkc0, hkc2⟩))
      (first | (go_at_call 75; refine (newScope_any b o vcap vars _ (by omega) hv0 (by exact hvW)).mono ?_; rintro e w1 ⟨g, cap', rfl, hf1, hr1, hg1⟩; have hkc0 : w1.cell? ⟨T, 0, none⟩ = some (.slice (some ⟨b, o, none⟩) vars.length vcap) := (hbW.drew.nw hf1).cell 0; have hkc2 : w1.cell? ⟨T, 2, none⟩ = some (.bool nt) := (hbW.drew.nw hf1).cell 2))
    have hf2 : Nw W w1 := hf1.of_drew
    have hsz : W.heap.size ≤ w1.heap.size := hf2.size
    go_wp2
    go_meet
    case rel =>
      refine ⟨w1.heap.size, g, cap', rfl, hf2.alloc _, ?_, hr1.alloc _, hsz, hg1⟩
      exact Blk.new _ _ _
  case rest =>
    obtain ⟨G, g, cap', rfl, hfx, hbx, hrx, hGx, hgx⟩ := hcut
    have hbT : Blk wc T #[.slice (some ⟨b, o, none⟩) vars.length vcap, .slice ro rows.length rcap, .bool nt, .int .i64 way] 58 := hbW.nw hfx
    have hc1' : wc.cell? ⟨T, 1, none⟩ = some (.slice ro rows.length rcap) := hbT.cell 1
    have hrc := hrW.nw hfx
    clear hc0 hc1 hc2 hbT
    have hGlt : g < wc.heap.size := hrx.lt rfl
    have hgG : g ≠ G := fun e => by subst e; exact hrx.ne hbx.out (by decide) rfl
    have hfwc : Nw w wc := hfW.trans hfx (fun i h => h.elim)
    have hsW := hfW.size
    go_wp2
    go_loopw [16] (fun i wr => ∃ k : Nat, k ≤ rows.length ∧ i = .int .i64 k ∧ Fr (fun k => k = G) wc wr ∧ Hid (Blk wr G (rsCells (.slice (some ⟨g, 0, none⟩) vars.length cap') nt (brTo rows k) (2 ^ k - 1)) 142)) (fun i _ => rows.length - (intOf i).toNat)
    case atStart => exact ⟨0, Nat.zero_le _, rfl, Fr.refl _ _, hbx⟩
    case round =>
      obtain ⟨k, hk, rfl, hf, hb⟩ := hrel
      by_cases hlt : k < rows.length
      · obtain ⟨b1, o1, rr, rcap1, rfl, hb1, hck, hrr⟩ := hrW k hlt
        have hfWr : Fr (fun j => j = G) W wr := (hfx.mono (fun i h => h.elim)).trans hf (fun i h => .inl h)
        have hck' : wr.cell? ⟨b1, o1 + k, none⟩ = some (.slice rr (rows.getD k []).length rcap1) := (hfWr.cell hb1 (by omega)).trans hck
        have hR4 := hrow k hlt
        have hbs : brTo rows (k + 1) = addTo (brTo rows k) (rows.getD k []) (2 ^ k) (6 * (rows.getD k []).length) := rfl
        have hrlt : ∀ b o, rr = some ⟨b, o, none⟩ → 0 < (rows.getD k []).length → b < W.heap.size := fun b o e h0 => by
          obtain ⟨b', o', e', hb', _⟩ := hrr 0 h0
          rw [e] at e'
          cases e'
          exact hb'
        obtain ⟨R, hR⟩ : ∃ R, rows.getD k [] = R := ⟨_, rfl⟩
        rw [hR] at hrr hck' hR4 hbs hrlt
        have hrr' : IntsAt wr rr R := fun i hi => by
          obtain ⟨b', o', e', hb', hcc⟩ := hrr i hi
          exact ⟨b', o', e', Nat.lt_of_lt_of_le hb' hfWr.size, (hfWr.cell hb' (by omega)).trans hcc⟩
        have Hbs := hd hbs
        have Hrr := hd hrr'
        have h24 := brTo_length rows k
        have hblt := brTo_lt rows k
        have hp60 : 2 ^ k < 18446744073709551616 := Nat.lt_of_lt_of_le (Nat.pow_lt_pow_right (by omega) (show k < 60 by omega)) (by decide)
        have hcl : wr.cell? ⟨G, 26, none⟩ = some (.int .u64 ((2 ^ k - 1 : Nat) : Int)) := (hb.out.cell 26).trans (rsCells_live _ _ _ _ h24)
        have hfz := hb.out.free 26
        have hwk := wrap_pow k (by omega)
        have hor := live_or k
        obtain ⟨pk, hpk⟩ : ∃ pk, 2 ^ k = pk := ⟨_, rfl⟩
        rw [hpk] at hcl hwk hp60 hor hblt Hbs hb
        obtain ⟨lv, hlv⟩ : ∃ lv, pk - 1 = lv := ⟨_, rfl⟩
        have hlv64 : lv < 18446744073709551616 := by omega
        rw [hlv] at hcl hor hb
        have Hor := hd hor
        have hblt' : ∀ j, (brTo rows k).getD j 0 < 18446744073709551616 := fun j => Nat.lt_trans (hblt j) hp60
        have Hblt := hd hblt'
        have H24 := hd h24
        clear hck hrr hrr' hR hbs hrW hrc hpk hlv hor hblt hblt' h24
        go_wp2_with fail
        go_region
        have hb2 := hb.out.set 26 (.int .u64 ((lv ||| pk : Nat) : Int))
        rw [rsCells_setLive _ _ _ _ _ H24.out, ← u64_or_nat lv pk hlv64 hp60] at hb2
        have Hb2 := hd hb2.drew
        clear hb2
        have hf2 : Fr (fun j => j = G) wr (wr.setCell ⟨G, 26, none⟩ (.int .u64 (bits .or .u64 (lv : Int) (pk : Int)))).drew := ((Fr.refl (fun j => j = G) wr).setCell _ _ (.inl rfl)).drew
        have hrr2 : IntsAt (wr.setCell ⟨G, 26, none⟩ (.int .u64 (bits .or .u64 (lv : Int) (pk : Int)))).drew rr R := fun i hi => by
          obtain ⟨b', o', e', hb', hcc⟩ := Hrr.out i hi
          exact ⟨b', o', e', Nat.lt_of_lt_of_le hb' hf2.size, (hf2.cell hb' (by have := hrlt b' o' e' (by omega); omega)).trans hcc⟩
        have Hrr2 := hd hrr2
        clear hrr2
        go_wp2_with (go_at_call 76; refine (add_any G (.slice (some ⟨g, 0, none⟩) vars.length cap') nt (brTo rows k) (lv ||| pk) rr rcap1 R pk _ Hb2.out H24.out Hblt.out hp60 hR4 Hrr2.out (fun b o e h0 => by have := hrlt b o e h0; omega)).mono ?_; rintro e w' ⟨rfl, hf3, hb3⟩)
        refine ⟨⟨k + 1, by omega, by go_num, (hf.trans hf2 (fun i h => .inl h)).trans hf3 (fun i h => .inl h), ?_⟩, by simp [intOf]; omega⟩
        rw [Hbs.out, ← Hor.out]
        exact hb3
      · obtain rfl : k = rows.length := by omega
        go_wp2
        go_ret
        refine ⟨G, g, cap', rfl, hfwc.trans hf (fun i h => .inr (by omega)), hb.out, hrx.fr hf (fun j hj e => hgG (by cases hj; exact e)), by omega, by omega⟩
set_option maxHeartbeats 800000 in
set_option maxRecDepth 1000000 in
/-- Make of a table of Way 1. -/
theorem make1_any (b o : Nat) (ro : Option Addr) (vcap rcap : Nat) (vars : List Int) (rows : List (List Int)) (nt : Bool) (dv : Array Value) (w : World)
    (hv0 : 0 < vars.length) (hv4 : vars.length ≤ 4) (hrl : rows.length ≤ 60) (hrow : ∀ i, i < rows.length → (rows.getD i []).length ≤ 4) (hvs : IntsAt w (some ⟨b, o, none⟩) vars) (hrs : RowsAt w ro rows) :
    Calls Try.prog 52 #[.agg #[.slice (some ⟨b, o, none⟩) vars.length vcap, .slice ro rows.length rcap, .bool nt, .int .i64 1], .agg dv] w fun e w' =>
      ∃ G g cap', e = .returned (.iface 115 (.pointer (some ⟨G, 0, none⟩))) ∧ Nw w w' ∧ Blk w' G (rsCells (.slice (some ⟨g, 0, none⟩) vars.length cap') nt (brTo rows rows.length) (2 ^ rows.length - 1)) 142 ∧
        Row w' (.slice (some ⟨g, 0, none⟩) vars.length cap') 3 (vars.map (Value.int .i64)) ∧ w.heap.size ≤ G ∧ w.heap.size ≤ g := by
  have hf0 : Nw w ((w.alloc (.cells #[.slice (some ⟨b, o, none⟩) vars.length vcap, .slice ro rows.length rcap, .bool nt, .int .i64 1] 58)).alloc (.cells dv 76)) := ((Fr.refl _ w).alloc _).alloc _
  go_enter Try.func52, Try.ntmps52
  go_wp2_with (go_at_call 64; refine (newRs_any b o ro vcap rcap vars rows nt 1 _ hv0 hv4 hrl hrow (hvs.nw hf0) (hrs.nw hf0)).mono ?_; rintro e w1 ⟨G, g, cap', rfl, hf1, hb1, hr1, hG1, hg1⟩)
  go_ret
  simp at hG1 hg1
  exact ⟨G, g, cap', rfl, hf0.trans hf1 (fun i h => h.elim), hb1, hr1, by omega, by omega⟩
end Go.Proofs.Ytkjfpdfkcfgfkaa
