/- Parts of the proof, number 8: contracts of the functions that the statement calls. -/
import Derived.Test.YtkjfpdfkcfgfkaaGreatM7
import Derived.Test.YtkjfpdfkcfgfkaaGreatRows
import Derived.ProofKit
import Derived.OpenShut
import Derived.ShutString
import Derived.ChangeOld
import Derived.SizedLaws
import Derived.Deep.Slices
import Derived.Test.YtkjfpdfkcfgfkaaGreatM4

namespace Go.Proofs.YtkjfpdfkcfgfkaaGreat
open Go.RowKit

set_option maxHeartbeats 3200000 in
set_option maxRecDepth 1000000 in
theorem posts_any (W : World) (lo B : Nat) (L : LW) (d : Sd) (vo ro : Option Addr) (vcap rcap : Nat) (vars : List Int) (rows : List (List Int)) (nt : Bool) (way : Int) (w : World) (h : LS W w lo B L d) (hbz : d.bz = false) (hvs : IntsAt W vo vars) (hrs : RowsAt W ro rows)
  (hvl : vars.length ≤ 1048576) (hrl : rows.length ≤ 1048576) (hrr : ∀ r ∈ rows, r.length ≤ 1048576) (htl : L.turned.length ≤ 8388608) (hrw : L.rows.length ≤ 8388608) :
  Calls Tryz.prog 53 #[.pointer (some ⟨B, 0, none⟩), .pointer (some ⟨d.D, 0, none⟩), .agg #[.slice vo vars.length vcap, .slice ro rows.length rcap, .bool nt, .int .i64 way]] w fun e w' => e = .returned (.bool true) ∧ ∃ L' d', LS W w' lo B L' d' ∧ LStep w w' B L L' d d' ∧ L'.nums = L.nums ∧ L'.turned.length = L.turned.length + 1 + rows.length ∧ L'.rows.length = L.rows.length + 1 := by
 obtain ⟨i0, hi0, hz0, hz1, hz2⟩ := info_parts Tryz.infoInt
 obtain ⟨i1, hi1, hz1a, hz1b, hz1c⟩ := info_parts Tryz.infoInts
 obtain ⟨i2, hi2, hz2a, hz2b, hz2c⟩ := info_parts Tryz.infoRowsL
 obtain ⟨B0, hB0⟩ : ∃ B0, B0 = w.heap.size := ⟨_, rfl⟩
 obtain ⟨V, hV⟩ : ∃ V, V = w.alloc (.cells #[.slice vo vars.length vcap, .slice ro rows.length rcap, .bool nt, .int .i64 way] 41) := ⟨_, rfl⟩
 have hfV : Nw w V := by rw [hV]; exact (Fr.refl _ w).alloc _
 have hbT : Blk V B0 #[.slice vo vars.length vcap, .slice ro rows.length rcap, .bool nt, .int .i64 way] 41 := by rw [hV, hB0]; exact Blk.new _ _ _
 have H := hd h
 have HfV := hd hfV
 have HbT := hd hbT
 have HB0 := hd hB0
 have hWV : Nw W V := h.env.nw.trans hfV (fun _ x => x.elim)
 have hvV := hvs.nw hWV
 have hrV := hrs.nw hWV
 have hTcell : ∀ w', Blk w' B0 #[.slice vo vars.length vcap, .slice ro rows.length rcap, .bool nt, .int .i64 way] 41 → w'.cell? ⟨B0, 0, none⟩ = some (.slice vo vars.length vcap) ∧ w'.cell? ⟨B0, 1, none⟩ = some (.slice ro rows.length rcap) ∧ w'.cell? ⟨B0, 2, none⟩ = some (.bool nt) ∧ w'.cell? ⟨B0, 3, none⟩ = some (.int .i64 way) ∧ B0 < w'.heap.size := fun w' hb => ⟨hb.cell 0, hb.cell 1, hb.cell 2, hb.cell 3, hb.lt⟩
 have HT := hd hTcell
 obtain ⟨t0, t1, _, _, t4⟩ := hTcell V hbT
 have HvV := hd hvV
 have HrV := hd hrV
 have Hvs := hd hvs
 have Hrs := hd hrs
 have Hbz := hd hbz
 have Hrr := hd hrr
 clear h hfV hbT hWV hvV hrV hTcell hvs hrs hbz hrr
 go_enter Tryz.func53, Tryz.ntmps53
 go_upto_region 1 with fail
 rw [← hV, ← hB0]
 clear hV hB0
 go_wp2_with (first
  | (go_at_call 14; refine (lent_any vo vcap vars V (by omega) HvV.out).mono ?_; rintro e w1 ⟨rfl, hf1, hb1⟩; have Hf1 := hd hf1; have Hb1 := hd hb1; obtain ⟨_, s1, _, _, s4⟩ := HT.out w1 (HbT.out.nw hf1); clear hf1 hb1)
  | (at_make; refine wpList_make_full _ rfl _ _ 26 rfl w1.heap.size 22 i1 (.slice none 0 0) 1 Tryz.underlying26 hi1 hz1a hz1b .i64 .i64 _ _ (rows.length + 1) rfl rfl (by go_num) (by go_num) (by rw [hz1c]; omega) (by unfold maxLen; omega) (Nat.le_refl _) ?_; intro w2 hown2 hgrow2))
 obtain ⟨RB, hRB⟩ : ∃ RB, RB = w1.heap.size := ⟨_, rfl⟩
 obtain ⟨VB, hVB⟩ : ∃ VB, VB = V.heap.size := ⟨_, rfl⟩
 have hf2 : Nw w1 w2 := (Fr.refl _ w1).grown hgrow2 (fun k e => by cases e)
 have hC2 : Copies w2 w2.heap.size RB rows [] := by
  refine ⟨?_, fun j hj => absurd hj (Nat.not_lt_zero _), fun g hg => (by cases hg), List.Pairwise.nil, Nat.zero_le _⟩
  rw [rowsC_nil]
  have := blk_of_owns hown2
  rw [made_nil, ← hRB] at this
  exact this
 rw [← hRB, ← hVB]
 rw [← hVB] at Hb1
 have HC2 := hd hC2
 have HNV2 := hd (Hf1.out.trans hf2 (fun _ x => x.elim))
 have Hb2 := hd (Hb1.out.nw hf2)
 have hRBl : RB < w2.heap.size := hC2.rb.lt
 have hVBR : VB < RB := by rw [hRB]; exact Hb1.out.lt
 have hVRB : V.heap.size ≤ VB := by omega
 have HVRB := hd hVRB
 clear hown2 hgrow2 hf2 hC2 hRB hVB hVRB s1 s4 t0 t1 t4
 go_loopw [9, 10, 11] (fun ow i _ wr => ∃ (gs : List Nat), gs.length ≤ rows.length ∧ i = .int .i64 (gs.length : Int) ∧ Hid (Row wr ow 22 (lentL rows gs)) ∧ Hid (Copies wr w2.heap.size RB rows gs) ∧ Hid (Fr (fun k => k = RB) w2 wr) ∧ Hid (∀ k, ow.ownBlock = some k → w2.heap.size ≤ k)) (fun _ i _ _ => rows.length - (intOf i).toNat)
 case atStart => exact ⟨[], Nat.zero_le _, rfl, Row.nil _ _, HC2, Fr.refl _ _, hd (fun k hk => by cases hk)⟩
 case round =>
  clear HC2
  obtain ⟨gs, hgl, rfl, HO, HC, HF, HOl⟩ := hrel
  obtain ⟨oo, oc, hof, _⟩ := HO.out.form
  rw [lentL_len] at hof
  subst hof
  have hNV : Nw V wr := HNV2.out.trans HF.out (fun i hi => .inr (by have := HVRB.out; omega))
  obtain ⟨u0, u1, u2, u3, u4⟩ := HT.out wr (HbT.out.nw hNV)
  by_cases hlt : gs.length < rows.length
  ·have hdl : (gs.length : Int) < (rows.length : Int) := by omega
   obtain ⟨rb, rof, ra, rac, hre, hrbV, hrc, hRI⟩ := HrV.out gs.length hlt
   have Hrc := hd (fun (w' : World) (f : Nw V w') => (show w'.cell? ⟨rb, rof + gs.length, none⟩ = _ from (f.cell hrbV (fun x => x)).trans hrc))
   have hRI := hRI.nw hNV
   have hr6 : (rows.getD gs.length []).length ≤ 1048576 := Hrr.out _ (by rw [getD_of_lt _ _ _ hlt]; exact List.getElem_mem hlt)
   have hset := rowsC_set rows gs
   have HNV := hd hNV
   obtain ⟨r, hr⟩ : ∃ r, rows.getD gs.length [] = r := ⟨_, rfl⟩
   rw [hr] at hrc Hrc hRI hr6
   have Hr := hd hr
   have Hset := hd hset
   have HRI := hd hRI
   subst hre
   have hrcr := Hrc.out wr hNV
   have hrbl := Nat.lt_of_lt_of_le hrbV hNV.size
   clear hNV hr hset hRI hrc
   have hsz2 := HF.out.size
   have HOg := hd (show ∀ g ∈ gs, ¬ (Value.slice oo gs.length oc).ownBlock = some g from fun g hg h => by
    obtain ⟨cur, hb⟩ := HC.out.int hg
    obtain ⟨cur', hb', _⟩ := HO.out.blk h
    exact absurd (hb.inj hb').2 (by decide))
   go_wp2_with (first
    | (go_at_call 14; refine (lent_any ra rac r wr (by omega) HRI.out).mono ?_; rintro e w3 ⟨rfl, hf3, hb3⟩; have HO3 := hd (HO.out.nw hf3); have Hf3 := hd hf3; have Hb3 := hd hb3; clear hf3 hb3)
    | (at_builtin; refine wpList_append_own_at _ rfl _ _ 26 rfl 0 22 i1 (.slice none 0 0) 1 24 Tryz.underlying26 hi1 hz1a hz1b hz1c rfl (by decide) (.slice oo gs.length oc) gs.length _ rfl (rowN (HO3.out.alloc _) (lentL_len rows gs)) ⟨w3.heap.size, 0, none⟩ 1 1 [.slice (some ⟨wr.heap.size, 0, none⟩) (r.length + 1) (r.length + 1)] rfl rfl (cell_one_new _ _ _) (by simp [Value.oneCell']) (by unfold maxLen; omega) (by omega) (Nat.zero_le _) ?_; intro v' w4 hown' hgrow _ hat; obtain ⟨g4, cap4, rfl, hr4, hf4, ha4, hlt4⟩ := app1n (lentL_len rows gs) hown' hgrow hat; have HN4 := hd ((HNV.out.trans Hf3.out (fun _ x => x.elim)).trans hf4 (fun i hi => .inr (by have := HOl.out i hi; have := HNV2.out.size; omega))); obtain ⟨q0, q1, q2, q3, q4⟩ := HT.out w4 (HbT.out.nw HN4.out); have qc := Hrc.out w4 HN4.out; have qrl := Nat.lt_of_lt_of_le hrbV HN4.out.size; have hC4 := (HC.out.nw Hf3.out).fr hf4 (fun h => by have := HOl.out RB h; omega) (fun g hg h => HOg.out g hg h); have hRf := hC4.rb.free gs.length; have hRc : w4.cell? ⟨RB, gs.length, none⟩ = some nilS := (by rw [hC4.rb.cell, List.getElem?_toArray]; exact rowsC_at rows gs hgl); have HC4 := hd hC4; have hRl4 := hC4.rb.lt; clear hC4; have Hr4 := hd hr4; have Hf4 := hd hf4; have Ha4 := hd ha4; clear hown' hgrow hat hr4 hf4 ha4 hlt4))
   have hs3 := Hf3.out.size
   have hgl4 : w2.heap.size ≤ g4 := by
    rcases Ha4.out with h | h
    ·exact HOl.out g4 h
    ·omega
   have hfs : Fr (fun k => k = RB) w4 (w4.setCell ⟨RB, gs.length, none⟩ (.slice (some ⟨wr.heap.size, 0, none⟩) r.length (r.length + 1))) := (Fr.refl (fun k => k = RB) w4).setCell _ _ (.inl rfl)
   have hOw : ¬ (Value.slice oo gs.length oc).ownBlock = some wr.heap.size := fun h => by
    have := HO.out.lt h
    omega
   refine ⟨⟨gs ++ [wr.heap.size], by rw [List.length_append]; exact hlt, by simp, ?_, ⟨?_, fun j hj => ?_, fun g hg => ?_, ?_, by rw [List.length_append]; exact hlt⟩, ?_, hd (fun k hk => by cases hk; exact hgl4)⟩, by simp [intOf]; omega⟩
   ·rw [lentL_snoc, Hr.out]
    exact Hr4.out.fr hfs (fun k hk e => by cases hk; have : g4 = RB := e; omega)
   ·have h1 := HC4.out.rb.set gs.length (.slice (some ⟨wr.heap.size, 0, none⟩) r.length (r.length + 1))
    have h2 := Hset.out wr.heap.size hlt
    rw [Hr.out] at h2
    rw [← h2]
    rw [List.setIfInBounds_toArray] at h1
    exact h1
   ·rw [List.length_append, List.length_singleton] at hj
    by_cases he : j < gs.length
    ·rw [getD_snoc_lt _ _ _ _ he]
     exact (HC4.out.each j he).fr hfs (fun e => by
      have h1 := HC4.out.each j he
      rw [e] at h1
      exact absurd (h1.inj HC4.out.rb).2 (by decide))
    ·obtain rfl : j = gs.length := by omega
     rw [getD_snoc_eq, Hr.out]
     exact (Hb3.out.fr Hf4.out hOw).fr hfs (fun e => by omega)
   ·rcases List.mem_append.1 hg with hg | hg
    ·exact HC.out.lo g hg
    ·rw [List.mem_singleton.1 hg]
     exact hsz2
   ·refine List.pairwise_append.2 ⟨HC.out.ne, List.pairwise_singleton _ _, fun a ha b hb e => ?_⟩
    rw [List.mem_singleton.1 hb] at e
    obtain ⟨cur, hbl⟩ := HC.out.int ha
    have := hbl.lt
    omega
   ·exact ((HF.out.trans Hf3.out (fun _ x => x.elim)).trans Hf4.out (fun i hi => .inr (HOl.out i hi))).trans hfs (fun i hi => .inl hi)
  ·have hgn : gs.length = rows.length := by omega
   have hdl : ¬ ((gs.length : Int) < (rows.length : Int)) := by omega
   have HNV := hd hNV
   have Hgn := hd hgn
   have hRB1 := HC.out.rb
   have hRBl1 := hRB1.lt
   have HbV := hd (Hb2.out.fr HF.out (fun e => by omega))
   have hL1 := H.out.nw (HfV.out.trans hNV (fun _ x => x.elim))
   have HL1 := hd hL1
   have hVl := HbV.out.lt
   rw [hgn] at HO HOl ⊢
   clear hNV hgn hRB1 hL1
   go_wp2_with fail
   have hK0 : PBlk wr.drew B0 d #[.slice vo vars.length vcap, .slice ro rows.length rcap, .bool nt, .int .i64 way] := ⟨HL1.out.side.blk.drew, (HbT.out.nw HNV.out).drew⟩
   refine region_H pstR10 21 (fun w'' => PBlk w'' B0 d #[.slice vo vars.length vcap, .slice ro rows.length rcap, .bool nt, .int .i64 way]) (by kernel_rfl) (by kernel_rfl) (by kernel_rfl) ?_
   refine take_at (i := 0) (d := some 54) (v := .pointer (some ⟨d.D, 0, none⟩)) (by kernel_rfl) (by kernel_rfl) (fun _ _ _ h => h) (fun w'' hS => by kernel_rfl) hK0 ?_
   refine take_at (i := 1) (d := some 55) (v := .pointer (some ⟨d.D, 0, none⟩)) (by kernel_rfl) (by kernel_rfl) (fun _ _ _ h => h) (fun w'' hS => by kernel_rfl) hK0 ?_
   refine take_at (i := 2) (d := some 56) (v := .pointer (some ⟨d.D, 0, none⟩)) (by kernel_rfl) (by kernel_rfl) (fun _ _ _ h => h) (fun w'' hS => by kernel_rfl) hK0 ?_
   refine take_at (i := 3) (d := some 57) (v := .pointer (some ⟨d.X, 0, none⟩)) (by kernel_rfl) (by kernel_rfl) (fun _ _ _ h => h) (fun w'' hS => exec_load 35 (.tmp 56) (by kernel_rfl) (by kernel_rfl) (by kernel_rfl) (hS.k1.cell 0)) hK0 ?_
   refine take_at (i := 4) (d := some 58) (v := .slice (some ⟨VB, 0, none⟩) (vars.length + 1) (vars.length + 1)) (by kernel_rfl) (by kernel_rfl) (fun _ _ _ h => h) (fun w'' hS => by kernel_rfl) hK0 ?_
   refine take_at (i := 5) (d := some 59) (v := .pointer (some ⟨B0, 0, none⟩)) (by kernel_rfl) (by kernel_rfl) (fun _ _ _ h => h) (fun w'' hS => by kernel_rfl) hK0 ?_
   refine take_at (i := 6) (d := some 60) (v := .slice vo vars.length vcap) (by kernel_rfl) (by kernel_rfl) (fun _ _ _ h => h) (fun w'' hS => exec_load 22 (.tmp 59) (by kernel_rfl) (by kernel_rfl) (by kernel_rfl) (hS.k2.cell 0)) hK0 ?_
   refine take_at (i := 7) (d := some 61) (v := .int .i64 (vars.length : Int)) (by kernel_rfl) (by kernel_rfl) (fun _ _ _ h => h) (fun w'' hS => by kernel_rfl) hK0 ?_
   refine take_at (i := 8) (d := some 62) (v := .slice (some ⟨VB, 0, none⟩) vars.length (vars.length + 1)) (by kernel_rfl) (by kernel_rfl) (fun _ _ _ h => h) (fun w'' hS => exec_cutI (m := vars.length + 1) (.tmp 58) (.tmp 61) (by kernel_rfl) (by kernel_rfl) (by kernel_rfl) (by omega)) hK0 ?_
   refine take_at (i := 9) (d := some 63) (v := .slice (some ⟨RB, 0, none⟩) (rows.length + 1) (rows.length + 1)) (by kernel_rfl) (by kernel_rfl) (fun _ _ _ h => h) (fun w'' hS => by kernel_rfl) hK0 ?_
   refine take_at (i := 10) (d := some 64) (v := .pointer (some ⟨B0, 1, none⟩)) (by kernel_rfl) (by kernel_rfl) (fun _ _ _ h => h) (fun w'' hS => by kernel_rfl) hK0 ?_
   refine take_at (i := 11) (d := some 65) (v := .slice ro rows.length rcap) (by kernel_rfl) (by kernel_rfl) (fun _ _ _ h => h) (fun w'' hS => exec_load 26 (.tmp 64) (by kernel_rfl) (by kernel_rfl) (by kernel_rfl) (hS.k2.cell 1)) hK0 ?_
   refine take_at (i := 12) (d := some 66) (v := .int .i64 (rows.length : Int)) (by kernel_rfl) (by kernel_rfl) (fun _ _ _ h => h) (fun w'' hS => by kernel_rfl) hK0 ?_
   refine take_at (i := 13) (d := some 67) (v := .slice (some ⟨RB, 0, none⟩) rows.length (rows.length + 1)) (by kernel_rfl) (by kernel_rfl) (fun _ _ _ h => h) (fun w'' hS => exec_cutR (m := rows.length + 1) (.tmp 63) (.tmp 66) (by kernel_rfl) (by kernel_rfl) (by kernel_rfl) (by omega)) hK0 ?_
   refine take_at (i := 14) (d := some 68) (v := .pointer (some ⟨B0, 2, none⟩)) (by kernel_rfl) (by kernel_rfl) (fun _ _ _ h => h) (fun w'' hS => by kernel_rfl) hK0 ?_
   refine take_at (i := 15) (d := some 69) (v := .bool nt) (by kernel_rfl) (by kernel_rfl) (fun _ _ _ h => h) (fun w'' hS => exec_load 4 (.tmp 68) (by kernel_rfl) (by kernel_rfl) (by kernel_rfl) (hS.k2.cell 2)) hK0 ?_
   refine take_at (i := 16) (d := some 70) (v := .pointer (some ⟨B0, 3, none⟩)) (by kernel_rfl) (by kernel_rfl) (fun _ _ _ h => h) (fun w'' hS => by kernel_rfl) hK0 ?_
   refine take_at (i := 17) (d := some 71) (v := .int .i64 way) (by kernel_rfl) (by kernel_rfl) (fun _ _ _ h => h) (fun w'' hS => exec_load 3 (.tmp 70) (by kernel_rfl) (by kernel_rfl) (by kernel_rfl) (hS.k2.cell 3)) hK0 ?_
   refine take_at (i := 18) (d := some 72) (v := .agg #[.slice (some ⟨VB, 0, none⟩) vars.length (vars.length + 1), .slice (some ⟨RB, 0, none⟩) rows.length (rows.length + 1), .bool nt, .int .i64 way]) (by kernel_rfl) (by kernel_rfl) (fun _ _ _ h => h) (fun w'' hS => by kernel_rfl) hK0 ?_
   refine enter_at (i := 19) (d := some 73) (w' := wr.drew) (f := 11) (args := #[.pointer (some ⟨d.X, 0, none⟩), .agg #[.slice (some ⟨VB, 0, none⟩) vars.length (vars.length + 1), .slice (some ⟨RB, 0, none⟩) rows.length (rows.length + 1), .bool nt, .int .i64 way]]) (by kernel_rfl) (by kernel_rfl) (by kernel_rfl) ?_
   have hdr : Nw wr wr.drew := (Fr.refl _ wr).drew
   have hp0 := (HL1.out.nw hdr).side.pair
   rw [Hbz.out] at hp0
   have hCd := HC.out.nw hdr
   refine (post_prog (nt := nt) (way := way) hp0.at_ hp0.busy (by omega) (by omega) (by omega) (IntsAt.of_blk (HbV.out.nw hdr) 0 vars (fun i hi => by simp [List.getElem?_append_left, hi])) (hCd.rowsAt Hgn.out)).mono ?_
   rintro e wp ⟨r, s', rfl, hAp, hSp, hDid⟩
   have hon := hp0.at_.mem.only
   have hnt : ∀ {q : Nat} {cur : Array Value} {e : TypeId}, Blk wr.drew q cur e → e ∉ ownTys → ¬ d.s.own d.X q := fun hb he ho => he (hon _ _ _ ho hb)
   have hK1 : PBlk wp B0 d #[.slice vo vars.length vcap, .slice ro rows.length rcap, .bool nt, .int .i64 way] := ⟨hK0.k1.fr hSp.fr (hnt hK0.k1 (by decide)), hK0.k2.fr hSp.fr (hnt hK0.k2 (by decide))⟩
   refine ⟨_, rfl, hK1, ?_⟩
   refine value_at (i := 20) (d := some 12) (v := .int .i64 r) (w' := wp) (by kernel_rfl) (by kernel_rfl) (by kernel_rfl) hK1 ?_
   refine wpAnyH_done (by kernel_rfl) ?_ _
   simp only [Act.put, List.setIfInBounds_toArray, List.set_cons_zero, List.set_cons_succ]
   have hsV := HfV.out.size
   have hvv := HVRB.out
   have hs12 := HNV2.out.size
   have hswr := HF.out.size
   have hfresh : ∀ q, w.heap.size ≤ q → ¬ d.s.own d.X q := fun q hq ho => by
    have := H.out.side.lt (.inr (.inl ho))
    omega
   have hCp : Copies wp w2.heap.size RB rows gs := hCd.fr hSp.fr (hfresh RB (by omega)) (fun g hg => hfresh g (by have := hCd.lo g hg; omega))
   have hVp : Blk wp VB (lentC vars) 3 := (HbV.out.nw hdr).fr hSp.fr (hfresh VB (by omega))
   have hOp : Row wp (.slice oo rows.length oc) 22 (lentL rows gs) := (HO.out.nw hdr).fr hSp.fr (fun q hq => hfresh q (by have := HOl.out q hq; omega))
   have hLp : LawAt wp lo B L := (HL1.out.nw hdr).law.fr hSp.fr (fun q hq ho => H.out.apart q hq (.inr (.inl ho)))
   have hWp : Nw W wp := (HL1.out.nw hdr).env.nw.trans hSp.fr (fun i hi => .inr (Nat.le_trans H.out.env.base (H.out.side.pair.xlo i hi)))
   have hRp := hp0.mid hSp (Fr.refl _ _)
   have hszp : wr.heap.size ≤ wp.heap.size := Nat.le_trans hdr.size hSp.fr.size
   have HCp := hd hCp
   have HVp := hd hVp
   have HOp := hd hOp
   have HLp := hd hLp
   have HWp := hd hWp
   have HRp := hd hRp
   have HAp := hd hAp
   have HSp := hd hSp
   have HDid := hd hDid
   have HK1 := hd hK1
   have HwP := hd (show Fr (fun q => d.s.own d.X q) w wp from (((HfV.out.trans HNV.out (fun _ x => x.elim)).trans hdr (fun _ x => x.elim)).mono (fun _ x => x.elim)).trans hSp.fr (fun i hi => .inl hi))
   have hVBw : w.heap.size ≤ VB := by omega
   have hRBw : w.heap.size ≤ RB := by omega
   have hRBp : RB < wp.heap.size := hCp.rb.lt
   have Hgs := hd (show ∀ g ∈ gs, w2.heap.size ≤ g from hCd.lo)
   have Hne := hd hCd.ne
   have HgsL := hd (show ∀ g ∈ gs, g < wr.heap.size from fun g hg => by
    obtain ⟨cur, hb⟩ := HC.out.int hg
    exact hb.lt)
   have HOl2 := hd (show ∀ q, (Value.slice oo rows.length oc).ownBlock = some q → w2.heap.size ≤ q ∧ q < wp.heap.size from fun q hq => ⟨HOl.out q hq, hOp.lt hq⟩)
   obtain ⟨u0, u1, u2, u3, u4⟩ := HT.out wp hK1.k2
   have hRBe : Hid (∀ w', Blk w' RB (rowsC rows gs).toArray 22 → w'.cell? ⟨RB, rows.length, none⟩ = some (.slice none 0 0)) := fun w' hb => by
    rw [hb.cell, List.getElem?_toArray]
    exact rowsC_end rows gs Hgn.out
   clear hCp hVp hOp hLp hWp hRp hAp hSp hDid hK1 hfresh hnt hon hCd hp0 hdr hK0 hVl HC HO HOl HF HL1 HNV2 HNV HbV Hb2 Hb1 Hf1 HvV hdl
   have htl5 : (L.turned.length + 1) * 24 ≤ 140737488355328 := by omega
   have hVBg : VB ∉ gs := fun hg => by
    have := Hgs.out VB hg
    omega
   have hRt : ∀ q, L.tv.ownBlock = some q → q ≠ RB ∧ (Value.slice oo rows.length oc).ownBlock ≠ some q := fun q hq => by
    have h1 := H.out.law.lt q (.inr (.inr (.inr (.inl hq))))
    refine ⟨by omega, fun h2 => ?_⟩
    have := (HOl2.out q h2).1
    omega
   have HVBg := hd hVBg
   have HRt := hd hRt
   have hon5 : Only wp (fun q => q = B ∨ L.tv.ownBlock = some q ∨ q = VB ∨ q ∈ gs) [29, 22, 3] := fun q cur e hq hb => by
    rcases hq with rfl | hq | rfl | hq
    ·rw [(hb.inj HLp.out.blk).2]
     decide
    ·obtain ⟨c2, hb2, _⟩ := HLp.out.keeps.rt.blk hq
     rw [(hb.inj hb2).2]
     decide
    ·rw [(hb.inj HVp.out).2]
     decide
    ·obtain ⟨c2, hb2⟩ := HCp.out.int hq
     rw [(hb.inj hb2).2]
     decide
   have Hon5 := hd hon5
   have HPB := hd (show ∀ w', Fr (fun q => q = B ∨ L.tv.ownBlock = some q ∨ q = VB ∨ q ∈ gs) wp w' → PBlk w' B0 d #[.slice vo vars.length vcap, .slice ro rows.length rcap, .bool nt, .int .i64 way] from fun w' f => ⟨HK1.out.k1.fr f (fun hs => absurd (hon5 _ _ _ hs HK1.out.k1) (by decide)), HK1.out.k2.fr f (fun hs => absurd (hon5 _ _ _ hs HK1.out.k2) (by decide))⟩)
   have HWq := hd (show ∀ w', Fr (fun q => q = B ∨ L.tv.ownBlock = some q ∨ q = VB ∨ q ∈ gs) wp w' → Nw W w' from fun w' f => HWp.out.trans f (fun i hi => .inr (by
    have hb := H.out.env.base
    have he := H.out.env.le
    rcases hi with hi | hi | hi | hi
    ·have := H.out.law.lo i (.inl hi)
     omega
    ·have := H.out.law.lo i (.inr (.inr (.inr (.inl hi))))
     omega
    ·omega
    ·have := Hgs.out i hi
     omega)))
   clear hVBg hRt hon5
   have heqn : ∀ w' : World, (binOp .eql 22 (.slice none 0 0) (.slice none 0 0)).run Tryz.prog w' = .ok (.bool true) w' := fun w' => by kernel_rfl
   go_wp2_with (go_at_call 16; refine (returned_any B VB vo vcap vars L.sv L.nv L.tv L.rv L.turned wp (by omega) HLp.out.blk HLp.out.keeps.rt htl5 HVp.out (Hvs.out.nw HWp.out)).mono ?_; rintro e w5 ⟨rfl, tv5, hf5, hB5, hr5, hg5, hlo5⟩; have HR5 : Hid (Ret wp w5 B RB VB L (.slice oo rows.length oc) rows gs vars 0 tv5) := Ret.first HLp.out HCp.out HOp.out HVp.out HVBg.out HRt.out hf5 hB5 hr5 hg5 hlo5; have HK5 := hd (HPB.out w5 HR5.out.fr); obtain ⟨z0, z1, z2, z3, z4⟩ := HT.out w5 HK5.out.k2; have zR := hRBe.out w5 HR5.out.rb; have zRl := HR5.out.rb.lt; clear hf5 hB5 hr5 hg5 hlo5)
   go_loopw [13, 14, 15, 16] (fun ok i _ _ wq => ∃ (k : Nat) (tv' : Value), k ≤ rows.length ∧ ok = .bool true ∧ i = .int .i64 (k : Int) ∧ Hid (Ret wp wq B RB VB L (.slice oo rows.length oc) rows gs vars k tv')) (fun _ i _ _ _ => rows.length - (intOf i).toNat)
   case atStart => exact ⟨0, tv5, Nat.zero_le _, rfl, rfl, HR5⟩
   case round =>
    rename World => wq
    clear HR5 HK5 z0 z1 z2 z3 z4 zR zRl
    obtain ⟨k, tv', hk, rfl, rfl, HR⟩ := hrel
    obtain ⟨z0, z1, z2, z3, z4⟩ := HT.out wq (HPB.out wq HR.out.fr).k2
    by_cases hlt : k < rows.length
    ·have hdl : (k : Int) < (rows.length : Int) := by omega
     obtain ⟨rb, rof, ra, rac, hre, hrbW, hrcW, hRIW⟩ := Hrs.out k hlt
     have hrowl : (rows.getD k []).length ≤ 1048576 := Hrr.out _ (by rw [getD_of_lt _ _ _ hlt]; exact List.getElem_mem hlt)
     have hkg : k < gs.length := by rw [Hgn.out]; exact hlt
     obtain ⟨og, ocap, hoe, _, hoc, _⟩ := HR.out.own.cell k (by rw [lentL_len]; exact hkg)
     have hoc2 : wq.cell? ⟨og, k, none⟩ = some (lentV (gs.getD k 0) (rows.getD k [])) := by
      rw [hoc]
      have := lentL_get rows gs k hkg
      rw [List.getElem?_eq_getElem (by rw [lentL_len]; exact hkg)] at this
      exact this
     have hRc : wq.cell? ⟨RB, k, none⟩ = some (cutV (gs.getD k 0) (rows.getD k [])) := by
      rw [HR.out.rb.cell, List.getElem?_toArray]
      exact rowsC_get rows gs k hkg
     have hnext := fun w' tv'' => HR.out.next (w' := w') (tv' := tv'') hkg Hne.out HVBg.out HRt.out hRBp (fun q hq => (HOl2.out q hq).2)
     have htodo := HR.out.todo k (Nat.le_refl _) hkg
     have hNWq := HWq.out wq HR.out.fr
     obtain ⟨gk, hgk⟩ : ∃ gk, gs.getD k 0 = gk := ⟨_, rfl⟩
     obtain ⟨row, hrow⟩ : ∃ row, rows.getD k [] = row := ⟨_, rfl⟩
     rw [hgk, hrow] at hoc2 hRc htodo hnext
     rw [hrow] at hrcW hRIW hrowl
     have Hnext := hd hnext
     have Htodo := hd htodo
     have HNWq := hd hNWq
     have HRIW := hd hRIW
     have HrbW := hd hrbW
     have HrcW := hd hrcW
     simp only [Value.slice.injEq] at hoe
     obtain ⟨hoe1, hoe2, hoe3⟩ := hoe
     subst hre
     subst hoe1
     have hrbl : rb < wq.heap.size := Nat.lt_of_lt_of_le hrbW hNWq.size
     have hrc : wq.cell? ⟨rb, rof + k, none⟩ = some (.slice ra row.length rac) := (hNWq.cell hrbW (fun x => x)).trans hrcW
     have cR : wq.cell? ⟨RB, 0 + k, none⟩ = some (.slice (some ⟨gk, 0, none⟩) row.length (row.length + 1)) := by rw [Nat.zero_add]; exact hRc
     have hRl := HR.out.rb.lt
     clear hoe2 hoe3 hoc hgk hrow hnext htodo hNWq hRIW hRc hrcW
     obtain ⟨ob, hob⟩ : ∃ ob, og = ob := ⟨_, rfl⟩
     subst hob
     have cO : wq.cell? ⟨og, 0 + k, none⟩ = some (.slice (some ⟨gk, 0, none⟩) (row.length + 1) (row.length + 1)) := by rw [Nat.zero_add]; exact hoc2
     clear hoc2
     go_wp2_with fail
     have hK0 : Nw wq wq.drew := (Fr.refl _ wq).drew
     refine region_H pstR15 13 (fun w'' => Nw wq w'') (by kernel_rfl) (by kernel_rfl) (by kernel_rfl) ?_
     refine take_at (i := 0) (d := some 95) (v := .slice (some ⟨RB, 0, none⟩) (rows.length + 1) (rows.length + 1)) (by kernel_rfl) (by kernel_rfl) (fun _ _ _ h => h) (fun w'' hS => by kernel_rfl) hK0 ?_
     refine take_at (i := 1) (d := some 96) (v := .int .i64 (k : Int)) (by kernel_rfl) (by kernel_rfl) (fun _ _ _ h => h) (fun w'' hS => by kernel_rfl) hK0 ?_
     refine take_at (i := 2) (d := some 97) (v := .pointer (some ⟨RB, 0 + k, none⟩)) (by kernel_rfl) (by kernel_rfl) (fun _ _ _ h => h) (fun w'' hS => exec_index (i := k) (n := rows.length + 1) (cap := rows.length + 1) 26 22 (.tmp 95) (.tmp 96) (by kernel_rfl) (by kernel_rfl) (by kernel_rfl) (by omega) (by kernel_rfl) (by kernel_rfl)) hK0 ?_
     refine take_at (i := 3) (d := some 98) (v := .slice (some ⟨gk, 0, none⟩) row.length (row.length + 1)) (by kernel_rfl) (by kernel_rfl) (fun _ _ _ h => h) (fun w'' hS => exec_load 22 (.tmp 97) (by kernel_rfl) (by kernel_rfl) (by kernel_rfl) ((hS.cell hRl (fun x => x)).trans cR)) hK0 ?_
     refine take_at (i := 4) (d := some 99) (v := .int .i64 (row.length : Int)) (by kernel_rfl) (by kernel_rfl) (fun _ _ _ h => h) (fun w'' hS => by kernel_rfl) hK0 ?_
     refine take_at (i := 5) (d := some 100) (v := .pointer (some ⟨B0, 1, none⟩)) (by kernel_rfl) (by kernel_rfl) (fun _ _ _ h => h) (fun w'' hS => by kernel_rfl) hK0 ?_
     refine take_at (i := 6) (d := some 101) (v := .slice (some ⟨rb, rof, none⟩) rows.length rcap) (by kernel_rfl) (by kernel_rfl) (fun _ _ _ h => h) (fun w'' hS => exec_load 26 (.tmp 100) (by kernel_rfl) (by kernel_rfl) (by kernel_rfl) ((hS.cell z4 (fun x => x)).trans z1)) hK0 ?_
     refine take_at (i := 7) (d := some 102) (v := .int .i64 (k : Int)) (by kernel_rfl) (by kernel_rfl) (fun _ _ _ h => h) (fun w'' hS => by kernel_rfl) hK0 ?_
     refine take_at (i := 8) (d := some 103) (v := .pointer (some ⟨rb, rof + k, none⟩)) (by kernel_rfl) (by kernel_rfl) (fun _ _ _ h => h) (fun w'' hS => exec_index (i := k) (n := rows.length) (cap := rcap) 26 22 (.tmp 101) (.tmp 102) (by kernel_rfl) (by kernel_rfl) (by kernel_rfl) hlt (by kernel_rfl) (by kernel_rfl)) hK0 ?_
     refine take_at (i := 9) (d := some 104) (v := .slice ra row.length rac) (by kernel_rfl) (by kernel_rfl) (fun _ _ _ h => h) (fun w'' hS => exec_load 22 (.tmp 103) (by kernel_rfl) (by kernel_rfl) (by kernel_rfl) ((hS.cell hrbl (fun x => x)).trans hrc)) hK0 ?_
     refine take_at (i := 10) (d := some 105) (v := .int .i64 (row.length : Int)) (by kernel_rfl) (by kernel_rfl) (fun _ _ _ h => h) (fun w'' hS => by kernel_rfl) hK0 ?_
     refine value_at (i := 11) (d := some 106) (v := .bool true) (w' := wq.drew) (by kernel_rfl) (by kernel_rfl) (exec_eqK (row.length : Int) (row.length : Int) true (.tmp 99) (.tmp 105) (by kernel_rfl) (by kernel_rfl) (by kernel_rfl) (by simp)) hK0 ?_
     refine value_at (i := 12) (d := some 15) (v := .bool true) (w' := wq.drew) (by kernel_rfl) (by kernel_rfl) (by kernel_rfl) hK0 ?_
     refine wpAnyH_done (by kernel_rfl) ?_ _
     simp only [Act.put, List.setIfInBounds_toArray, List.set_cons_zero, List.set_cons_succ]
     clear hK0
     go_wp2_with fail
     obtain ⟨wd, hwd⟩ : ∃ wd, wq.drew.drew = wd := ⟨_, rfl⟩
     have hqd : Nw wq wd := by rw [← hwd]; exact ((Fr.refl _ wq).drew).drew
     have hlenT : (L.turned ++ [lentV VB vars] ++ (lentL rows gs).take k).length = L.turned.length + 1 + k := by
      rw [List.length_append, List.length_append, List.length_take, lentL_len, List.length_singleton]
      omega
     have Hcall := hd (returned_any B gk ra rac row L.sv L.nv tv' L.rv (L.turned ++ [lentV VB vars] ++ (lentL rows gs).take k) wd (by omega) (HR.out.blk.nw hqd) (HR.out.row.nw hqd) (by have := hlenT; omega) (Htodo.out.nw hqd) ((HRIW.out.nw HNWq.out).nw hqd))
     clear hlenT
     have hK2 : wd.cell? ⟨B0, 1, none⟩ = some (.slice (some ⟨rb, rof, none⟩) rows.length rcap) ∧ wd.cell? ⟨og, 0 + k, none⟩ = some (.slice (some ⟨gk, 0, none⟩) (row.length + 1) (row.length + 1)) ∧ wd.cell? ⟨rb, rof + k, none⟩ = some (.slice ra row.length rac) := by
      rw [← hwd]
      exact ⟨z1, cO, hrc⟩
     refine region_H pstR16 12 (fun w'' => w''.cell? ⟨B0, 1, none⟩ = some (.slice (some ⟨rb, rof, none⟩) rows.length rcap) ∧ w''.cell? ⟨og, 0 + k, none⟩ = some (.slice (some ⟨gk, 0, none⟩) (row.length + 1) (row.length + 1)) ∧ w''.cell? ⟨rb, rof + k, none⟩ = some (.slice ra row.length rac)) (by kernel_rfl) (by kernel_rfl) (by kernel_rfl) ?_
     rw [hwd]
     refine take_at (i := 0) (d := some 107) (v := .pointer (some ⟨B, 0, none⟩)) (by kernel_rfl) (by kernel_rfl) (fun _ _ _ h => h) (fun w'' hS => by kernel_rfl) hK2 ?_
     refine take_at (i := 1) (d := some 108) (v := .slice (some ⟨og, 0, none⟩) rows.length oc) (by kernel_rfl) (by kernel_rfl) (fun _ _ _ h => h) (fun w'' hS => by kernel_rfl) hK2 ?_
     refine take_at (i := 2) (d := some 109) (v := .int .i64 (k : Int)) (by kernel_rfl) (by kernel_rfl) (fun _ _ _ h => h) (fun w'' hS => by kernel_rfl) hK2 ?_
     refine take_at (i := 3) (d := some 110) (v := .pointer (some ⟨og, 0 + k, none⟩)) (by kernel_rfl) (by kernel_rfl) (fun _ _ _ h => h) (fun w'' hS => exec_index (i := k) (n := rows.length) (cap := oc) 26 22 (.tmp 108) (.tmp 109) (by kernel_rfl) (by kernel_rfl) (by kernel_rfl) hlt (by kernel_rfl) (by kernel_rfl)) hK2 ?_
     refine take_at (i := 4) (d := some 111) (v := .slice (some ⟨gk, 0, none⟩) (row.length + 1) (row.length + 1)) (by kernel_rfl) (by kernel_rfl) (fun _ _ _ h => h) (fun w'' hS => exec_load 22 (.tmp 110) (by kernel_rfl) (by kernel_rfl) (by kernel_rfl) hS.2.1) hK2 ?_
     refine take_at (i := 5) (d := some 112) (v := .pointer (some ⟨B0, 1, none⟩)) (by kernel_rfl) (by kernel_rfl) (fun _ _ _ h => h) (fun w'' hS => by kernel_rfl) hK2 ?_
     refine take_at (i := 6) (d := some 113) (v := .slice (some ⟨rb, rof, none⟩) rows.length rcap) (by kernel_rfl) (by kernel_rfl) (fun _ _ _ h => h) (fun w'' hS => exec_load 26 (.tmp 112) (by kernel_rfl) (by kernel_rfl) (by kernel_rfl) hS.1) hK2 ?_
     refine take_at (i := 7) (d := some 114) (v := .int .i64 (k : Int)) (by kernel_rfl) (by kernel_rfl) (fun _ _ _ h => h) (fun w'' hS => by kernel_rfl) hK2 ?_
     refine take_at (i := 8) (d := some 115) (v := .pointer (some ⟨rb, rof + k, none⟩)) (by kernel_rfl) (by kernel_rfl) (fun _ _ _ h => h) (fun w'' hS => exec_index (i := k) (n := rows.length) (cap := rcap) 26 22 (.tmp 113) (.tmp 114) (by kernel_rfl) (by kernel_rfl) (by kernel_rfl) hlt (by kernel_rfl) (by kernel_rfl)) hK2 ?_
     refine take_at (i := 9) (d := some 116) (v := .slice ra row.length rac) (by kernel_rfl) (by kernel_rfl) (fun _ _ _ h => h) (fun w'' hS => exec_load 22 (.tmp 115) (by kernel_rfl) (by kernel_rfl) (by kernel_rfl) hS.2.2) hK2 ?_
     refine enter_at (i := 10) (d := some 117) (w' := wd) (f := 16) (args := #[.pointer (some ⟨B, 0, none⟩), .slice (some ⟨gk, 0, none⟩) (row.length + 1) (row.length + 1), .slice ra row.length rac]) (by kernel_rfl) (by kernel_rfl) (by kernel_rfl) ?_
     refine Hcall.out.mono ?_
     rintro e w6 ⟨rfl, tv6, hf6, hB6, hr6, hg6, hlo6⟩
     have hret := Hnext.out w6 tv6 ((hqd.mono (fun _ x => x.elim)).trans hf6 (fun i hi => .inl hi)) hB6 hr6 hg6 (fun q hq => (hlo6 q hq).imp (fun h => h) (fun h => Nat.le_trans hqd.size h))
     have hK6 : w6.cell? ⟨B0, 1, none⟩ = some (.slice (some ⟨rb, rof, none⟩) rows.length rcap) ∧ w6.cell? ⟨og, 0 + k, none⟩ = some (.slice (some ⟨gk, 0, none⟩) (row.length + 1) (row.length + 1)) ∧ w6.cell? ⟨rb, rof + k, none⟩ = some (.slice ra row.length rac) := by
      refine ⟨(HPB.out w6 hret.fr).k2.cell 1, ?_, ((HWq.out w6 hret.fr).cell HrbW.out (fun x => x)).trans HrcW.out⟩
      obtain ⟨g1, c1, he1, _, hc1, _⟩ := hret.own.cell k (by rw [lentL_len]; exact hkg)
      obtain ⟨g2, c2, he2, _, hc2, _⟩ := HR.out.own.cell k (by rw [lentL_len]; exact hkg)
      simp only [Value.slice.injEq, Option.some.injEq, Addr.mk.injEq, and_true] at he1 he2
      rw [Nat.zero_add] at cO ⊢
      rw [← he2.1, cO] at hc2
      rw [he1.1, hc1]
      exact hc2.symm
     refine ⟨_, rfl, hK6, ?_⟩
     refine value_at (i := 11) (d := some 16) (v := .bool true) (w' := w6) (by kernel_rfl) (by kernel_rfl) (by kernel_rfl) hK6 ?_
     refine wpAnyH_done (by kernel_rfl) ?_ _
     simp only [Act.put, List.setIfInBounds_toArray, List.set_cons_zero, List.set_cons_succ]
     have Hret := hd hret
     clear hret hK6 hf6 hB6 hr6 hg6 hlo6 Hcall hK2 hqd hwd cO cR hrc z0 z1 z2 z3 z4
     go_wp2_with fail
     exact ⟨⟨k + 1, tv6, by omega, rfl, by simp, Hret⟩, by simp [intOf]; omega⟩
    ·obtain rfl : rows.length = k := by omega
     have hdl : ¬ ((rows.length : Int) < (rows.length : Int)) := by omega
     have hlR : gs.length ≤ rows.length := by rw [Hgn.out]; exact Nat.le_refl _
     go_wp2_with fail
     go_loopw [17] (fun i wz => ∃ (k : Nat) (cs : List Value), k ≤ rows.length + 1 ∧ i = .int .i64 (k : Int) ∧ Hid (cs.length = rows.length + 1) ∧ Hid (Blk wz RB cs.toArray 22) ∧ Hid (∀ j, j < k → cs[j]? = some (.slice none 0 0)) ∧ Hid (Fr (fun q => q = RB) wq wz)) (fun i _ => rows.length + 1 - (intOf i).toNat)
     case atStart => exact ⟨0, rowsC rows gs, Nat.zero_le _, rfl, rowsC_len rows gs hlR, HR.out.rb, hd (fun j hj => absurd hj (Nat.not_lt_zero _)), Fr.refl _ _⟩
     case round =>
      rename World => wz
      obtain ⟨k, cs, hk, rfl, Hcl, Hcs, Hcn, Hfz⟩ := hrel
      by_cases hlt3 : k < rows.length + 1
      ·have hdl3 : (k : Int) < (rows.length : Int) + 1 := by omega
       obtain ⟨old, hold⟩ : ∃ old, wz.cell? ⟨RB, k, none⟩ = some old := by
        have hkc : k < cs.length := by rw [Hcl.out]; exact hlt3
        exact ⟨cs[k], by rw [Hcs.out.cell, List.getElem?_toArray, List.getElem?_eq_getElem hkc]⟩
       have hRf := Hcs.out.free k
       have hRl3 := Hcs.out.lt
       go_wp2_with fail
       refine ⟨⟨k + 1, cs.set k (.slice none 0 0), by omega, by simp, by rw [List.length_set]; exact Hcl.out, ?_, hd (fun j hj => ?_), hd (Hfz.out.setCell _ _ (.inl rfl))⟩, by simp [intOf]; omega⟩
       ·have := Hcs.out.set k (.slice none 0 0)
        rw [List.setIfInBounds_toArray] at this
        exact this
       ·by_cases e : k = j
        ·subst e
         rw [List.getElem?_set_self (by rw [Hcl.out]; exact hlt3)]
        ·rw [List.getElem?_set_ne e]
         exact Hcn.out j (by omega)
      ·obtain rfl : rows.length + 1 = k := by omega
       have hdl3 : ¬ ((rows.length : Int) + 1 < (rows.length : Int) + 1) := by omega
       have hBR : B ≠ RB := fun e => by
        have h1 := HR.out.rb
        rw [← e] at h1
        exact absurd (h1.inj HR.out.blk).2 (by decide)
       have hBz : Blk wz B #[L.sv, L.nv, tv', L.rv] 29 := HR.out.blk.fr Hfz.out hBR
       have hrvq : Row wq L.rv 26 L.rows := HLp.out.keeps.rr.fr HR.out.fr (fun q hq hs => by
        obtain ⟨c2, hb2, _⟩ := HLp.out.keeps.rr.blk hq
        exact absurd (Hon5.out q c2 _ hs hb2) (by decide))
       have hrvz : Row wz L.rv 26 L.rows := hrvq.fr Hfz.out (fun q hq e => by
        obtain ⟨c2, hb2, _⟩ := hrvq.blk hq
        rw [e] at hb2
        exact absurd (hb2.inj HR.out.rb).2 (by decide))
       obtain ⟨rvo, rvc, hrvf, _⟩ := hrvz.form
       have hBrv : wz.cell? ⟨B, 3, none⟩ = some (.slice rvo L.rows.length rvc) := by
        have := hBz.cell 3
        rw [hrvf] at this
        exact this
       have hPz : PBlk wz B0 d #[.slice vo vars.length vcap, .slice ro rows.length rcap, .bool nt, .int .i64 way] := ⟨(HPB.out wq HR.out.fr).k1.fr Hfz.out (fun e => by
        have h1 := (HPB.out wq HR.out.fr).k1
        rw [e] at h1
        exact absurd (h1.inj HR.out.rb).2 (by decide)), (HPB.out wq HR.out.fr).k2.fr Hfz.out (fun e => by
        have h1 := (HPB.out wq HR.out.fr).k2
        rw [e] at h1
        exact absurd (h1.inj HR.out.rb).2 (by decide))⟩
       have hBzl := hBz.lt
       have HBz := hd hBz
       have Hrvz := hd hrvz
       have HPz := hd hPz
       have Hrvf := hd hrvf
       have hrl24 : (L.rows.length + 1) * 24 ≤ 140737488355328 := by omega
       rw [hrvf] at hrvz
       have Hrvz' := hd hrvz
       clear hBz hrvq hrvz hPz hrvf hBR
       go_wp2_with (at_builtin; refine wpList_append_own_at _ rfl _ _ 27 rfl 0 26 i2 (.slice none 0 0) 1 24 Tryz.underlying27 hi2 hz2a hz2b hz2c rfl (by decide) (.slice rvo L.rows.length rvc) L.rows.length _ rfl (Hrvz'.out.alloc _) ⟨wz.heap.size, 0, none⟩ 1 1 [.slice (some ⟨RB, 0, none⟩) (rows.length + 1) (rows.length + 1)] rfl rfl (cell_one_new _ _ _) (by simp [Value.oneCell']) (by unfold maxLen; omega) hrl24 (Nat.zero_le _) ?_; intro v' w6 hown' hgrow _ hat; obtain ⟨g6, cap6, rfl, hr6, hf6, ha6, hlt6⟩ := app1n rfl hown' hgrow hat; have hB6 := HBz.out.fr hf6 (fun h => by obtain ⟨c2, hb2, _⟩ := Hrvz'.out.blk h; exact absurd (HBz.out.inj hb2).2 (by decide)); have hB6f := hB6.free 3; have hB6c : w6.cell? ⟨B, 3, none⟩ = some (.slice rvo L.rows.length rvc) := (by have := hB6.cell 3; rw [Hrvf.out] at this; exact this); have hP6 : PBlk w6 B0 d #[.slice vo vars.length vcap, .slice ro rows.length rcap, .bool nt, .int .i64 way] := ⟨HPz.out.k1.fr hf6 (fun h => by obtain ⟨c2, hb2, _⟩ := Hrvz'.out.blk h; exact absurd (HPz.out.k1.inj hb2).2 (by decide)), HPz.out.k2.fr hf6 (fun h => by obtain ⟨c2, hb2, _⟩ := Hrvz'.out.blk h; exact absurd (HPz.out.k2.inj hb2).2 (by decide))⟩; have hDB : d.D ≠ B := (fun e => by have h1 := hP6.k1; rw [e] at h1; exact absurd (h1.inj hB6).2 (by decide)); have hB0B : B0 ≠ B := (fun e => by have h1 := hP6.k2; rw [e] at h1; exact absurd (h1.inj hB6).2 (by decide)); have hDc : w6.cell? ⟨d.D, 2, none⟩ = some (.bool false) := (hP6.k1.cell 2).trans (by rw [← Hbz.out]; rfl); have hDl6 := hP6.k1.lt; have HB6 := hd hB6; have HP6 := hd hP6; have Hr6 := hd hr6; have Hf6 := hd hf6; have Ha6 := hd ha6; clear hown' hgrow hat hr6 hf6 ha6 hlt6 hB6 hP6)
       obtain ⟨w7, hw7⟩ : ∃ w7, w6.setCell ⟨B, 3, none⟩ (.slice (some ⟨g6, 0, none⟩) (L.rows.length + 1) cap6) = w7 := ⟨_, rfl⟩
       have hfs : Fr (fun q => q = B) w6 w7 := by rw [← hw7]; exact (Fr.refl (fun q => q = B) w6).setCell _ _ (.inl rfl)
       rw [hw7]
       have hP7 : PBlk w7 B0 d #[.slice vo vars.length vcap, .slice ro rows.length rcap, .bool nt, .int .i64 way] := ⟨HP6.out.k1.fr hfs hDB, HP6.out.k2.fr hfs hB0B⟩
       have hRBwp := HCp.out.rb.lt
       have hrv6 : ∀ {q : Nat} {cur : Array Value} {e : TypeId}, Blk wz q cur e → e ≠ 26 → ¬ (Value.slice rvo L.rows.length rvc).ownBlock = some q := fun hb he h => by
        obtain ⟨c2, hb2, _⟩ := Hrvz'.out.blk h
        exact he (hb.inj hb2).2
       have hB6' : ∀ {q : Nat} {cur : Array Value} {e : TypeId}, Blk w6 q cur e → e ≠ 29 → ¬ q = B := fun hb he h => by
        rw [h] at hb
        exact he (hb.inj HB6.out).2
       have keep67 : ∀ {q : Nat} {cur : Array Value} {e : TypeId}, Blk wz q cur e → e ≠ 26 → e ≠ 29 → Blk w7 q cur e := fun hb h1 h2 => (hb.fr Hf6.out (hrv6 hb h1)).fr hfs (hB6' (hb.fr Hf6.out (hrv6 hb h1)) h2)
       have hRBq := HR.out.rb
       have keepz : ∀ {q : Nat} {cur : Array Value} {e : TypeId}, Blk wq q cur e → e ≠ 22 → Blk wz q cur e := fun hb he => hb.fr Hfz.out (fun h => by
        rw [h] at hb
        exact he (hb.inj hRBq).2)
       have hend : PEnd w wp w7 B RB VB wr.heap.size L rows gs vars tv' (.slice (some ⟨g6, 0, none⟩) (L.rows.length + 1) cap6) cs := by
        refine ⟨?_, ?_, ?_, ?_, keep67 Hcs.out (by decide) (by decide), Hcl.out, Hcn.out, keep67 (keepz HR.out.vb (by decide)) (by decide) (by decide), fun j hj => keep67 (keepz (HR.out.done j (by rw [← Hgn.out]; exact hj)) (by decide)) (by decide) (by decide), HR.out.grow, fun q hq => ?_, ?_, ?_, fun g hg => ?_, ?_, ?_⟩
        ·refine (((HR.out.fr.mono (fun q hq => .inl ?_)).trans Hfz.out (fun q hq => .inl (.inr (.inr (.inr (.inr (.inr hq))))))).trans Hf6.out (fun q hq => .inl (.inr (.inr (.inl (by rw [Hrvf.out]; exact hq)))))).trans hfs (fun q hq => .inl (.inl hq))
         rcases hq with hq | hq | hq | hq
         ·exact .inl hq
         ·exact .inr (.inl hq)
         ·exact .inr (.inr (.inr (.inl hq)))
         ·exact .inr (.inr (.inr (.inr (.inl hq))))
        ·rw [← hw7]
         have := HB6.out.set 3 (.slice (some ⟨g6, 0, none⟩) (L.rows.length + 1) cap6)
         simpa using this
        ·have h1 := HR.out.row
         rw [List.take_of_length_le (by rw [lentL_len, Hgn.out]; exact Nat.le_refl _)] at h1
         have h2 := h1.fr Hfz.out (fun q hq e => by
          rcases HR.out.grow q hq with h3 | h3
          ·exact (HRt.out q h3).1 e
          ·omega)
         have h3 := h2.fr Hf6.out (fun q hq => by
          obtain ⟨c2, hb2, _⟩ := h2.blk hq
          exact hrv6 hb2 (by decide))
         exact h3.fr hfs (fun q hq => by
          obtain ⟨c2, hb2, _⟩ := h3.blk hq
          exact hB6' hb2 (by decide))
        ·exact Hr6.out.fr hfs (fun q hq => by
          obtain ⟨c2, hb2, _⟩ := Hr6.out.blk hq
          exact hB6' hb2 (by decide))
        ·cases hq
         rcases Ha6.out with h | h
         ·exact .inl (by rw [Hrvf.out]; exact h)
         ·right
          have h1 := HR.out.fr.size
          have h2 := Hfz.out.size
          show wp.heap.size ≤ g6
          omega
        ·exact ⟨hVBw, by omega⟩
        ·exact ⟨hRBw, hRBl1⟩
        ·refine ⟨by have := Hgs.out g hg; omega, ?_⟩
         exact HgsL.out g hg
        ·exact ⟨by omega, hszp⟩
        ·intro q cur e hq hb
         rcases hq with hq | hq | hq | hq | hq | hq
         ·exact List.mem_append_left [26] (Hon5.out q cur e (.inl hq) hb)
         ·exact List.mem_append_left [26] (Hon5.out q cur e (.inr (.inl hq)) hb)
         ·obtain ⟨c2, hb2, _⟩ := HLp.out.keeps.rr.blk hq
          rw [(hb.inj hb2).2]
          decide
         ·exact List.mem_append_left [26] (Hon5.out q cur e (.inr (.inr (.inl hq))) hb)
         ·exact List.mem_append_left [26] (Hon5.out q cur e (.inr (.inr (.inr hq))) hb)
         ·rw [hq] at hb
          rw [(hb.inj HCp.out.rb).2]
          decide
       have hL7 := hend.law H.out.law HLp.out H.out.env.le Hgn.out hvl hrl Hrr.out htl hrw
       obtain ⟨hR7, hW7⟩ := hend.ref H.out HRp.out HWp.out
       obtain ⟨w8, hw8⟩ : ∃ w8, w7.drew = w8 := ⟨_, rfl⟩
       have h78 : Nw w7 w8 := by rw [← hw8]; exact (Fr.refl _ w7).drew
       have hlw8 : lo ≤ w8.heap.size := by
        have h0 := H.out.env.le
        have h1 := hend.n4
        have h2 := hend.fr.size
        have h3 := h78.size
        omega
       have Hpd := hd (post_doc (vcap := vcap) (rcap := rcap) H.out.env.base hlw8 (hW7.trans h78 (fun _ x => x.elim)) (hR7.nw h78) H.out.side.pair.at_.mem.fits.1 H.out.side.pair.now H.out.side.pair.tabs H.out.side.pair.levs (by omega) (by omega) Hvs.out Hrs.out HDid.out)
       have hK7 : PBlk w8 B0 d #[.slice vo vars.length vcap, .slice ro rows.length rcap, .bool nt, .int .i64 way] := ⟨hP7.k1.nw h78, hP7.k2.nw h78⟩
       have Hend := hd hend
       have HL7 := hd hL7
       have H78 := hd h78
       refine region_H pstR25 13 (fun w'' => PBlk w'' B0 d #[.slice vo vars.length vcap, .slice ro rows.length rcap, .bool nt, .int .i64 way]) (by kernel_rfl) (by kernel_rfl) (by kernel_rfl) ?_
       rw [hw8]
       refine take_at (i := 0) (d := some 153) (v := .bool true) (by kernel_rfl) (by kernel_rfl) (fun _ _ _ h => h) (fun w'' hS => by kernel_rfl) hK7 ?_
       refine take_at (i := 1) (d := some 154) (v := .bool true) (by kernel_rfl) (by kernel_rfl) (fun _ _ _ h => h) (fun w'' hS => by kernel_rfl) hK7 ?_
       refine take_at (i := 2) (d := some 155) (v := .pointer (some ⟨d.D, 0, none⟩)) (by kernel_rfl) (by kernel_rfl) (fun _ _ _ h => h) (fun w'' hS => by kernel_rfl) hK7 ?_
       refine take_at (i := 3) (d := some 156) (v := .int .i64 r) (by kernel_rfl) (by kernel_rfl) (fun _ _ _ h => h) (fun w'' hS => by kernel_rfl) hK7 ?_
       refine take_at (i := 4) (d := some 157) (v := .pointer (some ⟨d.D, 0, none⟩)) (by kernel_rfl) (by kernel_rfl) (fun _ _ _ h => h) (fun w'' hS => by kernel_rfl) hK7 ?_
       refine take_at (i := 5) (d := some 158) (v := .pointer (some ⟨d.D, 0, none⟩)) (by kernel_rfl) (by kernel_rfl) (fun _ _ _ h => h) (fun w'' hS => by kernel_rfl) hK7 ?_
       refine take_at (i := 6) (d := some 159) (v := .pointer (some ⟨d.D, 1, none⟩)) (by kernel_rfl) (by kernel_rfl) (fun _ _ _ h => h) (fun w'' hS => by kernel_rfl) hK7 ?_
       refine take_at (i := 7) (d := some 160) (v := .pointer (some ⟨d.Y, 0, none⟩)) (by kernel_rfl) (by kernel_rfl) (fun _ _ _ h => h) (fun w'' hS => exec_load 46 (.tmp 159) (by kernel_rfl) (by kernel_rfl) (by kernel_rfl) (hS.k1.cell 1)) hK7 ?_
       refine take_at (i := 8) (d := some 161) (v := .agg #[.slice vo vars.length vcap, .slice ro rows.length rcap, .bool nt, .int .i64 way]) (by kernel_rfl) (by kernel_rfl) (fun _ _ _ h => h) (fun w'' hS => exec_load4 41 (.tmp 5) (by kernel_rfl) (by kernel_rfl) (by kernel_rfl) (by kernel_rfl) (hS.k2.cell 0) (hS.k2.cell 1) (hS.k2.cell 2) (hS.k2.cell 3)) hK7 ?_
       refine enter_at (i := 9) (d := some 162) (w' := w8) (f := 79) (args := #[.pointer (some ⟨d.Y, 0, none⟩), .agg #[.slice vo vars.length vcap, .slice ro rows.length rcap, .bool nt, .int .i64 way]]) (by kernel_rfl) (by kernel_rfl) (by kernel_rfl) ?_
       refine Hpd.out.mono ?_
       rintro e w9 ⟨rfl, R', j1, j2, j3, j4, j5, j6, j7⟩
       have hfinal := Hend.out.fin (wd := wr.drew) H.out (Nat.le_trans hsV (Nat.le_trans hs12 hswr)) (Nat.le_refl _) HL7.out HwP.out HAp.out HSp.out HRp.out HK1.out.k1 H78.out j1 j2 j3 j4 j5 j6 j7 (by rw [HDid.out.busy]; exact H.out.side.pair.busy)
       have hK9 : PBlk w9 B0 d #[.slice vo vars.length vcap, .slice ro rows.length rcap, .bool nt, .int .i64 way] := ⟨hfinal.1.side.blk, hK7.k2.fr j2 (fun hw => by
        have := H.out.side.lt (.inr (.inr (.inl hw)))
        have := HB0.out
        omega)⟩
       refine ⟨_, rfl, hK9, ?_⟩
       refine enter_at (i := 10) (d := some 163) (w' := w9) (f := 57) (args := #[.pointer (some ⟨d.D, 0, none⟩), .int .i64 r, .int .i64 r]) (by kernel_rfl) (by kernel_rfl) (by kernel_rfl) ?_
       refine (answer_any _ r w9).mono ?_
       rintro e w10 ⟨rfl, rfl⟩
       refine ⟨_, rfl, hK9, ?_⟩
       refine value_at (i := 11) (d := some 164) (v := .bool true) (w' := w10) (by kernel_rfl) (by kernel_rfl) (by kernel_rfl) hK9 ?_
       refine value_at (i := 12) (d := some 6) (v := .bool true) (w' := w10) (by kernel_rfl) (by kernel_rfl) (by kernel_rfl) hK9 ?_
       refine wpAnyH_done (by kernel_rfl) ?_ _
       simp only [Act.put, List.setIfInBounds_toArray, List.set_cons_zero, List.set_cons_succ]
       have Hfinal := hd hfinal
       clear hfinal hK9 j1 j2 j3 j4 j5 j6 j7 hK7 Hpd hL7 hR7 hW7 hend keepz keep67 hB6' hrv6 hP7 hfs hw7 hw8 h78
       go_wp2_with fail
       go_ret
       refine ⟨rfl, _, _, Hfinal.out.1, Hfinal.out.2, rfl, ?_, ?_⟩
       ·show (L.turned ++ ([lentV VB vars] ++ lentL rows gs)).length = _
        rw [List.length_append, List.length_append, lentL_len, List.length_singleton, Hgn.out]
        omega
       ·show (L.rows ++ [_]).length = _
        rw [List.length_append]
        rfl
end Go.Proofs.YtkjfpdfkcfgfkaaGreat

namespace Go.Proofs.YtkjfpdfkcfgfkaaGreat
open Go.RowKit

structure Cost (L L' : LW) (n : Nat) : Prop where
 a : L'.nums.length ≤ L.nums.length + 4
 b : L'.turned.length ≤ L.turned.length + 1 + n
 c : L'.rows.length ≤ L.rows.length + 1
structure OpOk (W : World) (o : OpV) : Prop where
 vs : IntsAt W o.vo o.vars
 rs : RowsAt W o.ro o.rows
 vl : o.vars.length ≤ 1048576
 rl : o.rows.length ≤ 1048576
 rr : ∀ r ∈ o.rows, r.length ≤ 1048576
structure LRoom (L : LW) : Prop where
 n : L.nums.length ≤ 8388608
 t : L.turned.length ≤ 8388608
 r : L.rows.length ≤ 8388608
 four : L.nums.length % 4 = 0
def PlainPost (W w : World) (lo B : Nat) (L : LW) (d : Sd) (n : Nat) (e : Ending) (w' : World) : Prop := e = .returned (.bool true) ∧ ∃ L' d', LS W w' lo B L' d' ∧ LStep w w' B L L' d d' ∧ Cost L L' n
theorem PlainPost.same {W w w' : World} {lo B : Nat} {L : LW} {d : Sd} {n : Nat} (h : LS W w lo B L d) (f : Nw w w') : PlainPost W w lo B L d n (.returned (.bool true)) w' := ⟨rfl, L, d, h.nw f, LStep.nw f B L d, by omega, by omega, by omega⟩

theorem results_cellK {fn : Func} {p : Tmp} {ty : TypeId} {tmps : Array Value} {w : World} {b off : Nat} {v : Value} (h : fn.results = #[.cell p ty]) (hp : tmps.getD p undef = .pointer (some ⟨b, off, none⟩)) (hag : (isAgg ty).run Tryz.prog w = .ok false w) (hc : w.cell? ⟨b, off, none⟩ = some v) : (results fn tmps).run Tryz.prog w = .ok v w := by
 have hp' : tmps[p]?.getD undef = .pointer (some ⟨b, off, none⟩) := by simpa using hp
 have hl : (Sem.load Mode.plain (⟨b, off, none⟩ : Addr) Sem.pure).run Tryz.prog w = .ok v w := by
  unfold Sem.run
  rw [hc]
  rfl
 simp [results, h, hp', asAddr, loadVar, hag, hl, Result.andThen, load]
theorem PlainPost.box {W w V w1 : World} {lo B rb : Nat} {L L' : LW} {d d' : Sd} {n : Nat} {cur : Array Value} (h : LS W w lo B L d) (hf : Nw w V) (hrb : w.heap.size ≤ rb) (hb : Blk V rb cur 4) (h1 : LS W w1 lo B L' d') (hs : LStep V w1 B L L' d d') (hc : Cost L L' n) : Blk w1 rb cur 4 ∧ PlainPost W w lo B L d n (.returned (.bool true)) (w1.setCell ⟨rb, 0, none⟩ (.bool true)) := by
 have hVl := hb.lt
 have hno : ¬ (L.own B rb ∨ d.own rb) := fun ho => by
  rcases ho with ho | ho
  ·have := h.law.lt rb ho
   omega
  ·have := h.side.lt ho
   omega
 have hb1 := hb.fr hs.fr hno
 have hL1 : ¬ L'.own B rb := fun ho => by
  rcases hs.growL rb ho with h2 | h2
  ·exact hno (.inl h2)
  ·omega
 have hd1 : ¬ d'.own rb := fun ho => by
  rcases hs.growD rb ho with h2 | h2
  ·exact hno (.inr h2)
  ·omega
 have hfs : Fr (fun k => k = rb) w1 (w1.setCell ⟨rb, 0, none⟩ (.bool true)) := (Fr.refl (fun k => k = rb) w1).setCell _ _ (.inl rfl)
 have hlw := h.env.le
 have hlb := h.env.base
 have hsz := hf.size
 refine ⟨hb1, rfl, L', d', ⟨⟨hlb, h1.env.nw.trans hfs (fun i hi => .inr (by omega)), Nat.le_trans h1.env.le hfs.size⟩, h1.law.fr hfs (fun k hk e => hL1 (by rw [← e]; exact hk)), h1.side.fr hfs (fun k hk e => hd1 (by rw [← e]; exact hk)) (Only.one hb1) (by decide), h1.apart⟩, ⟨((hf.mono (fun _ x => x.elim)).trans hs.fr (fun i hi => .inl hi)).trans hfs (fun i hi => .inr (by omega)), fun k hk => ?_, fun k hk => ?_, hs.ss, hs.dd, hs.zs, hs.bz, hs.sq, hs.four⟩, hc⟩
 ·rcases hs.growL k hk with h2 | h2
  ·exact .inl h2
  ·exact .inr (by omega)
 ·rcases hs.growD k hk with h2 | h2
  ·exact .inl h2
  ·exact .inr (by omega)
structure PlAt (w V : World) (b0 rb : Nat) (o : OpV) : Prop where
 nw : Nw w V
 k0 : Blk V b0 o.cells 54
 k1 : Blk V rb #[.bool false] 4
 lo : w.heap.size ≤ rb
theorem PlAt.new (w : World) (o : OpV) : PlAt w ((w.alloc (.cells o.cells 54)).alloc (.cells #[.bool false] 4)) w.heap.size (w.heap.size + 1) o := by
 have h1 : Blk (w.alloc (.cells o.cells 54)) w.heap.size o.cells 54 := Blk.new _ _ _
 have h2 := Blk.new (w.alloc (.cells o.cells 54)) #[.bool false] 4
 have hs : (w.alloc (.cells o.cells 54)).heap.size = w.heap.size + 1 := by simp
 rw [hs] at h2
 exact ⟨((Fr.refl _ w).alloc _).alloc _, h1.alloc _, h2, by omega⟩

set_option maxHeartbeats 1600000 in
set_option maxRecDepth 1000000 in
theorem plain_post (W : World) (lo B : Nat) (L : LW) (d : Sd) (o : OpV) (w : World) (h : LS W w lo B L d) (hbz : d.bz = false) (hk : o.kind = 1) (ho : OpOk W o) (hr : LRoom L) :
  Calls Tryz.prog 35 #[.pointer (some ⟨B, 0, none⟩), .pointer (some ⟨d.D, 0, none⟩), .agg o.cells] w (PlainPost W w lo B L d o.rows.length) := by
 obtain ⟨b0, hb0⟩ : ∃ b0, b0 = w.heap.size := ⟨_, rfl⟩
 obtain ⟨rb, hrb⟩ : ∃ rb, rb = w.heap.size + 1 := ⟨_, rfl⟩
 obtain ⟨V, hV⟩ : ∃ V, V = (w.alloc (.cells o.cells 54)).alloc (.cells #[.bool false] 4) := ⟨_, rfl⟩
 have hP : PlAt w V b0 rb o := by rw [hV, hb0, hrb]; exact PlAt.new w o
 have hLV := h.nw hP.nw
 obtain ⟨kk, hkk⟩ : ∃ kk, o.kind = kk := ⟨_, rfl⟩
 have c0 : V.cell? ⟨b0, 0, none⟩ = some (.int .i64 kk) := (hP.k0.cell 0).trans (by rw [← hkk]; rfl)
 have Hc1 := hd (show V.cell? ⟨b0, 1, none⟩ = some (.int .i64 o.a) from hP.k0.cell 1)
 have hbl := hP.k0.lt
 have hrl := hP.k1.lt
 have HP := hd hP
 have H := hd h
 have HV := hd hLV
 have Hbz := hd hbz
 obtain ⟨PP, hPP⟩ : ∃ PP, PP = PlainPost W w lo B L d o.rows.length := ⟨_, rfl⟩
 have c3 : V.cell? ⟨b0, 3, none⟩ = some (.slice o.vo o.vars.length o.vcap) := hP.k0.cell 3
 have c4 : V.cell? ⟨b0, 4, none⟩ = some (.slice o.ro o.rows.length o.rcap) := hP.k0.cell 4
 have c5 : V.cell? ⟨b0, 5, none⟩ = some (.bool o.nt) := hP.k0.cell 5
 have c6 : V.cell? ⟨b0, 6, none⟩ = some (.int .i64 o.way) := hP.k0.cell 6
 obtain rfl : kk = 1 := by rw [← hkk]; exact hk
 clear hkk hk
 rw [← hPP]
 have HPP := hd hPP
 clear h hP hLV hbz hPP
 go_enter Tryz.func35, Tryz.ntmps35
 go_upto_region 1 with fail
 rw [← hV, ← hrb, ← hb0]
 clear hV hb0 hrb
 go_wp2_with (go_at_call 53; refine (posts_any W lo B L d o.vo o.ro o.vcap o.rcap o.vars o.rows o.nt o.way V HV.out Hbz.out ho.vs ho.rs ho.vl ho.rl ho.rr hr.t hr.r).mono ?_; rintro e w1 ⟨rfl, L', d', h1, h2, h3, h4, h5⟩; obtain ⟨hb1, hfin⟩ := PlainPost.box (n := o.rows.length) H.out HP.out.nw HP.out.lo HP.out.k1 h1 h2 ⟨by rw [h3]; omega, by omega, by omega⟩; have hf1 := hb1.free 0; have hcl1 : w1.cell? ⟨rb, 0, none⟩ = some (.bool false) := hb1.cell 0; have hrl1 := hb1.lt; have Hcs := hd (show (w1.setCell ⟨rb, 0, none⟩ (.bool true)).cell? ⟨rb, 0, none⟩ = some (.bool true) from (hb1.set 0 (.bool true)).cell 0); have Hfin := hd hfin; clear hb1 hfin)
 refine bodyPost_ret (results_cellK (v := .bool true) (b := rb) (off := 0) rfl rfl (by kernel_rfl) Hcs.out) rfl ?_
 rw [HPP.out]
 exact Hfin.out

theorem domains_any (W : World) (lo B : Nat) (L : LW) (d : Sd) (v : Int) (w : World) (h : LS W w lo B L d) (hbz : d.bz = false) (hr : LRoom L) :
  Calls Tryz.prog 36 #[.pointer (some ⟨B, 0, none⟩), .pointer (some ⟨d.D, 0, none⟩), .int .i64 v] w fun e w' => e = .returned (.bool true) ∧ ∃ L', LS W w' lo B L' d ∧ LStep w w' B L L' d d ∧ (∀ n, Cost L L' n) ∧ L'.turned = L.turned ∧ L'.rows = L.rows := by
 by_cases hv : 0 ≤ v ∧ v < d.zs.length
 ·obtain ⟨v, rfl⟩ : ∃ v' : Nat, v = (v' : Int) := ⟨v.toNat, by omega⟩
  refine (domains_ok W lo B L d v w h hbz (by omega) hr.n hr.four).mono ?_
  rintro e w' ⟨rfl, L', h1, h2, h3, h4, h5⟩
  exact ⟨rfl, L', h1, h2, fun n => ⟨by omega, by rw [h4]; omega, by rw [h5]; omega⟩, h4, h5⟩
 ·refine (domains_arg W lo B L d v w h hbz hv).mono ?_
  rintro e w' ⟨rfl, rfl⟩
  exact ⟨rfl, L, h, LStep.nw (Fr.refl _ _) B L d, fun n => ⟨by omega, by omega, by omega⟩, rfl, rfl⟩

set_option maxHeartbeats 1600000 in
set_option maxRecDepth 1000000 in
theorem plain_domain (W : World) (lo B : Nat) (L : LW) (d : Sd) (o : OpV) (w : World) (h : LS W w lo B L d) (hbz : d.bz = false) (hk : o.kind = 4) (hr : LRoom L) :
  Calls Tryz.prog 35 #[.pointer (some ⟨B, 0, none⟩), .pointer (some ⟨d.D, 0, none⟩), .agg o.cells] w (PlainPost W w lo B L d o.rows.length) := by
 obtain ⟨b0, hb0⟩ : ∃ b0, b0 = w.heap.size := ⟨_, rfl⟩
 obtain ⟨rb, hrb⟩ : ∃ rb, rb = w.heap.size + 1 := ⟨_, rfl⟩
 obtain ⟨V, hV⟩ : ∃ V, V = (w.alloc (.cells o.cells 54)).alloc (.cells #[.bool false] 4) := ⟨_, rfl⟩
 have hP : PlAt w V b0 rb o := by rw [hV, hb0, hrb]; exact PlAt.new w o
 have hLV := h.nw hP.nw
 obtain ⟨kk, hkk⟩ : ∃ kk, o.kind = kk := ⟨_, rfl⟩
 have c0 : V.cell? ⟨b0, 0, none⟩ = some (.int .i64 kk) := (hP.k0.cell 0).trans (by rw [← hkk]; rfl)
 have Hc1 := hd (show V.cell? ⟨b0, 1, none⟩ = some (.int .i64 o.a) from hP.k0.cell 1)
 have hbl := hP.k0.lt
 have hrl := hP.k1.lt
 have HP := hd hP
 have H := hd h
 have HV := hd hLV
 have Hbz := hd hbz
 obtain ⟨PP, hPP⟩ : ∃ PP, PP = PlainPost W w lo B L d o.rows.length := ⟨_, rfl⟩
 obtain rfl : kk = 4 := by rw [← hkk]; exact hk
 have c1 := Hc1.out
 clear hkk hk
 rw [← hPP]
 have HPP := hd hPP
 clear h hP hLV hbz hPP
 go_enter Tryz.func35, Tryz.ntmps35
 go_upto_region 1 with fail
 rw [← hV, ← hrb, ← hb0]
 clear hV hb0 hrb
 go_wp2_with (go_at_call 36; refine (domains_any W lo B L d o.a V HV.out Hbz.out hr).mono ?_; rintro e w1 ⟨rfl, L', h1, h2, h3, _⟩; obtain ⟨hb1, hfin⟩ := PlainPost.box (n := o.rows.length) H.out HP.out.nw HP.out.lo HP.out.k1 h1 h2 (h3 o.rows.length); have hf1 := hb1.free 0; have hcl1 : w1.cell? ⟨rb, 0, none⟩ = some (.bool false) := hb1.cell 0; have hrl1 := hb1.lt; have Hcs := hd (show (w1.setCell ⟨rb, 0, none⟩ (.bool true)).cell? ⟨rb, 0, none⟩ = some (.bool true) from (hb1.set 0 (.bool true)).cell 0); have Hfin := hd hfin; clear hb1 hfin)
 refine bodyPost_ret (results_cellK (v := .bool true) (b := rb) (off := 0) rfl rfl (by kernel_rfl) Hcs.out) rfl ?_
 rw [HPP.out]
 exact Hfin.out

set_option maxHeartbeats 1600000 in
set_option maxRecDepth 1000000 in
theorem plain_fix (W : World) (lo B : Nat) (L : LW) (d : Sd) (a b : Int) (vo : Option Addr) (vcap : Nat) (ro : Option Addr) (rcap : Nat) (vars : List Int) (rows : List (List Int)) (nt : Bool) (way : Int) (which : Bool) (fv mv : Value) (w : World) (h : LS W w lo B L d) (hbz : d.bz = false) :
  Calls Tryz.prog 35 #[.pointer (some ⟨B, 0, none⟩), .pointer (some ⟨d.D, 0, none⟩), .agg #[.int .i64 2, .int .i64 a, .int .i64 b, .slice vo vars.length vcap, .slice ro rows.length rcap, .bool nt, .int .i64 way, .bool which, fv, mv]] w (PlainPost W w lo B L d rows.length) := by
 obtain ⟨b0, hb0⟩ : ∃ b0, b0 = w.heap.size := ⟨_, rfl⟩
 obtain ⟨rb, hrb⟩ : ∃ rb, rb = w.heap.size + 1 := ⟨_, rfl⟩
 obtain ⟨V, hV⟩ : ∃ V, V = (w.alloc (.cells #[.int .i64 2, .int .i64 a, .int .i64 b, .slice vo vars.length vcap, .slice ro rows.length rcap, .bool nt, .int .i64 way, .bool which, fv, mv] 54)).alloc (.cells #[.bool false] 4) := ⟨_, rfl⟩
 have hP : PlAt w V b0 rb ⟨2, a, b, vo, vcap, ro, rcap, vars, rows, nt, way, which, fv, mv⟩ := by rw [hV, hb0, hrb]; exact PlAt.new w ⟨2, a, b, vo, vcap, ro, rcap, vars, rows, nt, way, which, fv, mv⟩
 have hLV := h.nw hP.nw
 have c0 : V.cell? ⟨b0, 0, none⟩ = some (.int .i64 2) := hP.k0.cell 0
 have c1 : V.cell? ⟨b0, 1, none⟩ = some (.int .i64 a) := hP.k0.cell 1
 have c2 : V.cell? ⟨b0, 2, none⟩ = some (.int .i64 b) := hP.k0.cell 2
 have c3 : V.cell? ⟨b0, 3, none⟩ = some (.slice vo vars.length vcap) := hP.k0.cell 3
 have c4 : V.cell? ⟨b0, 4, none⟩ = some (.slice ro rows.length rcap) := hP.k0.cell 4
 have c5 : V.cell? ⟨b0, 5, none⟩ = some (.bool nt) := hP.k0.cell 5
 have c6 : V.cell? ⟨b0, 6, none⟩ = some (.int .i64 way) := hP.k0.cell 6
 have c7 : V.cell? ⟨b0, 7, none⟩ = some (.bool which) := hP.k0.cell 7
 have c8 : V.cell? ⟨b0, 8, none⟩ = some fv := hP.k0.cell 8
 have c9 : V.cell? ⟨b0, 9, none⟩ = some mv := hP.k0.cell 9
 have hbl := hP.k0.lt
 have hrl := hP.k1.lt
 have HP := hd hP
 have H := hd h
 have HV := hd hLV
 have Hcall := hd (changes_fix W lo B L d ⟨2, a, b, vo, vcap, ro, rcap, vars, rows, nt, way, which, fv, mv⟩ V hLV hbz rfl)
 obtain ⟨PP, hPP⟩ : ∃ PP, PP = PlainPost W w lo B L d rows.length := ⟨_, rfl⟩
 rw [← hPP]
 have HPP := hd hPP
 clear h hP hLV hbz hPP
 go_enter Tryz.func35, Tryz.ntmps35
 go_upto_region 1 with fail
 rw [← hV, ← hrb, ← hb0]
 clear hV hb0 hrb
 go_wp2_with (go_at_call 38; refine Hcall.out.mono ?_; rintro e w1 ⟨rfl, d', h1, h2⟩; obtain ⟨hb1, hfin⟩ := PlainPost.box (n := rows.length) H.out HP.out.nw HP.out.lo HP.out.k1 h1 h2 ⟨by omega, by omega, by omega⟩; have hf1 := hb1.free 0; have hcl1 : w1.cell? ⟨rb, 0, none⟩ = some (.bool false) := hb1.cell 0; have hrl1 := hb1.lt; have Hcs := hd (show (w1.setCell ⟨rb, 0, none⟩ (.bool true)).cell? ⟨rb, 0, none⟩ = some (.bool true) from (hb1.set 0 (.bool true)).cell 0); have Hfin := hd hfin; clear hb1 hfin)
 refine bodyPost_ret (results_cellK (v := .bool true) (b := rb) (off := 0) rfl rfl (by kernel_rfl) Hcs.out) rfl ?_
 rw [HPP.out]
 exact Hfin.out

set_option maxHeartbeats 1600000 in
set_option maxRecDepth 1000000 in
theorem plain_remove (W : World) (lo B : Nat) (L : LW) (d : Sd) (a b : Int) (vo : Option Addr) (vcap : Nat) (ro : Option Addr) (rcap : Nat) (vars : List Int) (rows : List (List Int)) (nt : Bool) (way : Int) (which : Bool) (fv mv : Value) (w : World) (h : LS W w lo B L d) (hbz : d.bz = false) :
  Calls Tryz.prog 35 #[.pointer (some ⟨B, 0, none⟩), .pointer (some ⟨d.D, 0, none⟩), .agg #[.int .i64 3, .int .i64 a, .int .i64 b, .slice vo vars.length vcap, .slice ro rows.length rcap, .bool nt, .int .i64 way, .bool which, fv, mv]] w (PlainPost W w lo B L d rows.length) := by
 obtain ⟨b0, hb0⟩ : ∃ b0, b0 = w.heap.size := ⟨_, rfl⟩
 obtain ⟨rb, hrb⟩ : ∃ rb, rb = w.heap.size + 1 := ⟨_, rfl⟩
 obtain ⟨V, hV⟩ : ∃ V, V = (w.alloc (.cells #[.int .i64 3, .int .i64 a, .int .i64 b, .slice vo vars.length vcap, .slice ro rows.length rcap, .bool nt, .int .i64 way, .bool which, fv, mv] 54)).alloc (.cells #[.bool false] 4) := ⟨_, rfl⟩
 have hP : PlAt w V b0 rb ⟨3, a, b, vo, vcap, ro, rcap, vars, rows, nt, way, which, fv, mv⟩ := by rw [hV, hb0, hrb]; exact PlAt.new w ⟨3, a, b, vo, vcap, ro, rcap, vars, rows, nt, way, which, fv, mv⟩
 have hLV := h.nw hP.nw
 have c0 : V.cell? ⟨b0, 0, none⟩ = some (.int .i64 3) := hP.k0.cell 0
 have c1 : V.cell? ⟨b0, 1, none⟩ = some (.int .i64 a) := hP.k0.cell 1
 have c2 : V.cell? ⟨b0, 2, none⟩ = some (.int .i64 b) := hP.k0.cell 2
 have c3 : V.cell? ⟨b0, 3, none⟩ = some (.slice vo vars.length vcap) := hP.k0.cell 3
 have c4 : V.cell? ⟨b0, 4, none⟩ = some (.slice ro rows.length rcap) := hP.k0.cell 4
 have c5 : V.cell? ⟨b0, 5, none⟩ = some (.bool nt) := hP.k0.cell 5
 have c6 : V.cell? ⟨b0, 6, none⟩ = some (.int .i64 way) := hP.k0.cell 6
 have c7 : V.cell? ⟨b0, 7, none⟩ = some (.bool which) := hP.k0.cell 7
 have c8 : V.cell? ⟨b0, 8, none⟩ = some fv := hP.k0.cell 8
 have c9 : V.cell? ⟨b0, 9, none⟩ = some mv := hP.k0.cell 9
 have hbl := hP.k0.lt
 have hrl := hP.k1.lt
 have HP := hd hP
 have H := hd h
 have HV := hd hLV
 have Hcall := hd (changes_remove W lo B L d ⟨3, a, b, vo, vcap, ro, rcap, vars, rows, nt, way, which, fv, mv⟩ V hLV hbz rfl)
 obtain ⟨PP, hPP⟩ : ∃ PP, PP = PlainPost W w lo B L d rows.length := ⟨_, rfl⟩
 rw [← hPP]
 have HPP := hd hPP
 clear h hP hLV hbz hPP
 go_enter Tryz.func35, Tryz.ntmps35
 go_upto_region 1 with fail
 rw [← hV, ← hrb, ← hb0]
 clear hV hb0 hrb
 go_wp2_with (go_at_call 38; refine Hcall.out.mono ?_; rintro e w1 ⟨rfl, d', h1, h2⟩; obtain ⟨hb1, hfin⟩ := PlainPost.box (n := rows.length) H.out HP.out.nw HP.out.lo HP.out.k1 h1 h2 ⟨by omega, by omega, by omega⟩; have hf1 := hb1.free 0; have hcl1 : w1.cell? ⟨rb, 0, none⟩ = some (.bool false) := hb1.cell 0; have hrl1 := hb1.lt; have Hcs := hd (show (w1.setCell ⟨rb, 0, none⟩ (.bool true)).cell? ⟨rb, 0, none⟩ = some (.bool true) from (hb1.set 0 (.bool true)).cell 0); have Hfin := hd hfin; clear hb1 hfin)
 refine bodyPost_ret (results_cellK (v := .bool true) (b := rb) (off := 0) rfl rfl (by kernel_rfl) Hcs.out) rfl ?_
 rw [HPP.out]
 exact Hfin.out

set_option maxHeartbeats 1600000 in
set_option maxRecDepth 1000000 in
theorem plain_push (W : World) (lo B : Nat) (L : LW) (d : Sd) (a b : Int) (vo : Option Addr) (vcap : Nat) (ro : Option Addr) (rcap : Nat) (vars : List Int) (rows : List (List Int)) (nt : Bool) (way : Int) (which : Bool) (fv mv : Value) (w : World) (h : LS W w lo B L d) (hbz : d.bz = false) :
  Calls Tryz.prog 35 #[.pointer (some ⟨B, 0, none⟩), .pointer (some ⟨d.D, 0, none⟩), .agg #[.int .i64 6, .int .i64 a, .int .i64 b, .slice vo vars.length vcap, .slice ro rows.length rcap, .bool nt, .int .i64 way, .bool which, fv, mv]] w (PlainPost W w lo B L d rows.length) := by
 obtain ⟨b0, hb0⟩ : ∃ b0, b0 = w.heap.size := ⟨_, rfl⟩
 obtain ⟨rb, hrb⟩ : ∃ rb, rb = w.heap.size + 1 := ⟨_, rfl⟩
 obtain ⟨V, hV⟩ : ∃ V, V = (w.alloc (.cells #[.int .i64 6, .int .i64 a, .int .i64 b, .slice vo vars.length vcap, .slice ro rows.length rcap, .bool nt, .int .i64 way, .bool which, fv, mv] 54)).alloc (.cells #[.bool false] 4) := ⟨_, rfl⟩
 have hP : PlAt w V b0 rb ⟨6, a, b, vo, vcap, ro, rcap, vars, rows, nt, way, which, fv, mv⟩ := by rw [hV, hb0, hrb]; exact PlAt.new w ⟨6, a, b, vo, vcap, ro, rcap, vars, rows, nt, way, which, fv, mv⟩
 have hLV := h.nw hP.nw
 have c0 : V.cell? ⟨b0, 0, none⟩ = some (.int .i64 6) := hP.k0.cell 0
 have c1 : V.cell? ⟨b0, 1, none⟩ = some (.int .i64 a) := hP.k0.cell 1
 have c2 : V.cell? ⟨b0, 2, none⟩ = some (.int .i64 b) := hP.k0.cell 2
 have c3 : V.cell? ⟨b0, 3, none⟩ = some (.slice vo vars.length vcap) := hP.k0.cell 3
 have c4 : V.cell? ⟨b0, 4, none⟩ = some (.slice ro rows.length rcap) := hP.k0.cell 4
 have c5 : V.cell? ⟨b0, 5, none⟩ = some (.bool nt) := hP.k0.cell 5
 have c6 : V.cell? ⟨b0, 6, none⟩ = some (.int .i64 way) := hP.k0.cell 6
 have c7 : V.cell? ⟨b0, 7, none⟩ = some (.bool which) := hP.k0.cell 7
 have c8 : V.cell? ⟨b0, 8, none⟩ = some fv := hP.k0.cell 8
 have c9 : V.cell? ⟨b0, 9, none⟩ = some mv := hP.k0.cell 9
 have hbl := hP.k0.lt
 have hrl := hP.k1.lt
 have HP := hd hP
 have H := hd h
 have HV := hd hLV
 have Hcall := hd (changes_push W lo B L d ⟨6, a, b, vo, vcap, ro, rcap, vars, rows, nt, way, which, fv, mv⟩ V hLV hbz rfl)
 obtain ⟨PP, hPP⟩ : ∃ PP, PP = PlainPost W w lo B L d rows.length := ⟨_, rfl⟩
 rw [← hPP]
 have HPP := hd hPP
 clear h hP hLV hbz hPP
 go_enter Tryz.func35, Tryz.ntmps35
 go_upto_region 1 with fail
 rw [← hV, ← hrb, ← hb0]
 clear hV hb0 hrb
 go_wp2_with (go_at_call 38; refine Hcall.out.mono ?_; rintro e w1 ⟨rfl, d', h1, h2⟩; obtain ⟨hb1, hfin⟩ := PlainPost.box (n := rows.length) H.out HP.out.nw HP.out.lo HP.out.k1 h1 h2 ⟨by omega, by omega, by omega⟩; have hf1 := hb1.free 0; have hcl1 : w1.cell? ⟨rb, 0, none⟩ = some (.bool false) := hb1.cell 0; have hrl1 := hb1.lt; have Hcs := hd (show (w1.setCell ⟨rb, 0, none⟩ (.bool true)).cell? ⟨rb, 0, none⟩ = some (.bool true) from (hb1.set 0 (.bool true)).cell 0); have Hfin := hd hfin; clear hb1 hfin)
 refine bodyPost_ret (results_cellK (v := .bool true) (b := rb) (off := 0) rfl rfl (by kernel_rfl) Hcs.out) rfl ?_
 rw [HPP.out]
 exact Hfin.out

set_option maxHeartbeats 1600000 in
set_option maxRecDepth 1000000 in
theorem plain_pop (W : World) (lo B : Nat) (L : LW) (d : Sd) (a b : Int) (vo : Option Addr) (vcap : Nat) (ro : Option Addr) (rcap : Nat) (vars : List Int) (rows : List (List Int)) (nt : Bool) (way : Int) (which : Bool) (fv mv : Value) (w : World) (h : LS W w lo B L d) (hbz : d.bz = false) :
  Calls Tryz.prog 35 #[.pointer (some ⟨B, 0, none⟩), .pointer (some ⟨d.D, 0, none⟩), .agg #[.int .i64 7, .int .i64 a, .int .i64 b, .slice vo vars.length vcap, .slice ro rows.length rcap, .bool nt, .int .i64 way, .bool which, fv, mv]] w (PlainPost W w lo B L d rows.length) := by
 obtain ⟨b0, hb0⟩ : ∃ b0, b0 = w.heap.size := ⟨_, rfl⟩
 obtain ⟨rb, hrb⟩ : ∃ rb, rb = w.heap.size + 1 := ⟨_, rfl⟩
 obtain ⟨V, hV⟩ : ∃ V, V = (w.alloc (.cells #[.int .i64 7, .int .i64 a, .int .i64 b, .slice vo vars.length vcap, .slice ro rows.length rcap, .bool nt, .int .i64 way, .bool which, fv, mv] 54)).alloc (.cells #[.bool false] 4) := ⟨_, rfl⟩
 have hP : PlAt w V b0 rb ⟨7, a, b, vo, vcap, ro, rcap, vars, rows, nt, way, which, fv, mv⟩ := by rw [hV, hb0, hrb]; exact PlAt.new w ⟨7, a, b, vo, vcap, ro, rcap, vars, rows, nt, way, which, fv, mv⟩
 have hLV := h.nw hP.nw
 have c0 : V.cell? ⟨b0, 0, none⟩ = some (.int .i64 7) := hP.k0.cell 0
 have c1 : V.cell? ⟨b0, 1, none⟩ = some (.int .i64 a) := hP.k0.cell 1
 have c2 : V.cell? ⟨b0, 2, none⟩ = some (.int .i64 b) := hP.k0.cell 2
 have c3 : V.cell? ⟨b0, 3, none⟩ = some (.slice vo vars.length vcap) := hP.k0.cell 3
 have c4 : V.cell? ⟨b0, 4, none⟩ = some (.slice ro rows.length rcap) := hP.k0.cell 4
 have c5 : V.cell? ⟨b0, 5, none⟩ = some (.bool nt) := hP.k0.cell 5
 have c6 : V.cell? ⟨b0, 6, none⟩ = some (.int .i64 way) := hP.k0.cell 6
 have c7 : V.cell? ⟨b0, 7, none⟩ = some (.bool which) := hP.k0.cell 7
 have c8 : V.cell? ⟨b0, 8, none⟩ = some fv := hP.k0.cell 8
 have c9 : V.cell? ⟨b0, 9, none⟩ = some mv := hP.k0.cell 9
 have hbl := hP.k0.lt
 have hrl := hP.k1.lt
 have HP := hd hP
 have H := hd h
 have HV := hd hLV
 have Hcall := hd (changes_pop W lo B L d ⟨7, a, b, vo, vcap, ro, rcap, vars, rows, nt, way, which, fv, mv⟩ V hLV hbz rfl)
 obtain ⟨PP, hPP⟩ : ∃ PP, PP = PlainPost W w lo B L d rows.length := ⟨_, rfl⟩
 rw [← hPP]
 have HPP := hd hPP
 clear h hP hLV hbz hPP
 go_enter Tryz.func35, Tryz.ntmps35
 go_upto_region 1 with fail
 rw [← hV, ← hrb, ← hb0]
 clear hV hb0 hrb
 go_wp2_with (go_at_call 38; refine Hcall.out.mono ?_; rintro e w1 ⟨rfl, d', h1, h2⟩; obtain ⟨hb1, hfin⟩ := PlainPost.box (n := rows.length) H.out HP.out.nw HP.out.lo HP.out.k1 h1 h2 ⟨by omega, by omega, by omega⟩; have hf1 := hb1.free 0; have hcl1 : w1.cell? ⟨rb, 0, none⟩ = some (.bool false) := hb1.cell 0; have hrl1 := hb1.lt; have Hcs := hd (show (w1.setCell ⟨rb, 0, none⟩ (.bool true)).cell? ⟨rb, 0, none⟩ = some (.bool true) from (hb1.set 0 (.bool true)).cell 0); have Hfin := hd hfin; clear hb1 hfin)
 refine bodyPost_ret (results_cellK (v := .bool true) (b := rb) (off := 0) rfl rfl (by kernel_rfl) Hcs.out) rfl ?_
 rw [HPP.out]
 exact Hfin.out

set_option maxHeartbeats 1600000 in
set_option maxRecDepth 1000000 in
theorem plain_look (W : World) (lo B : Nat) (L : LW) (d : Sd) (a b : Int) (vo : Option Addr) (vcap : Nat) (ro : Option Addr) (rcap : Nat) (vars : List Int) (rows : List (List Int)) (nt : Bool) (way : Int) (which : Bool) (fv mv : Value) (w : World) (h : LS W w lo B L d) (hbz : d.bz = false) :
  Calls Tryz.prog 35 #[.pointer (some ⟨B, 0, none⟩), .pointer (some ⟨d.D, 0, none⟩), .agg #[.int .i64 5, .int .i64 a, .int .i64 b, .slice vo vars.length vcap, .slice ro rows.length rcap, .bool nt, .int .i64 way, .bool which, fv, mv]] w (PlainPost W w lo B L d rows.length) := by
 obtain ⟨b0, hb0⟩ : ∃ b0, b0 = w.heap.size := ⟨_, rfl⟩
 obtain ⟨rb, hrb⟩ : ∃ rb, rb = w.heap.size + 1 := ⟨_, rfl⟩
 obtain ⟨V, hV⟩ : ∃ V, V = (w.alloc (.cells #[.int .i64 5, .int .i64 a, .int .i64 b, .slice vo vars.length vcap, .slice ro rows.length rcap, .bool nt, .int .i64 way, .bool which, fv, mv] 54)).alloc (.cells #[.bool false] 4) := ⟨_, rfl⟩
 have hP : PlAt w V b0 rb ⟨5, a, b, vo, vcap, ro, rcap, vars, rows, nt, way, which, fv, mv⟩ := by rw [hV, hb0, hrb]; exact PlAt.new w ⟨5, a, b, vo, vcap, ro, rcap, vars, rows, nt, way, which, fv, mv⟩
 have hLV := h.nw hP.nw
 have c0 : V.cell? ⟨b0, 0, none⟩ = some (.int .i64 5) := hP.k0.cell 0
 have c1 : V.cell? ⟨b0, 1, none⟩ = some (.int .i64 a) := hP.k0.cell 1
 have c2 : V.cell? ⟨b0, 2, none⟩ = some (.int .i64 b) := hP.k0.cell 2
 have c3 : V.cell? ⟨b0, 3, none⟩ = some (.slice vo vars.length vcap) := hP.k0.cell 3
 have c4 : V.cell? ⟨b0, 4, none⟩ = some (.slice ro rows.length rcap) := hP.k0.cell 4
 have c5 : V.cell? ⟨b0, 5, none⟩ = some (.bool nt) := hP.k0.cell 5
 have c6 : V.cell? ⟨b0, 6, none⟩ = some (.int .i64 way) := hP.k0.cell 6
 have c7 : V.cell? ⟨b0, 7, none⟩ = some (.bool which) := hP.k0.cell 7
 have c8 : V.cell? ⟨b0, 8, none⟩ = some fv := hP.k0.cell 8
 have c9 : V.cell? ⟨b0, 9, none⟩ = some mv := hP.k0.cell 9
 have hbl := hP.k0.lt
 have hrl := hP.k1.lt
 have HP := hd hP
 have H := hd h
 have HV := hd hLV
 have Hcall := hd (changes_look W lo B L d (OpV.cells ⟨5, a, b, vo, vcap, ro, rcap, vars, rows, nt, way, which, fv, mv⟩) V hLV hbz rfl)
 obtain ⟨PP, hPP⟩ : ∃ PP, PP = PlainPost W w lo B L d rows.length := ⟨_, rfl⟩
 rw [← hPP]
 have HPP := hd hPP
 clear h hP hLV hbz hPP
 go_enter Tryz.func35, Tryz.ntmps35
 go_upto_region 1 with fail
 rw [← hV, ← hrb, ← hb0]
 clear hV hb0 hrb
 go_wp2_with (go_at_call 38; refine Hcall.out.mono ?_; rintro e w1 ⟨rfl, h1⟩; obtain ⟨hb1, hfin⟩ := PlainPost.box (n := rows.length) H.out HP.out.nw HP.out.lo HP.out.k1 (HV.out.nw h1) (LStep.nw h1 B L d) ⟨by omega, by omega, by omega⟩; have hf1 := hb1.free 0; have hcl1 : w1.cell? ⟨rb, 0, none⟩ = some (.bool false) := hb1.cell 0; have hrl1 := hb1.lt; have Hcs := hd (show (w1.setCell ⟨rb, 0, none⟩ (.bool true)).cell? ⟨rb, 0, none⟩ = some (.bool true) from (hb1.set 0 (.bool true)).cell 0); have Hfin := hd hfin; clear hb1 hfin)
 refine bodyPost_ret (results_cellK (v := .bool true) (b := rb) (off := 0) rfl rfl (by kernel_rfl) Hcs.out) rfl ?_
 rw [HPP.out]
 exact Hfin.out

set_option maxHeartbeats 1600000 in
set_option maxRecDepth 1000000 in
theorem plain_none (W : World) (lo B : Nat) (L : LW) (d : Sd) (o : OpV) (w : World) (h : LS W w lo B L d) (hk : o.kind ≤ 0 ∨ 9 < o.kind) :
  Calls Tryz.prog 35 #[.pointer (some ⟨B, 0, none⟩), .pointer (some ⟨d.D, 0, none⟩), .agg o.cells] w (PlainPost W w lo B L d o.rows.length) := by
 obtain ⟨b0, hb0⟩ : ∃ b0, b0 = w.heap.size := ⟨_, rfl⟩
 obtain ⟨rb, hrb⟩ : ∃ rb, rb = w.heap.size + 1 := ⟨_, rfl⟩
 obtain ⟨V, hV⟩ : ∃ V, V = (w.alloc (.cells o.cells 54)).alloc (.cells #[.bool false] 4) := ⟨_, rfl⟩
 have hP : PlAt w V b0 rb o := by rw [hV, hb0, hrb]; exact PlAt.new w o
 obtain ⟨kk, hkk⟩ : ∃ kk, o.kind = kk := ⟨_, rfl⟩
 have c0 : V.cell? ⟨b0, 0, none⟩ = some (.int .i64 kk) := (hP.k0.cell 0).trans (by rw [← hkk]; rfl)
 rw [hkk] at hk
 have n1 : (kk == 1) = false := by rw [beq_eq_false_iff_ne]; omega
 have n2 : (kk == 2) = false := by rw [beq_eq_false_iff_ne]; omega
 have n3 : (kk == 3) = false := by rw [beq_eq_false_iff_ne]; omega
 have n4 : (kk == 4) = false := by rw [beq_eq_false_iff_ne]; omega
 have n5 : (kk == 5) = false := by rw [beq_eq_false_iff_ne]; omega
 have n6 : (kk == 6) = false := by rw [beq_eq_false_iff_ne]; omega
 have n7 : (kk == 7) = false := by rw [beq_eq_false_iff_ne]; omega
 have n8 : (kk == 8) = false := by rw [beq_eq_false_iff_ne]; omega
 have n9 : (kk == 9) = false := by rw [beq_eq_false_iff_ne]; omega
 have hbl := hP.k0.lt
 have hrl := hP.k1.lt
 have hf1 := hP.k1.free 0
 have hcl1 : V.cell? ⟨rb, 0, none⟩ = some (.bool false) := hP.k1.cell 0
 have Hcs := hd (show (V.setCell ⟨rb, 0, none⟩ (.bool true)).cell? ⟨rb, 0, none⟩ = some (.bool true) from (hP.k1.set 0 (.bool true)).cell 0)
 have Hfin := hd (PlainPost.box (n := o.rows.length) h hP.nw hP.lo hP.k1 (h.nw hP.nw) (LStep.nw (Fr.refl _ V) B L d) ⟨by omega, by omega, by omega⟩).2
 obtain ⟨PP, hPP⟩ : ∃ PP, PP = PlainPost W w lo B L d o.rows.length := ⟨_, rfl⟩
 rw [← hPP]
 have HPP := hd hPP
 clear h hP hPP hkk hk
 go_enter Tryz.func35, Tryz.ntmps35
 go_upto_region 1 with fail
 rw [← hV, ← hrb, ← hb0]
 clear hV hb0 hrb
 go_wp2_with fail
 refine bodyPost_ret (results_cellK (v := .bool true) (b := rb) (off := 0) rfl rfl (by kernel_rfl) Hcs.out) rfl ?_
 rw [HPP.out]
 exact Hfin.out

theorem plain_any (W : World) (lo B : Nat) (L : LW) (d : Sd) (o : OpV) (w : World) (h : LS W w lo B L d) (hbz : d.bz = false) (hk : o.kind ≤ 7) (ho : OpOk W o) (hr : LRoom L) :
  Calls Tryz.prog 35 #[.pointer (some ⟨B, 0, none⟩), .pointer (some ⟨d.D, 0, none⟩), .agg o.cells] w (PlainPost W w lo B L d o.rows.length) := by
 by_cases h0 : o.kind ≤ 0
 ·exact plain_none W lo B L d o w h (.inl h0)
 ·have hc : o.kind = 1 ∨ o.kind = 2 ∨ o.kind = 3 ∨ o.kind = 4 ∨ o.kind = 5 ∨ o.kind = 6 ∨ o.kind = 7 := by omega
  rcases hc with hc | hc | hc | hc | hc | hc | hc
  ·exact plain_post W lo B L d o w h hbz hc ho hr
  ·obtain ⟨kind, a, b, vo, vcap, ro, rcap, vars, rows, nt, way, which, fv, mv⟩ := o
   dsimp only at hc
   subst hc
   exact plain_fix W lo B L d a b vo vcap ro rcap vars rows nt way which fv mv w h hbz
  ·obtain ⟨kind, a, b, vo, vcap, ro, rcap, vars, rows, nt, way, which, fv, mv⟩ := o
   dsimp only at hc
   subst hc
   exact plain_remove W lo B L d a b vo vcap ro rcap vars rows nt way which fv mv w h hbz
  ·exact plain_domain W lo B L d o w h hbz hc hr
  ·obtain ⟨kind, a, b, vo, vcap, ro, rcap, vars, rows, nt, way, which, fv, mv⟩ := o
   dsimp only at hc
   subst hc
   exact plain_look W lo B L d a b vo vcap ro rcap vars rows nt way which fv mv w h hbz
  ·obtain ⟨kind, a, b, vo, vcap, ro, rcap, vars, rows, nt, way, which, fv, mv⟩ := o
   dsimp only at hc
   subst hc
   exact plain_push W lo B L d a b vo vcap ro rcap vars rows nt way which fv mv w h hbz
  ·obtain ⟨kind, a, b, vo, vcap, ro, rcap, vars, rows, nt, way, which, fv, mv⟩ := o
   dsimp only at hc
   subst hc
   exact plain_pop W lo B L d a b vo vcap ro rcap vars rows nt way which fv mv w h hbz
end Go.Proofs.YtkjfpdfkcfgfkaaGreat

namespace Go.Proofs.YtkjfpdfkcfgfkaaGreat
open Go.RowKit

structure LI (W w : World) (lo B : Nat) (L : LW) (ds : List Sd) : Prop where
 env : Env W w lo
 law : LawAt w lo B L
 ss : L.ss = ds.map (fun d => Value.pointer (some ⟨d.D, 0, none⟩))
 sides : ∀ d ∈ ds, SideAt W w lo d
 apart : ∀ d ∈ ds, ∀ k, L.own B k → ¬ d.own k
 dist : ∀ i j (hi : i < ds.length) (hj : j < ds.length), i ≠ j → ∀ k, ds[i].own k → ¬ ds[j].own k
 free : ∀ d ∈ ds, d.bz = false
theorem LI.one {W w : World} {lo B : Nat} {L : LW} {ds : List Sd} (h : LI W w lo B L ds) (i : Nat) (hi : i < ds.length) : LS W w lo B L ds[i] := ⟨h.env, h.law, h.sides _ (List.getElem_mem hi), h.apart _ (List.getElem_mem hi)⟩
theorem LI.nw {W w w' : World} {lo B : Nat} {L : LW} {ds : List Sd} (h : LI W w lo B L ds) (f : Nw w w') : LI W w' lo B L ds := ⟨h.env.step f, h.law.nw f, h.ss, fun d hd => (h.sides d hd).nw f, h.apart, h.dist, h.free⟩
theorem LI.step {W w w' : World} {lo B : Nat} {L L' : LW} {ds : List Sd} {d' : Sd} (h : LI W w lo B L ds) (i : Nat) (hi : i < ds.length) (h1 : LS W w' lo B L' d') (hs : LStep w w' B L L' ds[i] d') : LI W w' lo B L' (ds.set i d') := by
 have hLS := h.one i hi
 have hold : ∀ j (hj : j < ds.length), j ≠ i → SideAt W w' lo ds[j] := fun j hj hne => (h.sides _ (List.getElem_mem hj)).fr hs.fr (fun k hk hS => by
  rcases hS with hS | hS
  ·exact h.apart _ (List.getElem_mem hj) k hS hk
  ·exact h.dist j i hj hi hne k hk hS) hLS.only (by decide)
 have hget : ∀ e ∈ ds.set i d', e = d' ∨ ∃ j, ∃ hj : j < ds.length, j ≠ i ∧ e = ds[j] := fun e he => by
  obtain ⟨j, hj, rfl⟩ := List.getElem_of_mem he
  rw [List.length_set] at hj
  by_cases e1 : i = j
  ·subst e1
   exact .inl (by rw [List.getElem_set_self])
  ·exact .inr ⟨j, hj, fun e => e1 e.symm, by rw [List.getElem_set_ne e1]⟩
 have hgD : ∀ j (hj : j < ds.length), j ≠ i → ∀ k, d'.own k → ¬ ds[j].own k := fun j hj hne k hk hk2 => by
  rcases hs.growD k hk with h2 | h2
  ·exact h.dist i j hi hj (fun e => hne e.symm) k h2 hk2
  ·have := (h.sides _ (List.getElem_mem hj)).lt hk2
   omega
 refine ⟨h1.env, h1.law, ?_, fun e he => ?_, fun e he k hk => ?_, fun a b ha hb hab k => ?_, fun e he => ?_⟩
 ·rw [hs.ss, h.ss, List.map_set, hs.dd]
  refine List.ext_getElem? fun j => ?_
  by_cases e : i = j
  ·subst e
   rw [List.getElem?_set_self (by simpa using hi)]
   simp [hi]
  ·rw [List.getElem?_set_ne e]
 ·rcases hget e he with rfl | ⟨j, hj, hne, rfl⟩
  ·exact h1.side
  ·exact hold j hj hne
 ·rcases hget e he with rfl | ⟨j, hj, hne, rfl⟩
  ·exact h1.apart k hk
  ·intro hk2
   rcases hs.growL k hk with h2 | h2
   ·exact h.apart _ (List.getElem_mem hj) k h2 hk2
   ·have := (h.sides _ (List.getElem_mem hj)).lt hk2
    omega
 ·rw [List.length_set] at ha hb
  by_cases e1 : i = a
  ·subst e1
   rw [List.getElem_set_self, List.getElem_set_ne hab]
   exact hgD b hb (fun e => hab e.symm) k
  ·rw [List.getElem_set_ne e1]
   by_cases e2 : i = b
   ·subst e2
    rw [List.getElem_set_self]
    exact fun h2 h3 => hgD a ha hab k h3 h2
   ·rw [List.getElem_set_ne e2]
    exact h.dist a b ha hb hab k
 ·rcases hget e he with rfl | ⟨j, hj, hne, rfl⟩
  ·rw [hs.bz]
   exact h.free _ (List.getElem_mem hi)
  ·exact h.free _ (List.getElem_mem hj)
noncomputable def othR2 : Array Oper := regOps Tryz.f18 2

set_option maxHeartbeats 1600000 in
set_option maxRecDepth 1000000 in
theorem other_any (lo B : Nat) (L : LW) (o : OpV) (w : World) (h : LawAt w lo B L) (hn : 0 < L.ss.length) (hn8 : L.ss.length ≤ 1000) :
  Calls Tryz.prog 18 #[.pointer (some ⟨B, 0, none⟩), .agg o.cells] w fun e w' => e = .returned (L.ss.getD (if o.which then L.ss.length - 1 else 0) undef) ∧ Nw w w' := by
 obtain ⟨b0, hb0⟩ : ∃ b0, b0 = w.heap.size := ⟨_, rfl⟩
 obtain ⟨V, hV⟩ : ∃ V, V = w.alloc (.cells o.cells 54) := ⟨_, rfl⟩
 have hfV : Nw w V := by rw [hV]; exact (Fr.refl _ w).alloc _
 have hC : Blk V b0 o.cells 54 := by rw [hV, hb0]; exact Blk.new _ _ _
 have c7 : V.cell? ⟨b0, 7, none⟩ = some (.bool o.which) := hC.cell 7
 have hbl := hC.lt
 have hLV := h.nw hfV
 obtain ⟨so, sc, hsf, _⟩ := hLV.sides.form
 have d0 : V.cell? ⟨B, 0, none⟩ = some (.slice so L.ss.length sc) := by
  have := hLV.blk.cell 0
  rw [hsf] at this
  exact this
 have hBl := hLV.blk.lt
 have Hs := hd hLV.sides
 have Hsf := hd hsf
 have hget : ∀ i, i < L.ss.length → ∃ g, so = some ⟨g, 0, none⟩ ∧ g < V.heap.size ∧ V.cell? ⟨g, i, none⟩ = some (L.ss.getD i undef) := fun i hi => by
  obtain ⟨g, c, he, hb, hc, _⟩ := hLV.sides.cell i hi
  rw [hsf] at he
  simp only [Value.slice.injEq] at he
  exact ⟨g, he.1, hLV.sides.lt hb, by rw [hc, getD_of_lt _ _ _ hi]⟩
 have HfV := hd hfV
 obtain ⟨wh, hwh⟩ : ∃ wh, o.which = wh := ⟨_, rfl⟩
 rw [hwh] at c7 ⊢
 obtain ⟨n, hnn⟩ : ∃ n, L.ss.length = n := ⟨_, rfl⟩
 rw [hnn] at d0 hget hn hn8 ⊢
 clear hLV hC hfV hsf hwh hnn
 cases wh with
 | false =>
  obtain ⟨g, rfl, hgl, hgc⟩ := hget 0 hn
  obtain ⟨r, hr⟩ : ∃ r, L.ss.getD 0 undef = r := ⟨_, rfl⟩
  rw [if_neg (by simp), hr]
  rw [hr] at hgc
  have hn0 : (0 : Int) < (n : Int) := by omega
  clear hget hr
  go_enter Tryz.func18, Tryz.ntmps18
  go_upto_region 1 with fail
  rw [← hV, ← hb0]
  clear hV hb0
  go_wp2_with fail
  go_ret
  exact ⟨rfl, HfV.out⟩
 | true =>
  obtain ⟨g, rfl, hgl, hgc⟩ := hget (n - 1) (by omega)
  obtain ⟨r, hr⟩ : ∃ r, L.ss.getD (n - 1) undef = r := ⟨_, rfl⟩
  rw [if_pos rfl, hr]
  rw [hr] at hgc
  clear hget hr
  obtain ⟨m, rfl⟩ : ∃ m, n = m + 1 := ⟨n - 1, by omega⟩
  rw [Nat.add_sub_cancel] at hgc
  have hgc0 : V.cell? ⟨g, 0 + m, none⟩ = some r := by rw [Nat.zero_add]; exact hgc
  go_enter Tryz.func18, Tryz.ntmps18
  go_upto_region 1 with fail
  rw [← hV, ← hb0]
  clear hV hb0
  go_wp2_with fail
  have hK0 : Nw V V.drew := (Fr.refl _ V).drew
  refine region_H othR2 13 (fun w'' => Nw V w'') (by kernel_rfl) (by kernel_rfl) (by kernel_rfl) ?_
  refine take_at (i := 0) (d := some 7) (v := .pointer (some ⟨B, 0, none⟩)) (by kernel_rfl) (by kernel_rfl) (fun _ _ _ h => h) (fun w'' hS => by kernel_rfl) hK0 ?_
  refine take_at (i := 1) (d := some 8) (v := .pointer (some ⟨B, 0, none⟩)) (by kernel_rfl) (by kernel_rfl) (fun _ _ _ h => h) (fun w'' hS => by kernel_rfl) hK0 ?_
  refine take_at (i := 2) (d := some 9) (v := .pointer (some ⟨B, 0, none⟩)) (by kernel_rfl) (by kernel_rfl) (fun _ _ _ h => h) (fun w'' hS => by kernel_rfl) hK0 ?_
  refine take_at (i := 3) (d := some 10) (v := .slice (some ⟨g, 0, none⟩) (m + 1) sc) (by kernel_rfl) (by kernel_rfl) (fun _ _ _ h => h) (fun w'' hS => exec_load 25 (.tmp 9) (by kernel_rfl) (by kernel_rfl) (by kernel_rfl) ((hS.cell hBl (fun x => x)).trans d0)) hK0 ?_
  refine take_at (i := 4) (d := some 11) (v := .pointer (some ⟨B, 0, none⟩)) (by kernel_rfl) (by kernel_rfl) (fun _ _ _ h => h) (fun w'' hS => by kernel_rfl) hK0 ?_
  refine take_at (i := 5) (d := some 12) (v := .pointer (some ⟨B, 0, none⟩)) (by kernel_rfl) (by kernel_rfl) (fun _ _ _ h => h) (fun w'' hS => by kernel_rfl) hK0 ?_
  refine take_at (i := 6) (d := some 13) (v := .pointer (some ⟨B, 0, none⟩)) (by kernel_rfl) (by kernel_rfl) (fun _ _ _ h => h) (fun w'' hS => by kernel_rfl) hK0 ?_
  refine take_at (i := 7) (d := some 14) (v := .slice (some ⟨g, 0, none⟩) (m + 1) sc) (by kernel_rfl) (by kernel_rfl) (fun _ _ _ h => h) (fun w'' hS => exec_load 25 (.tmp 13) (by kernel_rfl) (by kernel_rfl) (by kernel_rfl) ((hS.cell hBl (fun x => x)).trans d0)) hK0 ?_
  refine take_at (i := 8) (d := some 15) (v := .int .i64 ((m + 1 : Nat) : Int)) (by kernel_rfl) (by kernel_rfl) (fun _ _ _ h => h) (fun w'' hS => by kernel_rfl) hK0 ?_
  refine take_at (i := 9) (d := some 16) (v := .int .i64 (m : Int)) (by kernel_rfl) (by kernel_rfl) (fun _ _ _ h => h) (fun w'' hS => exec_sub ((m + 1 : Nat) : Int) 1 (m : Int) (.tmp 15) (.const (.int .i64 1)) (by kernel_rfl) (by kernel_rfl) (by kernel_rfl) (by omega) (by omega)) hK0 ?_
  refine take_at (i := 10) (d := some 17) (v := .pointer (some ⟨g, 0 + m, none⟩)) (by kernel_rfl) (by kernel_rfl) (fun _ _ _ h => h) (fun w'' hS => exec_index (i := m) (n := m + 1) (cap := sc) 25 49 (.tmp 10) (.tmp 16) (by kernel_rfl) (by kernel_rfl) (by kernel_rfl) (by omega) (by kernel_rfl) (by kernel_rfl)) hK0 ?_
  refine take_at (i := 11) (d := some 18) (v := r) (by kernel_rfl) (by kernel_rfl) (fun _ _ _ h => h) (fun w'' hS => exec_load 49 (.tmp 17) (by kernel_rfl) (by kernel_rfl) (by kernel_rfl) ((hS.cell hgl (fun x => x)).trans hgc0)) hK0 ?_
  refine value_at (i := 12) (d := some 4) (v := r) (w' := V.drew) (by kernel_rfl) (by kernel_rfl) (by kernel_rfl) hK0 ?_
  refine wpAnyH_done (by kernel_rfl) ?_ _
  simp only [Act.put, List.setIfInBounds_toArray, List.set_cons_zero, List.set_cons_succ]
  clear hK0
  go_wp2_with fail
  go_ret
  exact ⟨rfl, HfV.out.drew⟩

set_option maxHeartbeats 1600000 in
set_option maxRecDepth 1000000 in
theorem step_any (W : World) (lo B : Nat) (L : LW) (d : Sd) (o : OpV) (w : World) (h : LS W w lo B L d) (hbz : d.bz = false) (hk : o.kind ≤ 7) (ho : OpOk W o) (hr : LRoom L) :
  Calls Tryz.prog 17 #[.pointer (some ⟨B, 0, none⟩), .pointer (some ⟨d.D, 0, none⟩), .agg o.cells] w (PlainPost W w lo B L d o.rows.length) := by
 obtain ⟨b0, hb0⟩ : ∃ b0, b0 = w.heap.size := ⟨_, rfl⟩
 obtain ⟨V, hV⟩ : ∃ V, V = w.alloc (.cells o.cells 54) := ⟨_, rfl⟩
 have hfV : Nw w V := by rw [hV]; exact (Fr.refl _ w).alloc _
 have hC : Blk V b0 o.cells 54 := by rw [hV, hb0]; exact Blk.new _ _ _
 obtain ⟨kk, hkk⟩ : ∃ kk, o.kind = kk := ⟨_, rfl⟩
 have c0 : V.cell? ⟨b0, 0, none⟩ = some (.int .i64 kk) := (hC.cell 0).trans (by rw [← hkk]; rfl)
 have c1 : V.cell? ⟨b0, 1, none⟩ = some (.int .i64 o.a) := hC.cell 1
 have c2 : V.cell? ⟨b0, 2, none⟩ = some (.int .i64 o.b) := hC.cell 2
 have c3 : V.cell? ⟨b0, 3, none⟩ = some (.slice o.vo o.vars.length o.vcap) := hC.cell 3
 have c4 : V.cell? ⟨b0, 4, none⟩ = some (.slice o.ro o.rows.length o.rcap) := hC.cell 4
 have c5 : V.cell? ⟨b0, 5, none⟩ = some (.bool o.nt) := hC.cell 5
 have c6 : V.cell? ⟨b0, 6, none⟩ = some (.int .i64 o.way) := hC.cell 6
 have c7 : V.cell? ⟨b0, 7, none⟩ = some (.bool o.which) := hC.cell 7
 have c8 : V.cell? ⟨b0, 8, none⟩ = some o.fv := hC.cell 8
 have c9 : V.cell? ⟨b0, 9, none⟩ = some o.mv := hC.cell 9
 have hbl := hC.lt
 have n9 : (kk == 9) = false := by rw [beq_eq_false_iff_ne, ← hkk]; omega
 have Hcall := hd (plain_any W lo B L d o V (h.nw hfV) hbz hk ho hr)
 have hoc : o.cells = #[.int .i64 kk, .int .i64 o.a, .int .i64 o.b, .slice o.vo o.vars.length o.vcap, .slice o.ro o.rows.length o.rcap, .bool o.nt, .int .i64 o.way, .bool o.which, o.fv, o.mv] := by rw [← hkk]; rfl
 have Hfin := hd (show ∀ e w', PlainPost W V lo B L d o.rows.length e w' → PlainPost W w lo B L d o.rows.length e w' from fun e w' ⟨h1, L', d', h2, h3, h4⟩ => ⟨h1, L', d', h2, (LStep.nw hfV B L d).trans h3, h4⟩)
 have hret : ∀ e w', PlainPost W V lo B L d o.rows.length e w' → e = .returned (.bool true) := fun e w' h => h.1
 obtain ⟨PP, hPP⟩ : ∃ PP, PP = PlainPost W w lo B L d o.rows.length := ⟨_, rfl⟩
 obtain ⟨PV, hPV⟩ : ∃ PV, PV = PlainPost W V lo B L d o.rows.length := ⟨_, rfl⟩
 rw [← hPP, ← hPV] at Hfin
 rw [← hPV] at Hcall hret
 rw [← hPP]
 rw [hoc] at Hcall
 have Hret := hd hret
 clear h hC hfV hkk hoc hPP hPV hret
 go_enter Tryz.func17, Tryz.ntmps17
 go_upto_region 1 with fail
 rw [← hV, ← hb0]
 clear hV hb0
 go_wp2_with (go_at_call 35; refine Hcall.out.mono ?_; intro e w1 hw1; have Hw1 := hd hw1; obtain rfl := Hret.out e w1 hw1; clear hw1)
 exact Hfin.out _ _ Hw1.out
end Go.Proofs.YtkjfpdfkcfgfkaaGreat

namespace Go.Proofs.YtkjfpdfkcfgfkaaGreat
open Go.RowKit

set_option maxHeartbeats 1600000 in
set_option maxRecDepth 1000000 in
theorem ended_any (W : World) (lo B : Nat) (L : LW) (d : Sd) (most : Int) (w : World) (h : LS W w lo B L d) (hbz : d.bz = false) (hm : most < 8) (hn : L.nums.length + 40 ≤ 8388608) (h4 : L.nums.length % 4 = 0) (ht : L.turned.length ≤ 8388608) (hr : L.rows.length ≤ 8388608) :
  Calls Tryz.prog 20 #[.pointer (some ⟨B, 0, none⟩), .pointer (some ⟨d.D, 0, none⟩), .int .i64 most] w fun e w' => e = .returned (.bool true) ∧ ∃ L', LS W w' lo B L' d ∧ LStep w w' B L L' d d ∧ L'.nums.length ≤ L.nums.length + 40 ∧ L'.turned = L.turned ∧ L'.rows = L.rows := by
 have hz := okSizes_len h.side.pair.at_.mem.zok
 have Hcell := hd (show ∀ w' L', LS W w' lo B L' d → w'.cell? ⟨d.D, 0, none⟩ = some (.pointer (some ⟨d.X, 0, none⟩)) ∧ w'.cell? ⟨d.D, 1, none⟩ = some (.pointer (some ⟨d.Y, 0, none⟩)) ∧ ∃ szo szc, w'.cell? ⟨d.Y, 0, none⟩ = some (.slice szo d.zs.length szc) from fun w' L' hl => by
  obtain ⟨szo, szc, hszf, _⟩ := hl.side.pair.ref.rin.sz.form
  rw [List.length_map] at hszf
  refine ⟨hl.side.blk.cell 0, hl.side.blk.cell 1, szo, szc, ?_⟩
  have := hl.side.pair.ref.rin.blk.cell 0
  rw [hszf] at this
  exact this)
 have H := hd h
 have hz8 := hz.2
 have Hbz := hd hbz
 have hm8 : ¬ ((8 : Int) ≤ most) := by omega
 clear h hz hbz
 go_enter Tryz.func20, Tryz.ntmps20
 go_wp2_with fail
 go_loopw [7, 8] (fun v _ wr => ∃ (k : Nat) (L' : LW), k ≤ d.zs.length + 2 ∧ v = .int .i64 ((k : Int) - 1) ∧ Hid (LS W wr lo B L' d) ∧ Hid (LStep w wr B L L' d d) ∧ L'.nums.length ≤ L.nums.length + 4 * k ∧ Hid (L'.turned = L.turned) ∧ Hid (L'.rows = L.rows)) (fun v _ _ => (d.zs.length : Int).toNat + 2 - (intOf v + 1).toNat)
 case atStart => exact ⟨0, L, by omega, rfl, H, hd (LStep.nw (Fr.refl _ _) B L d), by omega, rfl, rfl⟩
 case round =>
  obtain ⟨k, L', hk, rfl, HL, HS, hnl, HT, HR⟩ := hrel
  obtain ⟨x0, x1, szo, szc, x2⟩ := Hcell.out wr L' HL.out
  have hDl := HL.out.side.blk.lt
  have hYl := HL.out.side.pair.ref.rin.blk.lt
  by_cases hlt : k < d.zs.length + 2
  ·have hdk : (k : Int) - 1 ≤ (d.zs.length : Int) := by omega
   have hroom : LRoom L' := ⟨by omega, by rw [HT.out]; exact ht, by rw [HR.out]; exact hr, by rw [HS.out.four]; exact h4⟩
   have Hcall := hd (domains_any W lo B L' d ((k : Int) - 1) wr HL.out Hbz.out hroom)
   clear hroom
   go_wp2_with (go_at_call 36; refine Hcall.out.mono ?_; rintro e w1 ⟨rfl, L2, h1, h2, h3, h5, h6⟩; have H1 := hd h1; have H2 := hd h2; have H3 := hd (h3 0); have H5 := hd h5; have H6 := hd h6; clear h1 h2 h3 h5 h6)
   have h3 := H3.out.a
   refine ⟨⟨k + 1, L2, by omega, by simp, H1, hd (HS.out.trans H2.out), by omega, hd (H5.out.trans HT.out), hd (H6.out.trans HR.out)⟩, by simp [intOf]; omega⟩
  ·have hdk : ¬ ((k : Int) - 1 ≤ (d.zs.length : Int)) := by omega
   have Hcall := hd (changes_look W lo B L' d #[.int .i64 5, .int .i64 0, .int .i64 0, .slice none 0 0, .slice none 0 0, .bool false, .int .i64 0, .bool false, .slice none 0 0, .slice none 0 0] wr HL.out Hbz.out rfl)
   go_wp2_with (go_at_call 38; refine Hcall.out.mono ?_; rintro e w1 ⟨rfl, hf1⟩; have Hf1 := hd hf1; clear hf1)
   go_ret
   exact ⟨rfl, L', HL.out.nw Hf1.out, HS.out.trans (LStep.nw Hf1.out B L' d), by omega, HT.out, HR.out⟩
end Go.Proofs.YtkjfpdfkcfgfkaaGreat

namespace Go.Proofs.YtkjfpdfkcfgfkaaGreat
open Go.RowKit

def op0 : OpV := ⟨0, 0, 0, none, 0, none, 0, [], [], false, 0, false, .slice none 0 0, .slice none 0 0⟩
def OpsAt (W : World) (so : Option Addr) (ops : List OpV) : Prop := ∀ i, i < ops.length → ∃ b o, so = some ⟨b, o, none⟩ ∧ b < W.heap.size ∧ (∀ c, c < 10 → W.cell? ⟨b, o + i * 10 + c, none⟩ = (ops.getD i op0).cells[c]?) ∧ OpOk W (ops.getD i op0)
def opCost (o : OpV) : Nat := 1 + o.rows.length
def opsCost : List OpV → Nat
 | [] => 0
 | o :: r => opCost o + opsCost r
theorem opsCost_append : ∀ (a b : List OpV), opsCost (a ++ b) = opsCost a + opsCost b
 | [], b => by simp [opsCost]
 | o :: a, b => by
  have := opsCost_append a b
  simp only [List.cons_append, opsCost, this]
  omega
theorem opsCost_take (ops : List OpV) (k : Nat) (hk : k < ops.length) : opsCost (ops.take (k + 1)) = opsCost (ops.take k) + (1 + (ops.getD k op0).rows.length) := by
 rw [List.take_succ_eq_append_getElem hk, opsCost_append, getD_of_lt _ _ _ hk]
 simp [opsCost, opCost]
theorem opsCost_le (ops : List OpV) (k : Nat) : opsCost (ops.take k) ≤ opsCost ops := by
 have h := opsCost_append (ops.take k) (ops.drop k)
 rw [List.take_append_drop] at h
 omega
theorem opsCost_len : ∀ (ops : List OpV), ops.length ≤ opsCost ops
 | [] => by simp
 | o :: r => by
  have := opsCost_len r
  simp only [List.length_cons, opsCost, opCost]
  omega
theorem exec_index10 {ev : Operand → Value} {o : Oper} {w : World} {b off n cap i : Nat} (t e : TypeId) (x y : Operand) (ho : o.op = .indexAddr t x y) (hx : ev x = .slice (some ⟨b, off, none⟩) n cap) (hy : ev y = .int .i64 (i : Int)) (hi : i < n)
  (ht : (underlying t).run Tryz.prog w = .ok (.slice e) w) (he : (sizeOf e).run Tryz.prog w = .ok 10 w) :
  (execOp ev o).run Tryz.prog w = .ok (.value (.pointer (some ⟨b, off + i * 10, none⟩))) w := by
 unfold execOp
 simp [ho, hx, hy, Instr.indexAt, asIntOf, ht, he, Result.andThen, go_sem, hi]
theorem exec_load10 {ev : Operand → Value} {o : Oper} {w : World} {b off : Nat} {v0 v1 v2 v3 v4 v5 v6 v7 v8 v9 : Value} (t : TypeId) (x : Operand) (ho : o.op = .load t x) (hx : ev x = .pointer (some ⟨b, off, none⟩)) (hag : (isAgg t).run Tryz.prog w = .ok true w) (hsz : (sizeOf t).run Tryz.prog w = .ok 10 w)
  (hc : ∀ c, c < 10 → w.cell? ⟨b, off + c, none⟩ = #[v0, v1, v2, v3, v4, v5, v6, v7, v8, v9][c]?) :
  (execOp ev o).run Tryz.prog w = .ok (.value (.agg #[v0, v1, v2, v3, v4, v5, v6, v7, v8, v9])) w := by
 have hl : ∀ (a : Addr) (v : Value), w.cell? a = some v → (Sem.load Mode.plain a Sem.pure).run Tryz.prog w = .ok v w := fun a v hc => by
  unfold Sem.run
  rw [hc]
  rfl
 have c0 : w.cell? ⟨b, off, none⟩ = some v0 := hc 0 (by omega)
 have c1 : w.cell? ⟨b, off + 1, none⟩ = some v1 := hc 1 (by omega)
 have c2 : w.cell? ⟨b, off + 2, none⟩ = some v2 := hc 2 (by omega)
 have c3 : w.cell? ⟨b, off + 3, none⟩ = some v3 := hc 3 (by omega)
 have c4 : w.cell? ⟨b, off + 4, none⟩ = some v4 := hc 4 (by omega)
 have c5 : w.cell? ⟨b, off + 5, none⟩ = some v5 := hc 5 (by omega)
 have c6 : w.cell? ⟨b, off + 6, none⟩ = some v6 := hc 6 (by omega)
 have c7 : w.cell? ⟨b, off + 7, none⟩ = some v7 := hc 7 (by omega)
 have c8 : w.cell? ⟨b, off + 8, none⟩ = some v8 := hc 8 (by omega)
 have c9 : w.cell? ⟨b, off + 9, none⟩ = some v9 := hc 9 (by omega)
 unfold execOp
 simp [ho, hx, Instr.loadAt, Instr.sureAddr, loadVar, hag, hsz, Result.andThen, load, loadCells, loadCellsFrom, Addr.add, hl _ _ c0, hl _ _ c1, hl _ _ c2, hl _ _ c3, hl _ _ c4, hl _ _ c5, hl _ _ c6, hl _ _ c7, hl _ _ c8, hl _ _ c9]
noncomputable def plyR6 : Array Oper := regOps Tryz.f9 6
structure Play (W w0 w : World) (lo B : Nat) (L0 L : LW) (n k c : Nat) (ds : List Sd) : Prop where
 li : LI W w lo B L ds
 len : ds.length = n
 a : L.nums.length ≤ L0.nums.length + 4 * k
 b : L.turned.length ≤ L0.turned.length + c
 r : L.rows.length ≤ L0.rows.length + k
 four : L.nums.length % 4 = 0

set_option maxHeartbeats 1600000 in
set_option maxRecDepth 1000000 in
theorem play_any (W : World) (lo B : Nat) (L : LW) (ds : List Sd) (so : Option Addr) (scap : Nat) (ops : List OpV) (most : Int) (w : World) (h : LI W w lo B L ds) (hm : most ≤ 7) (hds : ds.length ≤ 2) (hops : OpsAt W so ops) (hcost : opsCost ops ≤ 1048576) (hL1 : L.nums = []) (hL2 : L.turned.length ≤ 2) (hL3 : L.rows = []) :
  Calls Tryz.prog 9 #[.pointer (some ⟨B, 0, none⟩), .slice so ops.length scap, .int .i64 most] w fun e w' => e = .returned (.bool true) ∧ Nw W w' := by
 have hlen := opsCost_len ops
 have H := hd h
 obtain ⟨svo, svc, hsvf, _⟩ := h.law.sides.form
 have hssl : L.ss.length = ds.length := by rw [h.ss, List.length_map]
 rw [hssl] at hsvf
 have d0 : w.cell? ⟨B, 0, none⟩ = some (.slice svo ds.length svc) := by
  have := h.law.blk.cell 0
  rw [hsvf] at this
  exact this
 have hBl := h.law.blk.lt
 have HP0 : Hid (Play W w w lo B L L ds.length 0 0 ds) := ⟨h, rfl, by omega, by omega, by omega, by rw [hL1]; rfl⟩
 have HO := hd hops
 obtain ⟨n, hn⟩ : ∃ n, ds.length = n := ⟨_, rfl⟩
 rw [hn] at d0 hds HP0
 have hN1 : L.nums.length = 0 := by rw [hL1]; rfl
 have hN3 : L.rows.length = 0 := by rw [hL3]; rfl
 clear h hsvf hssl hops hn hL1 hL3
 go_enter Tryz.func9, Tryz.ntmps9
 go_wp2_with fail
 go_loopw [8, 9, 10] (fun i _ _ wr => ∃ (k : Nat) (L' : LW) (ds' : List Sd), k ≤ ops.length ∧ i = .int .i64 (k : Int) ∧ Hid (Play W w wr lo B L L' n k (opsCost (ops.take k)) ds')) (fun i _ _ _ => ops.length - (intOf i).toNat)
 case atStart => exact ⟨0, L, ds, Nat.zero_le _, rfl, HP0⟩
 case round =>
  clear HP0
  obtain ⟨k, L', ds', hk, rfl, HP⟩ := hrel
  by_cases hgo : k < ops.length ∧ 0 < n
  ·obtain ⟨hlt, hn0⟩ := hgo
   have hdk : (k : Int) < (ops.length : Int) := by omega
   have hdn : (0 : Int) < (n : Int) := by omega
   obtain ⟨ob, oo, hoe, hobW, hoc, hok⟩ := HO.out k hlt
   have HcW := hd (show ∀ w', Nw W w' → ∀ c, c < 10 → w'.cell? ⟨ob, oo + k * 10 + c, none⟩ = (ops.getD k op0).cells[c]? from fun w' f c hc => (f.cell hobW (fun x => x)).trans (hoc c hc))
   have hct := opsCost_take ops k hlt
   have hcl := opsCost_le ops k
   obtain ⟨op, hop⟩ : ∃ op, ops.getD k op0 = op := ⟨_, rfl⟩
   rw [hop] at HcW hok hct
   have c0 : wr.cell? ⟨ob, oo + k * 10, none⟩ = some (.int .i64 op.kind) := HcW.out wr HP.out.li.env.nw 0 (by omega)
   have hobl : ob < wr.heap.size := Nat.lt_of_lt_of_le hobW HP.out.li.env.nw.size
   have Hok := hd hok
   have Hct := hd hct
   subst hoe
   clear hoc hop hok hct
   by_cases hkm : op.kind ≤ most
   ·have hdm : ¬ (most < op.kind) := by omega
    obtain ⟨ix, hix⟩ : ∃ ix, (if op.which then L'.ss.length - 1 else 0) = ix := ⟨_, rfl⟩
    have hssl : L'.ss.length = n := by rw [HP.out.li.ss, List.length_map, HP.out.len]
    have hixn : ix < ds'.length := by
     rw [← hix, HP.out.len, hssl]
     split <;> omega
    obtain ⟨dx, hdx⟩ : ∃ dx, dx = ds'[ix]'hixn := ⟨_, rfl⟩
    have hssD : L'.ss.getD ix undef = .pointer (some ⟨dx.D, 0, none⟩) := by
     rw [HP.out.li.ss, hdx]
     simp [List.getD, hixn]
    have Hoth := hd (other_any lo B L' op wr.drew (HP.out.li.law.nw ((Fr.refl _ wr).drew)) (by rw [hssl]; exact hn0) (by rw [hssl]; omega))
    rw [hix, hssD] at Hoth
    have HixN := hd hixn
    have Hdx := hd (show ds'[ix]'HixN.out = dx from hdx.symm)
    have hka := HP.out.a
    have hkb := HP.out.b
    have hkr := HP.out.r
    have hroom : LRoom L' := ⟨by omega, by omega, by omega, HP.out.four⟩
    have Hroom := hd hroom
    clear hroom hix hssl hixn hssD hdx
    go_wp2_with fail
    have hK0 : Nw W wr.drew := HP.out.li.env.nw.drew
    refine region_H plyR6 13 (fun w'' => Nw W w'') (by kernel_rfl) (by kernel_rfl) (by kernel_rfl) ?_
    refine take_at (i := 0) (d := some 35) (v := .pointer (some ⟨B, 0, none⟩)) (by kernel_rfl) (by kernel_rfl) (fun _ _ _ h => h) (fun w'' hS => by kernel_rfl) hK0 ?_
    refine take_at (i := 1) (d := some 36) (v := .pointer (some ⟨B, 0, none⟩)) (by kernel_rfl) (by kernel_rfl) (fun _ _ _ h => h) (fun w'' hS => by kernel_rfl) hK0 ?_
    refine take_at (i := 2) (d := some 37) (v := .slice (some ⟨ob, oo, none⟩) ops.length scap) (by kernel_rfl) (by kernel_rfl) (fun _ _ _ h => h) (fun w'' hS => by kernel_rfl) hK0 ?_
    refine take_at (i := 3) (d := some 38) (v := .int .i64 (k : Int)) (by kernel_rfl) (by kernel_rfl) (fun _ _ _ h => h) (fun w'' hS => by kernel_rfl) hK0 ?_
    refine take_at (i := 4) (d := some 39) (v := .pointer (some ⟨ob, oo + k * 10, none⟩)) (by kernel_rfl) (by kernel_rfl) (fun _ _ _ h => h) (fun w'' hS => exec_index10 (i := k) (n := ops.length) (cap := scap) 23 54 (.tmp 37) (.tmp 38) (by kernel_rfl) (by kernel_rfl) (by kernel_rfl) hlt (by kernel_rfl) (by kernel_rfl)) hK0 ?_
    refine take_at (i := 5) (d := some 40) (v := .agg op.cells) (by kernel_rfl) (by kernel_rfl) (fun _ _ _ h => h) (fun w'' hS => exec_load10 54 (.tmp 39) (by kernel_rfl) (by kernel_rfl) (by kernel_rfl) (by kernel_rfl) (HcW.out w'' hS)) hK0 ?_
    refine take_at (i := 7) (d := some 42) (v := .slice (some ⟨ob, oo, none⟩) ops.length scap) (by kernel_rfl) (by kernel_rfl) (fun _ _ _ h => h) (fun w'' hS => by kernel_rfl) hK0 ?_
    refine take_at (i := 8) (d := some 43) (v := .int .i64 (k : Int)) (by kernel_rfl) (by kernel_rfl) (fun _ _ _ h => h) (fun w'' hS => by kernel_rfl) hK0 ?_
    refine take_at (i := 9) (d := some 44) (v := .pointer (some ⟨ob, oo + k * 10, none⟩)) (by kernel_rfl) (by kernel_rfl) (fun _ _ _ h => h) (fun w'' hS => exec_index10 (i := k) (n := ops.length) (cap := scap) 23 54 (.tmp 42) (.tmp 43) (by kernel_rfl) (by kernel_rfl) (by kernel_rfl) hlt (by kernel_rfl) (by kernel_rfl)) hK0 ?_
    refine take_at (i := 10) (d := some 45) (v := .agg op.cells) (by kernel_rfl) (by kernel_rfl) (fun _ _ _ h => h) (fun w'' hS => exec_load10 54 (.tmp 44) (by kernel_rfl) (by kernel_rfl) (by kernel_rfl) (by kernel_rfl) (HcW.out w'' hS)) hK0 ?_
    refine enter_at (i := 6) (d := some 41) (w' := wr.drew) (f := 18) (args := #[.pointer (some ⟨B, 0, none⟩), .agg op.cells]) (by kernel_rfl) (by kernel_rfl) (by kernel_rfl) ?_
    refine Hoth.out.mono ?_
    rintro e w1 ⟨rfl, hf1⟩
    have hf01 : Nw wr w1 := ((Fr.refl _ wr).drew).trans hf1 (fun _ x => x.elim)
    have hLI1 := HP.out.li.nw hf01
    refine ⟨_, rfl, hLI1.env.nw, ?_⟩
    refine enter_at (i := 11) (d := some 46) (w' := w1) (f := 17) (args := #[.pointer (some ⟨B, 0, none⟩), .pointer (some ⟨dx.D, 0, none⟩), .agg op.cells]) (by kernel_rfl) (by kernel_rfl) (by kernel_rfl) ?_
    have hLS1 : LS W w1 lo B L' dx := Hdx.out ▸ hLI1.one ix HixN.out
    have hfree1 : dx.bz = false := Hdx.out ▸ hLI1.free _ (List.getElem_mem HixN.out)
    refine (step_any W lo B L' dx op w1 hLS1 hfree1 (by omega) Hok.out Hroom.out).mono ?_
    rintro e w2 ⟨rfl, L2, d2, hLS2, hst2, hco2⟩
    have hLI2 := hLI1.step ix HixN.out hLS2 (Hdx.out.symm ▸ hst2)
    refine ⟨_, rfl, hLI2.env.nw, ?_⟩
    refine value_at (i := 12) (d := some 9) (v := .bool true) (w' := w2) (by kernel_rfl) (by kernel_rfl) (by kernel_rfl) hLI2.env.nw ?_
    refine wpAnyH_done (by kernel_rfl) ?_ _
    simp only [Act.put, List.setIfInBounds_toArray, List.set_cons_zero, List.set_cons_succ]
    have q1 := hco2.a
    have q2 := hco2.b
    have q3 := hco2.c
    have q4 := Hct.out
    have HP2 : Hid (Play W w w2 lo B L L2 n (k + 1) (opsCost (ops.take (k + 1))) (ds'.set ix d2)) := ⟨hLI2, by rw [List.length_set]; exact HP.out.len, by omega, by omega, by omega, by rw [hst2.four]; exact HP.out.four⟩
    clear hLI2 hLS2 hst2 hco2 q1 q2 q3 q4 hfree1 hLS1 hLI1 hf01 hf1 hK0 hka hkb hkr Hroom Hdx HixN Hoth c0 hobl HP
    go_wp2_with (go_at_call 19; refine (kept_any B _ _ _ _ _ _ _ _ HP2.out.li.law.blk HP2.out.li.law.keeps).mono ?_; rintro e w4 ⟨rfl, rfl⟩)
    exact ⟨⟨k + 1, L2, ds'.set ix d2, by omega, by simp, HP2⟩, by simp [intOf]; omega⟩
   ·have hdm : most < op.kind := by omega
    go_wp2_with fail
    have q1 := HP.out.a
    have q2 := HP.out.b
    have q3 := HP.out.r
    have q4 := Hct.out
    exact ⟨⟨k + 1, L', ds', by omega, by simp, ⟨HP.out.li, HP.out.len, by omega, by omega, by omega, HP.out.four⟩⟩, by simp [intOf]; omega⟩
  ·have hcl := opsCost_le ops k
   have hka := HP.out.a
   have hkb := HP.out.b
   have hkr := HP.out.r
   have HE : Hid (∃ wz, wz = wr) := ⟨wr, rfl⟩
   have hb1 : L'.nums.length ≤ 4194304 := by omega
   have hb2 : L'.turned.length ≤ 1048578 := by omega
   have hb3 : L'.rows.length ≤ 1048576 := by omega
   have HP3 : Hid (LI W wr lo B L' ds' ∧ ds'.length = n ∧ L'.nums.length % 4 = 0) := ⟨HP.out.li, HP.out.len, HP.out.four⟩
   have key : (k < ops.length ∧ ¬ (0 < n)) ∨ ¬ (k < ops.length) := by omega
   clear hka hkb hkr HP hgo HE
   rcases key with ⟨hlt, hn0⟩ | hlt
   ·have hdk : (k : Int) < (ops.length : Int) := by omega
    have hdn : ¬ ((0 : Int) < (n : Int)) := by omega
    go_wp2_with fail
    go_loopw [11, 12] (fun i _ wz => ∃ (j : Nat) (L2 : LW), j ≤ n ∧ i = .int .i64 (j : Int) ∧ Hid (LI W wz lo B L2 ds') ∧ L2.nums.length ≤ L'.nums.length + 40 * j ∧ Hid (L2.nums.length % 4 = 0) ∧ Hid (L2.turned = L'.turned) ∧ Hid (L2.rows = L'.rows)) (fun i _ _ => n - (intOf i).toNat)
    case atStart => exact ⟨0, L', Nat.zero_le _, rfl, HP3.out.1, by omega, HP3.out.2.2, rfl, rfl⟩
    case round =>
     rename World => wz
     obtain ⟨j, L2, hj, rfl, HL, hjn, H4, HTt, HRr⟩ := hrel
     by_cases hjl : j < n
     ·omega
     ·have hdj : ¬ ((j : Int) < (n : Int)) := by omega
      go_wp2_with (go_at_call 19; refine (kept_any B _ _ _ _ _ _ _ _ HL.out.law.blk HL.out.law.keeps).mono ?_; rintro e w4 ⟨rfl, rfl⟩)
      go_ret
      exact ⟨rfl, HL.out.env.nw⟩
   ·have hdk : ¬ ((k : Int) < (ops.length : Int)) := by omega
    go_wp2_with fail
    go_loopw [11, 12] (fun i _ wz => ∃ (j : Nat) (L2 : LW), j ≤ n ∧ i = .int .i64 (j : Int) ∧ Hid (LI W wz lo B L2 ds') ∧ L2.nums.length ≤ L'.nums.length + 40 * j ∧ Hid (L2.nums.length % 4 = 0) ∧ Hid (L2.turned = L'.turned) ∧ Hid (L2.rows = L'.rows)) (fun i _ _ => n - (intOf i).toNat)
    case atStart => exact ⟨0, L', Nat.zero_le _, rfl, HP3.out.1, by omega, HP3.out.2.2, rfl, rfl⟩
    case round =>
     rename World => wz
     obtain ⟨j, L2, hj, rfl, HL, hjn, H4, HTt, HRr⟩ := hrel
     by_cases hjl : j < n
     ·have hdj : (j : Int) < (n : Int) := by omega
      obtain ⟨dx, hdx⟩ : ∃ dx, dx = ds'[j]'(by rw [HP3.out.2.1]; exact hjl) := ⟨_, rfl⟩
      have HjD := hd (show j < ds'.length from by rw [HP3.out.2.1]; exact hjl)
      have Hdx := hd (show ds'[j]'HjD.out = dx from hdx.symm)
      obtain ⟨g2, c2, hsv, hown2, hcj, _⟩ := HL.out.law.sides.cell j (by rw [HL.out.ss, List.length_map]; exact HjD.out)
      have hsl : L2.ss.length = n := by rw [HL.out.ss, List.length_map, HP3.out.2.1]
      rw [hsl] at hsv
      have e0 : wz.cell? ⟨B, 0, none⟩ = some (.slice (some ⟨g2, 0, none⟩) n c2) := by
       have := HL.out.law.blk.cell 0
       rw [hsv] at this
       exact this
      have e1 : wz.cell? ⟨g2, j, none⟩ = some (.pointer (some ⟨dx.D, 0, none⟩)) := by
       rw [hcj, hdx]
       have : L2.ss[j]? = some (.pointer (some ⟨(ds'[j]'HjD.out).D, 0, none⟩)) := by rw [HL.out.ss, List.getElem?_map, List.getElem?_eq_getElem HjD.out]; rfl
       rw [List.getElem?_eq_getElem (by rw [hsl]; exact hjl)] at this
       exact this
      have hBlz := HL.out.law.blk.lt
      have hg2l := HL.out.law.sides.lt hown2
      have hLS : LS W wz lo B L2 dx := Hdx.out ▸ HL.out.one j HjD.out
      have hfr : dx.bz = false := Hdx.out ▸ HL.out.free _ (List.getElem_mem HjD.out)
      have Hcall := hd (ended_any W lo B L2 dx most wz hLS hfr (by omega) (by omega) H4.out (by rw [HTt.out]; omega) (by rw [HRr.out]; omega))
      clear hLS hfr hcj hsv hown2 hsl hdx
      go_wp2_with (go_at_call 20; refine Hcall.out.mono ?_; rintro e w5 ⟨rfl, L3, h1, h2, h3, h5, h6⟩; have HL3 := hd (HL.out.step j HjD.out h1 (Hdx.out.symm ▸ h2)); have H34 := hd h2.four; have H3 := hd h3; have H5 := hd h5; have H6 := hd h6; clear h1 h2 h3 h5 h6)
      have h3 := H3.out
      refine ⟨⟨j + 1, L3, by omega, by simp, ?_, by omega, hd (by rw [H34.out]; exact H4.out), hd (H5.out.trans HTt.out), hd (H6.out.trans HRr.out)⟩, by simp [intOf]; omega⟩
      have := HL3.out
      rw [← Hdx.out, List.set_getElem_self] at this
      exact this
     ·have hdj : ¬ ((j : Int) < (n : Int)) := by omega
      go_wp2_with (go_at_call 19; refine (kept_any B _ _ _ _ _ _ _ _ HL.out.law.blk HL.out.law.keeps).mono ?_; rintro e w4 ⟨rfl, rfl⟩)
      go_ret
      exact ⟨rfl, HL.out.env.nw⟩
end Go.Proofs.YtkjfpdfkcfgfkaaGreat

namespace Go.Proofs.YtkjfpdfkcfgfkaaGreat
open Go.ChangeShapes Go.WideShapes Go.ChangeAt Go.RowKit

theorem Tryz.ownK : ownKnob Tryz.prog.godebug = none := by kernel_rfl
theorem Tryz.laidK : laidOutB Tryz.prog = true := by kernel_rfl
theorem Tryz.cInts : Tryz.prog.cellsOf 22 = 1 := by kernel_rfl
theorem Tryz.cRows : Tryz.prog.cellsOf 26 = 1 := by kernel_rfl
theorem Tryz.cInt : Tryz.prog.cellsOf 3 = 1 := by kernel_rfl
theorem Tryz.cBool : Tryz.prog.cellsOf 4 = 1 := by kernel_rfl
theorem Tryz.cTable : Tryz.prog.cellsOf 41 = 4 := by kernel_rfl
theorem Tryz.cOp : Tryz.prog.cellsOf 54 = 10 := by kernel_rfl
theorem bulk_one {H : Type} (d : DataW H) : 1 ≤ Rows.uptoBulk d := by
 cases d with
 | lit l => cases l <;> simp [Rows.uptoBulk]
 | nil => simp [Rows.uptoBulk]
 | ptr d => simp [Rows.uptoBulk]
 | slice elems spare => simp [Rows.uptoBulk]
 | agg parts => simp [Rows.uptoBulk]
 | iface t d => simp [Rows.uptoBulk]
 | map entries => simp [Rows.uptoBulk]
 | held h => simp [Rows.uptoBulk]
theorem bulk_mem {H : Type} : ∀ {l : List (DataW H)} {d : DataW H}, d ∈ l → Rows.uptoBulk d ≤ Rows.uptoBulkAll l
 | x :: l, d, h => by
  rw [Rows.uptoBulkAll]
  rcases List.mem_cons.1 h with rfl | h
  ·omega
  ·have := bulk_mem h
   omega
theorem bulk_len {H : Type} : ∀ (l : List (DataW H)), l.length ≤ Rows.uptoBulkAll l
 | [] => by simp
 | x :: l => by
  have h1 := bulk_one x
  have h2 := bulk_len l
  rw [Rows.uptoBulkAll, List.length_cons]
  omega
theorem bulk_append {H : Type} : ∀ (a b : List (DataW H)), Rows.uptoBulkAll (a ++ b) = Rows.uptoBulkAll a + Rows.uptoBulkAll b
 | [], b => by simp [Rows.uptoBulkAll]
 | x :: a, b => by
  have := bulk_append a b
  rw [List.cons_append, Rows.uptoBulkAll, Rows.uptoBulkAll, this]
  omega
theorem bulk_slice {H : Type} (a b : List (DataW H)) : Rows.uptoBulk (.slice a b) = Rows.uptoBulkAll a + Rows.uptoBulkAll b + 1 := by rw [Rows.uptoBulk]
theorem bulk_agg {H : Type} (a : List (DataW H)) : Rows.uptoBulk (.agg a) = Rows.uptoBulkAll a + 1 := by rw [Rows.uptoBulk]
theorem cam_row {H : Type} {enc : TypeId × Value → H} {W : World} {fuel : Nat} {v : Value} {x : DataW H × List MemPlace} (h : DataW.trod enc Tryz.prog W 0 (fun _ => true) true fuel 22 [v] = some x) :
  ∃ (a : Option Addr) (cap : Nat) (zs : List Int), v = .slice a zs.length cap ∧ IntsAt W a zs ∧ zs.length + 1 ≤ Rows.uptoBulk x.1 := by
 rcases open_ints Tryz.underlying22 Tryz.underlying3 (by kernel_rfl) h with ⟨hcs, hx⟩ | ⟨a, len, cap, zs, hcs, _, hl, hm, hz, hx, hcell, hwz⟩
 ·obtain rfl : v = .slice none 0 0 := by simpa using hcs
  exact ⟨none, 0, [], rfl, fun i hi => absurd hi (Nat.not_lt_zero _), bulk_one _⟩
 ·obtain rfl : v = .slice (some a) len cap := by simpa using hcs
  simp only [if_true] at hz
  have hzl : (zs.take len).length = len := by simp; omega
  refine ⟨some a, cap, zs.take len, by rw [hzl], fun i hi => ?_, ?_⟩
  ·rw [hzl] at hi
   have hc := hcell i (by omega)
   obtain ⟨b, o, rfl, _⟩ := ints_at hcell (by omega)
   rw [show (⟨b, o, none⟩ : Addr).add i = ⟨b, o + i, none⟩ from by simp [Addr.add]] at hc
   refine ⟨b, o, rfl, World.block_lt_of_cell? W _ hc, ?_⟩
   rw [hc]
   simp [List.getElem?_take_of_lt hi]
  ·subst hx
   rw [bulk_slice]
   have := bulk_len (H := H) (lits .i64 (zs.take len))
   simp only [lits, List.length_map] at this ⊢
   omega
theorem cam_rows {H : Type} {enc : TypeId × Value → H} {W : World} {fuel : Nat} {v : Value} {x : DataW H × List MemPlace} (h : DataW.trod enc Tryz.prog W 0 (fun _ => true) true fuel 26 [v] = some x) :
  ∃ (a : Option Addr) (cap : Nat) (rows : List (List Int)), v = .slice a rows.length cap ∧ RowsAt W a rows ∧ rows.length + 1 ≤ Rows.uptoBulk x.1 ∧ ∀ r ∈ rows, r.length ≤ Rows.uptoBulk x.1 := by
 rcases Deep.open_slice1 Tryz.underlying26 Tryz.cInts h with ⟨hcs, hx⟩ | ⟨a, len, cap, m, n, V, D, Pl, hcs, hb, hl, hm, hmm, hx, hel⟩
 ·obtain rfl : v = .slice none 0 0 := by simpa using hcs
  exact ⟨none, 0, [], rfl, fun i hi => absurd hi (Nat.not_lt_zero _), bulk_one _, fun r hr => (by cases hr)⟩
 ·obtain rfl : v = .slice (some a) len cap := by simpa using hcs
  simp only [if_true] at hmm
  subst hx
  have each : ∀ i, i < len → ∃ r : List Int, (∃ b o ra rc, a = ⟨b, o, none⟩ ∧ b < W.heap.size ∧ W.cell? ⟨b, o + i, none⟩ = some (.slice ra r.length rc) ∧ IntsAt W ra r) ∧ r.length + 1 ≤ Rows.uptoBulk (D i) := fun i hi => by
   obtain ⟨h1, h2⟩ := hel i (by omega)
   obtain ⟨ra, rc, r, hv, hI, hbk⟩ := cam_row h2
   refine ⟨r, ?_, hbk⟩
   have hsp : a.spot = none := by
    have h0 := (hel 0 (by omega)).1
    rw [show a.add 0 = a from by simp [Addr.add]] at h0
    exact World.cell?_spot h0
   obtain ⟨ab, ao, ai⟩ := a
   obtain rfl : ai = none := hsp
   rw [add_plain, hv] at h1
   exact ⟨ab, ao, ra, rc, rfl, World.block_lt_of_cell? W _ h1, h1, hI⟩
  haveI : Inhabited (List Int) := ⟨[]⟩
  obtain ⟨R, hR⟩ := Deep.choose_lt each
  have hbe : ∀ i, i < len → Rows.uptoBulk (D i) ≤ Rows.uptoBulkAll ((List.range len).map D) := fun i hi => bulk_mem (List.mem_map.2 ⟨i, List.mem_range.2 hi, rfl⟩)
  refine ⟨some a, cap, (List.range len).map R, by simp, fun i hi => ?_, ?_, fun r hr => ?_⟩
  ·rw [List.length_map, List.length_range] at hi
   obtain ⟨⟨b, o, ra, rc, rfl, hbl, hc, hI⟩, _⟩ := hR i hi
   have e : ((List.range len).map R).getD i [] = R i := by simp [List.getD, hi]
   rw [e]
   exact ⟨b, o, ra, rc, rfl, hbl, hc, hI⟩
  ·rw [bulk_slice]
   have := bulk_len ((List.range len).map D)
   simp only [List.length_map, List.length_range] at this ⊢
   omega
  ·obtain ⟨i, hi, rfl⟩ := List.mem_map.1 hr
   have hi' := List.mem_range.1 hi
   have h1 := (hR i hi').2
   have h2 := hbe i hi'
   rw [bulk_slice]
   omega
theorem cost_bulk {H : Type} (R : Nat → OpV) (D : Nat → DataW H) : ∀ n, (∀ i, i < n → opCost (R i) ≤ Rows.uptoBulk (D i)) → opsCost ((List.range n).map R) ≤ Rows.uptoBulkAll ((List.range n).map D)
 | 0, _ => by simp [opsCost]
 | n + 1, h => by
  have ih := cost_bulk R D n (fun i hi => h i (by omega))
  have h1 := h n (by omega)
  rw [List.range_succ, List.map_append, List.map_append, opsCost_append, bulk_append, List.map_singleton, List.map_singleton]
  have e1 : opsCost [R n] = opCost (R n) := by simp [opsCost]
  have e2 : Rows.uptoBulkAll [D n] = Rows.uptoBulk (D n) := by simp [Rows.uptoBulkAll]
  rw [e1, e2]
  omega
set_option maxRecDepth 100000 in
theorem cam_ops {H : Type} {enc : TypeId × Value → H} {W : World} {fuel : Nat} {v : Value} {x : DataW H × List MemPlace} (h : DataW.trod enc Tryz.prog W 0 (fun _ => true) true fuel 23 [v] = some x) (hw : Rows.uptoBulk x.1 ≤ 1048576) :
  ∃ (a : Option Addr) (cap : Nat) (ops : List OpV), v = .slice a ops.length cap ∧ OpsAt W a ops ∧ opsCost ops ≤ Rows.uptoBulk x.1 := by
 rcases Deep.open_slice Tryz.underlying23 h with ⟨hcs, hx⟩ | ⟨a, len, cap, m, n, D, Pl, hcs, hb, hl, hm, hmm, hx, hel⟩
 ·obtain rfl : v = .slice none 0 0 := by simpa using hcs
  exact ⟨none, 0, [], rfl, fun i hi => absurd hi (Nat.not_lt_zero _), Nat.zero_le _⟩
 ·obtain rfl : v = .slice (some a) len cap := by simpa using hcs
  simp only [if_true] at hmm
  subst hx
  rw [bulk_slice] at hw ⊢
  have hspot : 0 < len → a.spot = none := fun h0 => by
   obtain ⟨cs', h1, _⟩ := hel 0 (by omega)
   rw [Tryz.cOp] at h1
   obtain ⟨_, hlen, hcell⟩ := World.cells?_some h1
   have e0 := hcell 0 (by omega)
   rw [Deep.add_add] at e0
   have e1 : W.cell? a = some cs'[0] := by
    simpa [Addr.add, hlen] using e0
   exact World.cell?_spot e1
  have each : ∀ i, i < len → ∃ r : OpV, (∃ b o, a = ⟨b, o, none⟩ ∧ b < W.heap.size ∧ (∀ c, c < 10 → W.cell? ⟨b, o + i * 10 + c, none⟩ = r.cells[c]?) ∧ OpOk W r) ∧ opCost r ≤ Rows.uptoBulk (D i) := fun i hi => by
   have hDi : Rows.uptoBulk (D i) ≤ Rows.uptoBulkAll ((List.range len).map D) := bulk_mem (List.mem_map.2 ⟨i, List.mem_range.2 hi, rfl⟩)
   obtain ⟨cs', h1, h2⟩ := hel i (by omega)
   rw [Tryz.cOp] at h1
   obtain ⟨_, hlen, hcell⟩ := World.cells?_some h1
   obtain ⟨xs, k, hk, hxy, _, hxl, hf⟩ := DataW.trod_struct Tryz.underlying54 h2
   match xs, hxl, cs', hlen with
   | [y0, y1, y2, y3, y4, y5, y6], _, [v0, v1, v2, v3, v4, v5, v6, v7, v8, v9], _ =>
    have g0 := hf 0 _ rfl
    have g1 := hf 1 _ rfl
    have g2 := hf 2 _ rfl
    have g3 := hf 3 _ rfl
    have g4 := hf 4 _ rfl
    simp only [List.getElem_toArray, List.getElem_cons_zero, List.getElem_cons_succ, Tryz.cInt, Tryz.cBool, Tryz.cTable, List.drop_zero, List.drop_succ_cons, List.take_succ_cons, List.take_zero, List.getElem?_cons_zero, List.getElem?_cons_succ] at g0 g1 g2 g3 g4
    obtain ⟨kind, hv0, _⟩ := DataW.trod_int Tryz.underlying3 g0
    obtain ⟨oa, hv1, _⟩ := DataW.trod_int Tryz.underlying3 g1
    obtain ⟨obb, hv2, _⟩ := DataW.trod_int Tryz.underlying3 g2
    obtain ⟨which, hv7, _⟩ := DataW.trod_bool Tryz.underlying4 g4
    obtain ⟨ts, k2, hk2, hty, _, htl, htf⟩ := DataW.trod_struct Tryz.underlying41 g3
    match ts, htl with
    | [t0, t1, t2, t3], _ =>
     have q0 := htf 0 _ rfl
     have q1 := htf 1 _ rfl
     have q2 := htf 2 _ rfl
     have q3 := htf 3 _ rfl
     simp only [List.getElem_toArray, List.getElem_cons_zero, List.getElem_cons_succ, Tryz.cInts, Tryz.cRows, Tryz.cInt, Tryz.cBool, List.drop_zero, List.drop_succ_cons, List.take_succ_cons, List.take_zero, List.getElem?_cons_zero, List.getElem?_cons_succ] at q0 q1 q2 q3
     obtain ⟨vo, vcap, vars, hv3, hIv, hbv⟩ := cam_row q0
     obtain ⟨ro, rcap, rows, hv4, hRr, hbr, hbrr⟩ := cam_rows q1
     obtain ⟨nt, hv5, _⟩ := DataW.trod_bool Tryz.underlying4 q2
     obtain ⟨way, hv6, _⟩ := DataW.trod_int Tryz.underlying3 q3
     obtain rfl : v0 = .int .i64 kind := by simpa using hv0
     obtain rfl : v1 = .int .i64 oa := by simpa using hv1
     obtain rfl : v2 = .int .i64 obb := by simpa using hv2
     obtain rfl : v7 = .bool which := by simpa using hv7
     obtain rfl : v5 = .bool nt := by simpa using hv5
     obtain rfl : v6 = .int .i64 way := by simpa using hv6
     subst hv3
     subst hv4
     simp only [Prod.mk.injEq] at hxy hty
     have hT : Rows.uptoBulk y3.1 ≤ Rows.uptoBulk (D i) := by
      rw [hxy.1, bulk_agg]
      have := bulk_mem (H := H) (l := [y0, y1, y2, y3, y4, y5, y6].map (·.1)) (d := y3.1) (by simp)
      omega
     have hT0 : Rows.uptoBulk t0.1 + Rows.uptoBulk t1.1 + 1 ≤ Rows.uptoBulk y3.1 := by
      rw [hty, bulk_agg]
      simp only [List.map_cons, List.map_nil, Rows.uptoBulkAll]
      omega
     have hsp := hspot (by omega)
     obtain ⟨ab, ao, ai⟩ := a
     obtain rfl : ai = none := hsp
     refine ⟨⟨kind, oa, obb, vo, vcap, ro, rcap, vars, rows, nt, way, which, v8, v9⟩, ⟨ab, ao, rfl, ?_, fun c hc => ?_, ⟨hIv, hRr, ?_, ?_, fun r hr => ?_⟩⟩, ?_⟩
     ·have e0 := hcell 0 (by omega)
      rw [Deep.add_add, add_plain] at e0
      exact World.block_lt_of_cell? W _ e0
     ·have e0 := hcell c hc
      rw [Deep.add_add, add_plain] at e0
      rw [Nat.add_assoc]
      refine e0.trans ?_
      have hcl : c = 0 ∨ c = 1 ∨ c = 2 ∨ c = 3 ∨ c = 4 ∨ c = 5 ∨ c = 6 ∨ c = 7 ∨ c = 8 ∨ c = 9 := by omega
      rcases hcl with rfl | rfl | rfl | rfl | rfl | rfl | rfl | rfl | rfl | rfl <;> rfl
     ·show vars.length ≤ _
      omega
     ·show rows.length ≤ _
      omega
     ·have := hbrr r hr
      omega
     ·show 1 + rows.length ≤ _
      omega
  haveI : Inhabited OpV := ⟨op0⟩
  obtain ⟨R, hR⟩ := Deep.choose_lt each
  refine ⟨some a, cap, (List.range len).map R, by simp, fun i hi => ?_, ?_⟩
  ·rw [List.length_map, List.length_range] at hi
   obtain ⟨⟨b, o, rfl, hb', hc, hok⟩, _⟩ := hR i hi
   have e : ((List.range len).map R).getD i op0 = R i := by simp [List.getD, hi]
   rw [e]
   exact ⟨b, o, rfl, hb', hc, hok⟩
  ·have := cost_bulk R D len (fun i hi => (hR i hi).2)
   omega
end Go.Proofs.YtkjfpdfkcfgfkaaGreat

namespace Go.Proofs.YtkjfpdfkcfgfkaaGreat
open Go.RowKit

set_option maxHeartbeats 1600000 in
set_option maxRecDepth 1000000 in
theorem opens_more (B : Nat) (sv nv tv rv : Value) (ss ts : List Value) (ao : Option Addr) (cap : Nat) (zs : List Int) (w : World) (hlen : 1 ≤ zs.length) (hlen8 : zs.length ≤ 8)
  (hB : Blk w B #[sv, nv, tv, rv] 29) (htv : Row w tv 22 ts) (hts : (ts.length + 1) * 24 ≤ 140737488355328) (hsv : Row w sv 49 ss) (hss : (ss.length + 1) * 8 ≤ 140737488355328) (hl : IntsAt w ao zs) :
  Calls Tryz.prog 8 #[.pointer (some ⟨B, 0, none⟩), .slice ao zs.length cap] w fun e w' =>
   e = .returned (.bool true) ∧ ∃ sv' tv', Fr (fun k => k = B ∨ tv.ownBlock = some k ∨ sv.ownBlock = some k) w w' ∧ Blk w' B #[sv', nv, tv', rv] 29 ∧
    Row w' tv' 22 (ts ++ [.slice (some ⟨w.heap.size, 0, none⟩) (zs.length + 1) (zs.length + 1)]) ∧ Blk w' w.heap.size (turnedTo zs (zs.length + 1)) 3 ∧
    (∀ k, tv'.ownBlock = some k → tv.ownBlock = some k ∨ w.heap.size ≤ k) ∧
    ((okSizes zs = false ∧ sv' = sv ∧ Row w' sv 49 ss) ∨ (okSizes zs = true ∧ ∃ D X Y szv, Row w' sv' 49 (ss ++ [.pointer (some ⟨D, 0, none⟩)]) ∧ (∀ k, sv'.ownBlock = some k → sv.ownBlock = some k ∨ w.heap.size ≤ k) ∧
     Blk w' D (sideCells X Y) 52 ∧ Blk w' X (workCells szv (fullTo zs zs.length) nilS rest0) 66 ∧ Row w' szv 3 (zs.map (Value.int .i64)) ∧ w.heap.size ≤ D ∧ w.heap.size ≤ X ∧ ∃ lo2, w.heap.size < lo2 ∧ (∀ k, szv.ownBlock = some k → w.heap.size < k ∧ k < lo2) ∧ lo2 ≤ Y ∧ RefAt w' lo2 Y zs (allIn zs zs.length) false nilS nilS)) := by
 have hBlt := hB.lt
 obtain ⟨b, o, rfl, hbl, _⟩ := hl 0 (by omega)
 obtain ⟨i0, hi, hz0, hz1, hz2⟩ := info_parts Tryz.infoSide
 cases hok : okSizes zs with
 | false =>
  have Hok := hd hok
  clear hok
  go_enter Tryz.func8, Tryz.ntmps8
  go_wp2_with (first
   | (go_at_call 14; refine (lent_any _ _ zs _ (by omega) hl).mono ?_; rintro e w1 ⟨rfl, hf1, hg1⟩; have hown : IntsAt w1 (some ⟨w.heap.size, 0, none⟩) zs := IntsAt.of_blk hg1 0 zs (fun i hi => by simp [List.getElem?_append_left, hi]))
   | (go_at_call 10; refine (new_no _ _ _ zs _ hlen hlen8 hown Hok.out).mono ?_; rintro e w2 ⟨hf2, rfl⟩; have hl2 := (hl.nw hf1).nw hf2)
   | (go_at_call 15; refine (refNew_no _ _ _ zs _ hlen hlen8 hl2 Hok.out).mono ?_; rintro e w3 ⟨hf3, rfl⟩)
   | (go_at_call 16; refine (returned_any B w.heap.size (some ⟨b, o, none⟩) cap zs sv nv tv rv ts _ (by omega) (((hB.nw hf1).nw hf2).nw hf3) (((htv.nw hf1).nw hf2).nw hf3) hts ((hg1.nw hf2).nw hf3) (hl2.nw hf3)).mono ?_; rintro e w4 ⟨rfl, tv', hf4, hB4, htv4, hg4, hlo4⟩))
  go_ret
  have hf13 : Nw w w3 := (hf1.trans hf2 (fun i h => h.elim)).trans hf3 (fun i h => h.elim)
  refine ⟨rfl, sv, tv', (hf13.mono (fun i h => h.elim)).trans hf4 ?_, hB4, htv4, hg4, ?_, .inl ⟨by trivial, rfl, (((hsv.nw hf1).nw hf2).nw hf3).fr hf4 (fun k hk e => opens_apart (((hsv.nw hf1).nw hf2).nw hf3) (((hB.nw hf1).nw hf2).nw hf3) ((hg1.nw hf2).nw hf3) (((htv.nw hf1).nw hf2).nw hf3) k hk e)⟩⟩
  ·rintro i (h | h | h)
   ·exact .inl (.inl h)
   ·exact .inr (by omega)
   ·exact .inl (.inr (.inl h))
  ·intro k hk
   rcases hlo4 k hk with h | h
   ·exact .inl h
   ·exact .inr (Nat.le_trans hf13.size h)
 | true =>
  have Hok := hd hok
  clear hok
  go_enter Tryz.func8, Tryz.ntmps8
  go_wp2_with (first
   | (go_at_call 14; refine (lent_any _ _ zs _ (by omega) hl).mono ?_; rintro e w1 ⟨rfl, hf1, hg1⟩; have hown : IntsAt w1 (some ⟨w.heap.size, 0, none⟩) zs := IntsAt.of_blk hg1 0 zs (fun i hi => by simp [List.getElem?_append_left, hi]))
   | (go_at_call 10; refine (new_ok _ _ _ zs _ hlen hlen8 hown Hok.out).mono ?_; rintro e w2 ⟨hf2, X, szv, rfl, hX2, hsz2, hXlo, hszlo⟩; have hl2 := (hl.nw hf1).nw hf2)
   | (go_at_call 15; refine (refNew_ok _ _ _ zs _ hlen hlen8 hl2 Hok.out).mono ?_; rintro e w3 ⟨hf3, Y, rfl, hYlo, hY3⟩)
   | (go_at_call 16; refine (returned_any B w.heap.size (some ⟨b, o, none⟩) cap zs sv nv tv rv ts _ (by omega) (((hB.nw hf1).nw hf2).nw hf3) (((htv.nw hf1).nw hf2).nw hf3) hts ((hg1.nw hf2).nw hf3) (hl2.nw hf3)).mono ?_; rintro e w4 ⟨rfl, tv', hf4, hB4, htv4, hg4, hlo4⟩; have hcB4 : w4.cell? ⟨B, 0, none⟩ = some sv := hB4.cell 0; have hsv4 : Row w4 sv 49 ss := (((hsv.nw hf1).nw hf2).nw hf3).fr hf4 (fun k hk e => opens_apart (((hsv.nw hf1).nw hf2).nw hf3) (((hB.nw hf1).nw hf2).nw hf3) ((hg1.nw hf2).nw hf3) (((htv.nw hf1).nw hf2).nw hf3) k hk e))
   | (at_builtin; refine wpList_append_own_at _ rfl _ _ 25 rfl 0 49 i0 (.pointer none) 1 8 Tryz.underlying25 hi hz0 hz1 hz2 rfl (by decide) _ _ _ rfl ((hsv4.alloc _).alloc _) ⟨w4.heap.size + 1, 0, none⟩ 1 1 [.pointer (some ⟨w4.heap.size, 0, none⟩)] rfl rfl (by have := cell_one_new (w4.alloc (.cells (sideCells X Y) 52)) (.pointer (some ⟨w4.heap.size, 0, none⟩)) 49; simpa [sideCells] using this) (by simp [Value.oneCell']) (by unfold maxLen; omega) (by omega) (Nat.zero_le _) ?_; intro v' w5 hown' hgrow _ hat; obtain ⟨g', cap', rfl, hr5, hf5, ha5, hlt5⟩ := app1 (w := w4.alloc (.cells (sideCells X Y) 52)) hown' hgrow hat; have hB5 : Blk w5 B #[sv, nv, tv', rv] 29 := (hB4.alloc _).fr hf5 (fun e => hsv4.ne hB4 (by decide) e); have hfz5 := hB5.free 0; have hc5 : w5.cell? ⟨B, 0, none⟩ = some sv := hB5.cell 0; clear hown' hgrow hat))
  have hf13 : Nw w w3 := (hf1.trans hf2 (fun i h => h.elim)).trans hf3 (fun i h => h.elim)
  have hsz1 := hf1.size
  have hsz2' := hf2.size
  have hsz3 := hf3.size
  have hsz4 := hf4.size
  have hD5 : Blk w5 w4.heap.size (sideCells X Y) 52 := (Blk.new w4 _ _).fr hf5 (fun e => by
   have := hsv4.lt e
   omega)
  have hg'B : g' ≠ B := fun e => by
   subst e
   exact hr5.ne hB5 (by decide) rfl
  have hs4 : ∀ k, (k = B ∨ k = w.heap.size ∨ tv.ownBlock = some k) → k < w1.heap.size := by
   rintro k (h | h | h)
   ·omega
   ·have := hg1.lt; omega
   ·have := htv.lt h; omega
  have hX4 : Blk w4 X (workCells szv (fullTo zs zs.length) nilS rest0) 66 := (hX2.nw hf3).fr hf4 (fun e => by have := hs4 _ e; omega)
  have hr4 : Row w4 szv 3 (zs.map (Value.int .i64)) := (hsz2.nw hf3).fr hf4 (fun k hk e => by have := hs4 _ e; have := hszlo k hk; omega)
  have hY4 : RefAt w4 w2.heap.size Y zs (allIn zs zs.length) false nilS nilS := hY3.fr hf4 (fun k e => by have := hs4 _ e; omega)
  have hs5 : ∀ k, (k = B ∨ sv.ownBlock = some k) → k < w.heap.size := by
   rintro k (h | h)
   ·omega
   ·exact hsv.lt h
  have F5 : Fr (fun k => k = B ∨ sv.ownBlock = some k) w4 (w5.setCell ⟨B, 0, none⟩ (.slice (some ⟨g', 0, none⟩) (ss.length + 1) cap')) :=
   ((((Fr.refl (fun k => k = B ∨ sv.ownBlock = some k) w4).alloc _).trans hf5 (fun k h => .inl (.inr h))).setCell _ _ (.inl (.inl rfl)))
  have F5' : Fr (fun k => k = B) w5 (w5.setCell ⟨B, 0, none⟩ (.slice (some ⟨g', 0, none⟩) (ss.length + 1) cap')) := (Fr.refl _ w5).setCell _ _ (.inl rfl)
  have hnB : ∀ cur e, Blk w4 B cur e → e = 29 := fun cur e h => (h.inj hB4).2
  have hapart : ∀ (k : Nat) (v : Value) (xs : List Value), Row w4 v 22 xs → v.ownBlock = some k → ¬ (k = B ∨ sv.ownBlock = some k) := by
   rintro k v xs hv hk (e | e)
   ·subst e; exact hv.ne hB4 (by decide) hk
   ·obtain ⟨cur, hb, _⟩ := hv.blk hk
    exact hsv4.ne hb (by decide) e
  have hlow : ∀ k, (k = B ∨ sv.ownBlock = some k) → ¬ w.heap.size ≤ k := fun k h => by have := hs5 k h; omega
  go_ret
  refine ⟨rfl, .slice (some ⟨g', 0, none⟩) (ss.length + 1) cap', tv', ?_, ?_, ?_, ?_, ?_, .inr ⟨by trivial, w4.heap.size, X, Y, szv, ?_⟩⟩
  ·refine ((hf13.mono (fun i h => h.elim)).trans hf4 ?_).trans F5 ?_
   ·rintro i (h | h | h)
    ·exact .inl (.inl h)
    ·exact .inr (by omega)
    ·exact .inl (.inr (.inl h))
   ·rintro i (h | h)
    ·exact .inl (.inl h)
    ·exact .inl (.inr (.inr h))
  ·have := hB5.set 0 (.slice (some ⟨g', 0, none⟩) (ss.length + 1) cap')
   simpa using this
  ·exact htv4.fr F5 (fun k hk => hapart k _ _ htv4 hk)
  ·exact hg4.fr F5 (fun e => hlow _ e (Nat.le_refl _))
  ·intro k hk
   rcases hlo4 k hk with h | h
   ·exact .inl h
   ·exact .inr (by omega)
  ·refine ⟨hr5.fr F5' (fun k hk e => hg'B (by cases hk; exact e)), ?_, hD5.fr F5' (fun e => by omega), hX4.fr F5 (fun e => hlow _ e (by omega)), hr4.fr F5 (fun k hk e => hlow _ e (by have := hszlo k hk; omega)), by omega, by omega, w2.heap.size, by have := hg1.lt; omega, fun k hk => ⟨by have := hszlo k hk; have := hg1.lt; omega, hsz2.lt hk⟩, hYlo, ?_⟩
   ·intro k hk
    cases hk
    rcases ha5 with h | h
    ·exact .inl h
    ·exact .inr (by simp at h; show w.heap.size ≤ g'; omega)
   ·exact hY4.fr F5 (fun k e => by have := hs5 k e; omega)
theorem allIn_get (zs : List Int) (q : Nat) (hq : q < zs.length) : (allIn zs zs.length).getD q [] = List.replicate (zs.getD q 0).toNat true := by
 simp [allIn, List.getD, hq]
theorem allIn_len (zs : List Int) : (allIn zs zs.length).length = zs.length := by simp [allIn]
theorem domB_all {zs : List Int} (hok : okSizes zs = true) : domB (allIn zs zs.length) = fullTo zs zs.length := by
 obtain ⟨h0, h8⟩ := okSizes_len hok
 have h6 : ∀ u, u < (allIn zs zs.length).length → ((allIn zs zs.length).getD u []).length ≤ 6 := fun u hu => by
  rw [allIn_len] at hu
  rw [allIn_get zs u hu, List.length_replicate]
  have := (okSizes_get hok u hu).2
  omega
 have key : ∀ q v, ((domB (allIn zs zs.length)).getD q 0).testBit v = ((fullTo zs zs.length).getD q 0).testBit v := fun q v => by
  rw [domB_bit _ (by rw [allIn_len]; exact h8) h6, fullTo_get zs h8]
  by_cases hq : q < zs.length
  ·rw [if_pos hq, allIn_get zs q hq, Nat.testBit_two_pow_sub_one]
   obtain ⟨m, hm⟩ : ∃ m, (zs.getD q 0).toNat = m := ⟨_, rfl⟩
   rw [hm]
   by_cases hv : v < m
   ·simp [List.getD, hv]
   ·simp [List.getD, hv]
  ·rw [if_neg hq]
   have : (allIn zs zs.length).getD q [] = [] := by
    simp only [List.getD]
    rw [List.getElem?_eq_none (by rw [allIn_len]; omega)]
    rfl
   rw [this]
   simp
 exact SubD.eq (domB_dm _) (full_dm hok) (fun q v h => by rw [← key]; exact h) (fun q v h => by rw [key]; exact h)
theorem Pair.new {W w : World} {lo lo2 X Y : Nat} {zs : List Int} {szv : Value} (hok : okSizes zs = true) (hB : Blk w X (workCells szv (fullTo zs zs.length) nilS rest0) 66) (hr : Row w szv 3 (zs.map (Value.int .i64))) (hX : lo ≤ X) (hs : ∀ k, szv.ownBlock = some k → lo ≤ k ∧ k < lo2) (hlo2 : lo ≤ lo2) (hY : lo2 ≤ Y) (hR : RefAt w lo2 Y zs (allIn zs zs.length) false nilS nilS) :
  ∃ R, Pair false W w lo X Y zs (ws0 zs szv) R ∧ (∀ k, R.own Y k → lo2 ≤ k) := by
 obtain ⟨rsz, inv, vs, h1, h2, h3, h4, h5, h6⟩ := hR.ex
 obtain ⟨hz0, hz8⟩ := okSizes_len hok
 have hRA : RAt W w lo Y zs ⟨rsz, ⟨inv, vs, allIn zs zs.length, false⟩, nilS, [], nilS, []⟩ := by
  refine ⟨⟨h1, h2, h3, ⟨h4.len, h4.row, h4.ne, fun i hi k hk => Nat.le_trans hlo2 (h4.lo i hi k hk)⟩, allIn_len zs, fun u hu => ?_, hok, fun k hk => Nat.le_trans hlo2 (h5 k hk), fun k hk => Nat.le_trans hlo2 (h6 k hk), Nat.le_trans hlo2 hY⟩, ⟨[], World.ownsRow_nil _ _ _ _, fun i hi => absurd hi (Nat.not_lt_zero _)⟩, Nat.zero_le _, fun i hi => absurd hi (Nat.not_lt_zero _), World.ownsRow_nil _ _ _ _, fun l hl => (by cases hl), Nat.zero_le _, ?_, fun k hk => (by cases hk), fun k hk => (by cases hk)⟩
  ·show ((allIn zs zs.length).getD u []).length = _
   rw [allIn_get zs u hu, List.length_replicate]
  ·exact List.pairwise_cons.2 ⟨fun b hb => (by cases hb), List.Pairwise.nil⟩
 have hown : ∀ k, RS.own Y ⟨rsz, ⟨inv, vs, allIn zs zs.length, false⟩, nilS, [], nilS, []⟩ k → lo2 ≤ k := fun k hk => by
  rcases hk with (rfl | ⟨u, hu, hk⟩ | hk | hk) | hk | hk | ⟨l, hl, _⟩
  ·exact hY
  ·exact h4.lo u (by rw [← h4.len]; exact hu) k hk
  ·cases hk
  ·cases hk
  ·exact h5 k hk
  ·exact h6 k hk
  ·cases hl
 refine ⟨_, ⟨new_wat hok hB hr, hRA, rfl, .inr ⟨rfl, (domB_all hok).symm, full_full hok⟩, rfl, trivial, fun k hk ho => ?_, fun k hk => ?_⟩, hown⟩
 ·have := h5 k hk
  rcases ws0_own ho with rfl | ho
  ·obtain ⟨cur, hb, _⟩ := h2.blk hk
   exact absurd (hb.inj hB).2 (by decide)
  ·have := (hs k ho).2
   omega
 ·rcases ws0_own hk with rfl | hk
  ·exact hX
  ·exact (hs k hk).1
end Go.Proofs.YtkjfpdfkcfgfkaaGreat

namespace Go.Proofs.YtkjfpdfkcfgfkaaGreat
open Go.RowKit

def LW.opened (L : LW) (sv tv : Value) (ss : List Value) (g : Value) : LW := { L with sv := sv, tv := tv, ss := ss, turned := L.turned ++ [g] }
theorem LW.opened_own {w : World} {B : Nat} {L : LW} {sv tv : Value} {ss : List Value} {n : Nat} (hgt : ∀ k, tv.ownBlock = some k → L.tv.ownBlock = some k ∨ w.heap.size ≤ k) (hgs : ∀ k, sv.ownBlock = some k → L.sv.ownBlock = some k ∨ w.heap.size ≤ k) (q : Nat) (hq : (L.opened sv tv ss (.slice (some ⟨w.heap.size, 0, none⟩) n n)).own B q) : L.own B q ∨ w.heap.size ≤ q := by
 rcases hq with hq | hq | hq | hq | hq | hq | ⟨v, hv, hq⟩ | hq
 ·exact .inl (.inl hq)
 ·rcases hgs q hq with h1 | h1
  ·exact .inl (.inr (.inl h1))
  ·exact .inr h1
 ·exact .inl (.inr (.inr (.inl hq)))
 ·rcases hgt q hq with h1 | h1
  ·exact .inl (.inr (.inr (.inr (.inl h1))))
  ·exact .inr h1
 ·exact .inl (.inr (.inr (.inr (.inr (.inl hq)))))
 ·exact .inl (.inr (.inr (.inr (.inr (.inr (.inl hq))))))
 ·rcases List.mem_append.1 hv with hv | hv
  ·exact .inl (.inr (.inr (.inr (.inr (.inr (.inr (.inl ⟨v, hv, hq⟩)))))))
  ·rw [List.mem_singleton.1 hv] at hq
   cases hq
   exact .inr (Nat.le_refl _)
 ·exact .inl (.inr (.inr (.inr (.inr (.inr (.inr (.inr hq)))))))
theorem LawAt.opened {w w' : World} {lo B : Nat} {L : LW} {sv tv : Value} {ss : List Value} {zs : List Int} (hL : LawAt w lo B L) (hlw : lo ≤ w.heap.size) (hf : Fr (fun k => k = B ∨ L.tv.ownBlock = some k ∨ L.sv.ownBlock = some k) w w') (hB : Blk w' B #[sv, L.nv, tv, L.rv] 29) (hs : Row w' sv 49 ss) (ht : Row w' tv 22 (L.turned ++ [.slice (some ⟨w.heap.size, 0, none⟩) (zs.length + 1) (zs.length + 1)])) (hg : Blk w' w.heap.size (turnedTo zs (zs.length + 1)) 3)
  (hgt : ∀ k, tv.ownBlock = some k → L.tv.ownBlock = some k ∨ w.heap.size ≤ k) (hgs : ∀ k, sv.ownBlock = some k → L.sv.ownBlock = some k ∨ w.heap.size ≤ k) (hz : zs.length ≤ 1048576) (htl : L.turned.length ≤ 8388608) : LawAt w' lo B (L.opened sv tv ss (.slice (some ⟨w.heap.size, 0, none⟩) (zs.length + 1) (zs.length + 1))) := by
 have hsz := hf.size
 have hno : ∀ q cur e, Blk w q cur e → e ≠ 29 → e ≠ 49 → L.tv.ownBlock ≠ some q → ¬ (q = B ∨ L.tv.ownBlock = some q ∨ L.sv.ownBlock = some q) := fun q cur e hb he he2 h2 h4 => by
  rcases h4 with h4 | h4 | h4
  ·rw [h4] at hb
   exact he (hb.inj hL.blk).2
  ·exact h2 h4
  ·obtain ⟨c2, hb2, _⟩ := hL.sides.blk h4
   exact he2 (hb.inj hb2).2
 have htv : ∀ q cur e, Blk w q cur e → e ≠ 22 → L.tv.ownBlock ≠ some q := fun q cur e hb he hq => by
  obtain ⟨c2, hb2, _⟩ := hL.keeps.rt.blk hq
  exact he (hb.inj hb2).2
 have k2 : ∀ q, L.nv.ownBlock = some q → ¬ (q = B ∨ L.tv.ownBlock = some q ∨ L.sv.ownBlock = some q) := fun q hq => by
  obtain ⟨cur, hb, _⟩ := hL.keeps.rn.blk hq
  exact hno q cur _ hb (by decide) (by decide) (hL.nt q hq)
 have k3 : ∀ q, L.rv.ownBlock = some q → ¬ (q = B ∨ L.tv.ownBlock = some q ∨ L.sv.ownBlock = some q) := fun q hq => by
  obtain ⟨cur, hb, _⟩ := hL.keeps.rr.blk hq
  exact hno q cur _ hb (by decide) (by decide) (htv q cur _ hb (by decide))
 have k4 : ∀ v, v ∈ L.nums ∨ v ∈ L.turned → ∀ q, v.ownBlock = some q → ¬ (q = B ∨ L.tv.ownBlock = some q ∨ L.sv.ownBlock = some q) := fun v hv q hq => by
  obtain ⟨cur, hb⟩ := hL.ints v hv q hq
  exact hno q cur _ hb (by decide) (by decide) (htv q cur _ hb (by decide))
 have k6 : ∀ v, v ∈ L.rows → ∀ q, v.ownBlock = some q → ¬ (q = B ∨ L.tv.ownBlock = some q ∨ L.sv.ownBlock = some q) := fun v hv q hq => by
  obtain ⟨cur, hb⟩ := hL.nils v hv q hq
  exact hno q cur _ hb (by decide) (by decide) (fun e => hL.tr q e v hv hq)
 have hk := hL.keeps
 have hallI : ∀ v ∈ L.turned ++ [Value.slice (some ⟨w.heap.size, 0, none⟩) (zs.length + 1) (zs.length + 1)], AllAre w' v (-7) := fun v hv => by
  rcases List.mem_append.1 hv with hv | hv
  ·obtain ⟨i, hi, rfl⟩ := List.getElem_of_mem hv
   exact (hk.at_ i hi).fr hf (k4 _ (.inr hv))
  ·rw [List.mem_singleton.1 hv]
   exact turned_all hg (by omega)
 have hlen : (L.turned ++ [Value.slice (some ⟨w.heap.size, 0, none⟩) (zs.length + 1) (zs.length + 1)]).length = L.turned.length + 1 := by rw [List.length_append]; rfl
 have hown := LW.opened_own (B := B) (ss := ss) (n := zs.length + 1) hgt hgs
 refine ⟨hB, hs, ⟨hk.rn.fr hf k2, ht, hk.rr.fr hf k3, hk.ln, ?_, hk.lr, fun i hi => (hk.an i hi).fr hf (k4 _ (.inl (List.getElem_mem hi))), fun i hi => hallI _ (List.getElem_mem hi), fun i hi => (hk.ar i hi).fr hf (k6 _ (List.getElem_mem hi))⟩, fun q hq => ?_, fun q hq => ?_, fun v hv q hq => ?_, fun v hv q hq => ?_, fun q hq ht' => ?_, fun q hq v hv => hL.nr q hq v hv, fun q hq v hv ht' => ?_⟩
 ·show (L.turned ++ [_]).length * 24 ≤ _
  omega
 ·rcases hown q hq with h1 | h1
  ·exact hL.lo q h1
  ·omega
 ·rcases hq with hq | hq | hq | hq | hq | ⟨v, hv, hq⟩ | ⟨v, hv, hq⟩ | ⟨v, hv, hq⟩
  ·rw [hq]
   exact hB.lt
  ·exact hs.lt hq
  ·have := hL.lt q (.inr (.inr (.inl hq)))
   omega
  ·exact ht.lt hq
  ·have := hL.lt q (.inr (.inr (.inr (.inr (.inl hq)))))
   omega
  ·have := hL.lt q (.inr (.inr (.inr (.inr (.inr (.inl ⟨v, hv, hq⟩))))))
   omega
  ·rcases List.mem_append.1 hv with hv | hv
   ·have := hL.lt q (.inr (.inr (.inr (.inr (.inr (.inr (.inl ⟨v, hv, hq⟩)))))))
    omega
   ·rw [List.mem_singleton.1 hv] at hq
    cases hq
    exact hg.lt
  ·have := hL.lt q (.inr (.inr (.inr (.inr (.inr (.inr (.inr ⟨v, hv, hq⟩)))))))
   omega
 ·rcases hv with hv | hv
  ·obtain ⟨cur, hb⟩ := hL.ints v (.inl hv) q hq
   exact ⟨cur, hb.fr hf (k4 v (.inl hv) q hq)⟩
  ·rcases List.mem_append.1 hv with hv | hv
   ·obtain ⟨cur, hb⟩ := hL.ints v (.inr hv) q hq
    exact ⟨cur, hb.fr hf (k4 v (.inr hv) q hq)⟩
   ·rw [List.mem_singleton.1 hv] at hq
    cases hq
    exact ⟨_, hg⟩
 ·obtain ⟨cur, hb⟩ := hL.nils v hv q hq
  exact ⟨cur, hb.fr hf (k6 v hv q hq)⟩
 ·rcases hgt q ht' with h1 | h1
  ·exact hL.nt q hq h1
  ·have := hL.lt q (.inr (.inr (.inl hq)))
   omega
 ·rcases hgt q hq with h1 | h1
  ·exact hL.tr q h1 v hv ht'
  ·have := hL.lt q (.inr (.inr (.inr (.inr (.inr (.inr (.inr ⟨v, hv, ht'⟩)))))))
   omega
theorem LawAt.ty2 {w : World} {lo B : Nat} {L : LW} (h : LawAt w lo B L) {k : Nat} (hk : L.own B k) : (∃ cur e, Blk w k cur e ∧ e ∈ [29, 49, 22, 26]) ∨ ∃ v, (v ∈ L.nums ∨ v ∈ L.turned) ∧ v.ownBlock = some k := by
 rcases hk with rfl | hk | hk | hk | hk | ⟨v, hv, hk⟩ | ⟨v, hv, hk⟩ | ⟨v, hv, hk⟩
 ·exact .inl ⟨_, _, h.blk, by decide⟩
 ·obtain ⟨cur, hb, _⟩ := h.sides.blk hk
  exact .inl ⟨_, _, hb, by decide⟩
 ·obtain ⟨cur, hb, _⟩ := h.keeps.rn.blk hk
  exact .inl ⟨_, _, hb, by decide⟩
 ·obtain ⟨cur, hb, _⟩ := h.keeps.rt.blk hk
  exact .inl ⟨_, _, hb, by decide⟩
 ·obtain ⟨cur, hb, _⟩ := h.keeps.rr.blk hk
  exact .inl ⟨_, _, hb, by decide⟩
 ·exact .inr ⟨v, .inl hv, hk⟩
 ·exact .inr ⟨v, .inr hv, hk⟩
 ·obtain ⟨cur, hb⟩ := h.nils v hv k hk
  exact .inl ⟨_, _, hb, by decide⟩
def newTys : List TypeId := [52, 66, 83, 4, 41, 147, 84, 3]
theorem LI.open0 {W w w' : World} {lo B : Nat} {L : LW} {ds : List Sd} {tv : Value} {zs : List Int} (h : LI W w lo B L ds) (hf : Fr (fun k => k = B ∨ L.tv.ownBlock = some k ∨ L.sv.ownBlock = some k) w w') (hL : LawAt w' lo B (L.opened L.sv tv L.ss (.slice (some ⟨w.heap.size, 0, none⟩) (zs.length + 1) (zs.length + 1)))) (hgt : ∀ k, tv.ownBlock = some k → L.tv.ownBlock = some k ∨ w.heap.size ≤ k) : LI W w' lo B (L.opened L.sv tv L.ss (.slice (some ⟨w.heap.size, 0, none⟩) (zs.length + 1) (zs.length + 1))) ds := by
 have hin : ∀ q, (q = B ∨ L.tv.ownBlock = some q ∨ L.sv.ownBlock = some q) → L.own B q := fun q hq => by
  rcases hq with hq | hq | hq
  ·exact .inl hq
  ·exact .inr (.inr (.inr (.inl hq)))
  ·exact .inr (.inl hq)
 have hon : Only w (fun k => k = B ∨ L.tv.ownBlock = some k ∨ L.sv.ownBlock = some k) lawTys := fun q cur e hq hb => by
  obtain ⟨c2, e2, hb2, he2⟩ := h.law.ty (hin q hq)
  rw [(hb.inj hb2).2]
  exact he2
 have hb := h.env.base
 refine ⟨⟨hb, h.env.nw.trans hf (fun q hq => .inr (by have := h.law.lo q (hin q hq); omega)), Nat.le_trans h.env.le hf.size⟩, hL, h.ss, fun d hd => (h.sides d hd).fr hf (fun k hk hS => h.apart d hd k (hin k hS) hk) hon (by decide), fun d hd k hk hdk => ?_, h.dist, h.free⟩
 rcases LW.opened_own hgt (fun k hk => .inl hk) k hk with h1 | h1
 ·exact h.apart d hd k h1 hdk
 ·have := (h.sides d hd).lt hdk
  omega
theorem LI.open1 {W w w' : World} {lo B : Nat} {L : LW} {ds : List Sd} {sv tv : Value} {d : Sd} {zs : List Int} (h : LI W w lo B L ds) (hf : Fr (fun k => k = B ∨ L.tv.ownBlock = some k ∨ L.sv.ownBlock = some k) w w') (hL : LawAt w' lo B (L.opened sv tv (L.ss ++ [.pointer (some ⟨d.D, 0, none⟩)]) (.slice (some ⟨w.heap.size, 0, none⟩) (zs.length + 1) (zs.length + 1)))) (hgt : ∀ k, tv.ownBlock = some k → L.tv.ownBlock = some k ∨ w.heap.size ≤ k) (hgs : ∀ k, sv.ownBlock = some k → L.sv.ownBlock = some k ∨ w.heap.size ≤ k)
  (hd : SideAt W w' lo d) (hbz : d.bz = false) (hge : ∀ k, d.own k → w.heap.size ≤ k) (hty : ∀ k, d.own k → ∃ cur e, Blk w' k cur e ∧ e ∈ newTys ∧ (e = 3 → w.heap.size < k)) : LI W w' lo B (L.opened sv tv (L.ss ++ [.pointer (some ⟨d.D, 0, none⟩)]) (.slice (some ⟨w.heap.size, 0, none⟩) (zs.length + 1) (zs.length + 1))) (ds ++ [d]) := by
 have hin : ∀ q, (q = B ∨ L.tv.ownBlock = some q ∨ L.sv.ownBlock = some q) → L.own B q := fun q hq => by
  rcases hq with hq | hq | hq
  ·exact .inl hq
  ·exact .inr (.inr (.inr (.inl hq)))
  ·exact .inr (.inl hq)
 have hon : Only w (fun k => k = B ∨ L.tv.ownBlock = some k ∨ L.sv.ownBlock = some k) lawTys := fun q cur e hq hb => by
  obtain ⟨c2, e2, hb2, he2⟩ := h.law.ty (hin q hq)
  rw [(hb.inj hb2).2]
  exact he2
 have hb := h.env.base
 have hget : ∀ e ∈ ds ++ [d], e ∈ ds ∨ e = d := fun e he => by
  rcases List.mem_append.1 he with he | he
  ·exact .inl he
  ·exact .inr (List.mem_singleton.1 he)
 have hidx : ∀ i (hi : i < (ds ++ [d]).length), (∃ hi' : i < ds.length, (ds ++ [d])[i] = ds[i]) ∨ (i = ds.length ∧ (ds ++ [d])[i] = d) := fun i hi => by
  rw [List.length_append, List.length_singleton] at hi
  by_cases e : i < ds.length
  ·exact .inl ⟨e, List.getElem_append_left e⟩
  ·have : i = ds.length := by omega
   subst this
   exact .inr ⟨rfl, by simp⟩
 refine ⟨⟨hb, h.env.nw.trans hf (fun q hq => .inr (by have := h.law.lo q (hin q hq); omega)), Nat.le_trans h.env.le hf.size⟩, hL, ?_, fun e he => ?_, fun e he k hk hdk => ?_, fun i j hi hj hij k hk1 hk2 => ?_, fun e he => ?_⟩
 ·show L.ss ++ [_] = _
  rw [h.ss, List.map_append]
  rfl
 ·rcases hget e he with he | rfl
  ·exact (h.sides e he).fr hf (fun k hk hS => h.apart e he k (hin k hS) hk) hon (by decide)
  ·exact hd
 ·rcases hget e he with he | rfl
  ·rcases LW.opened_own hgt hgs k hk with h1 | h1
   ·exact h.apart e he k h1 hdk
   ·have := (h.sides e he).lt hdk
    omega
  ·obtain ⟨cur, e1, hb1, he1, hi1⟩ := hty k hdk
   have hgk := hge k hdk
   rcases hL.ty2 hk with ⟨cur2, e2, hb2, he2⟩ | ⟨v, hv, hvk⟩
   ·rw [(hb2.inj hb1).2] at he2
    have hx : newTys.all (fun e => !([29, 49, 22, 26].contains e)) = true := by decide
    have := List.all_eq_true.1 hx e1 he1
    rw [List.contains_iff_mem.2 he2] at this
    cases this
   ·obtain ⟨c3, hb3⟩ := hL.ints v hv k hvk
    have hlt := hi1 (hb1.inj hb3).2
    rcases hv with hv | hv
    ·have := h.law.lt k (.inr (.inr (.inr (.inr (.inr (.inl ⟨v, hv, hvk⟩))))))
     omega
    ·rcases List.mem_append.1 hv with hv | hv
     ·have := h.law.lt k (.inr (.inr (.inr (.inr (.inr (.inr (.inl ⟨v, hv, hvk⟩)))))))
      omega
     ·rw [List.mem_singleton.1 hv] at hvk
      cases hvk
      have h2 : w.heap.size < w.heap.size := hlt
      omega
 ·rcases hidx i hi with ⟨hi', e1⟩ | ⟨rfl, e1⟩
  ·rw [e1] at hk1
   rcases hidx j hj with ⟨hj', e2⟩ | ⟨rfl, e2⟩
   ·rw [e2] at hk2
    exact h.dist i j hi' hj' hij k hk1 hk2
   ·rw [e2] at hk2
    have := (h.sides _ (List.getElem_mem hi')).lt hk1
    have := hge k hk2
    omega
  ·rw [e1] at hk1
   rcases hidx j hj with ⟨hj', e2⟩ | ⟨rfl, e2⟩
   ·rw [e2] at hk2
    have := (h.sides _ (List.getElem_mem hj')).lt hk2
    have := hge k hk1
    omega
   ·exact hij rfl
 ·rcases hget e he with he | rfl
  ·exact h.free e he
  ·exact hbz
theorem opens_li (W : World) (lo B : Nat) (L : LW) (ds : List Sd) (ao : Option Addr) (cap : Nat) (zs : List Int) (w : World) (h : LI W w lo B L ds) (hds : ds.length ≤ 2) (hl : IntsAt W ao zs) (hz : zs.length ≤ 1048576) (htl : L.turned.length ≤ 2) :
  Calls Tryz.prog 8 #[.pointer (some ⟨B, 0, none⟩), .slice ao zs.length cap] w fun e w' => e = .returned (.bool true) ∧ ∃ L' ds', LI W w' lo B L' ds' ∧ L'.nums = L.nums ∧ L'.rows = L.rows ∧ L'.turned.length = L.turned.length + 1 ∧ ds'.length ≤ ds.length + 1 := by
 have hl' := hl.nw h.env.nw
 have hssl : L.ss.length = ds.length := by rw [h.ss, List.length_map]
 have htle : ∀ x : Value, (L.turned ++ [x]).length = L.turned.length + 1 := fun x => by rw [List.length_append]; rfl
 by_cases hlen : zs.length < 1 ∨ 8 < zs.length
 ·refine (opens_len B L.sv L.nv L.tv L.rv L.turned ao cap zs w (by omega) h.law.blk h.law.keeps.rt (by omega) hl' hlen).mono ?_
  rintro e w' ⟨rfl, tv', hf, hB', htv', hg', hlo⟩
  have hf' : Fr (fun k => k = B ∨ L.tv.ownBlock = some k ∨ L.sv.ownBlock = some k) w w' := hf.mono (fun i h => .inl (h.elim .inl (fun h => .inr (.inl h))))
  have hs' : Row w' L.sv 49 L.ss := h.law.sides.fr hf (fun k hk e => by
   obtain ⟨cur, hb, _⟩ := h.law.sides.blk hk
   rcases e with e | e
   ·rw [e] at hb
    exact absurd (hb.inj h.law.blk).2 (by decide)
   ·obtain ⟨c2, hb2, _⟩ := h.law.keeps.rt.blk e
    exact absurd (hb.inj hb2).2 (by decide))
  have hL' := h.law.opened h.env.le hf' hB' hs' htv' hg' hlo (fun k hk => .inl hk) hz (by omega)
  exact ⟨rfl, _, ds, h.open0 hf' hL' hlo, rfl, rfl, htle _, by omega⟩
 ·refine (opens_more B L.sv L.nv L.tv L.rv L.ss L.turned ao cap zs w (by omega) (by omega) h.law.blk h.law.keeps.rt (by omega) h.law.sides (by rw [hssl]; omega) hl').mono ?_
  rintro e w' ⟨rfl, sv', tv', hf, hB', htv', hg', hlo, hcase⟩
  rcases hcase with ⟨_, rfl, hsv'⟩ | ⟨hok, D, X, Y, szv, hsv', hslo, hD, hX, hsz, hDl, hXl, lo2, h2a, h2b, h2c, hR⟩
  ·have hL' := h.law.opened h.env.le hf hB' hsv' htv' hg' hlo (fun k hk => .inl hk) hz (by omega)
   exact ⟨rfl, _, ds, h.open0 hf hL' hlo, rfl, rfl, htle _, by omega⟩
  ·have hle := h.env.le
   have hL' := h.law.opened h.env.le hf hB' hsv' htv' hg' hlo hslo hz (by omega)
   obtain ⟨R, hP, hRo⟩ := Pair.new (W := W) (lo := lo) hok hX hsz (by omega) (fun k hk => ⟨by have := (h2b k hk).1; omega, (h2b k hk).2⟩) (by omega) h2c hR
   have hS : SideAt W w' lo ⟨D, X, Y, zs, ws0 zs szv, R, false, .nilFunc, .nilFunc⟩ := ⟨hD, hP, by show lo ≤ D; omega⟩
   refine ⟨rfl, _, _, h.open1 (d := ⟨D, X, Y, zs, ws0 zs szv, R, false, .nilFunc, .nilFunc⟩) hf hL' hlo hslo hS rfl (fun k hk => ?_) (fun k hk => ?_), rfl, rfl, htle _, by rw [List.length_append]; exact Nat.le_refl _⟩
   ·rcases hk with hk | hk | hk
    ·rw [hk]
     exact hDl
    ·rcases ws0_own hk with hk | hk
     ·rw [hk]
      exact hXl
     ·have := (h2b k hk).1
      omega
    ·have := hRo k hk
     omega
   ·rcases hk with hk | hk | hk
    ·rw [hk]
     exact ⟨_, _, hD, by decide, fun e => absurd e (by decide)⟩
    ·rcases ws0_own hk with hk | hk
     ·rw [hk]
      exact ⟨_, _, hX, by decide, fun e => absurd e (by decide)⟩
     ·obtain ⟨cur, hb, _⟩ := hsz.blk hk
      exact ⟨_, _, hb, by decide, fun _ => (h2b k hk).1⟩
    ·have hgk := hRo k hk
     rcases hP.ref.ty hk with h1 | ⟨cur, e, hb, he⟩
     ·obtain ⟨cur, hb, _⟩ := hP.ref.rin.sz.blk h1
      exact ⟨_, _, hb, by decide, fun _ => by omega⟩
     ·refine ⟨cur, e, hb, ?_, fun _ => by omega⟩
      rcases he with he | he
      ·have hx : ∀ e ∈ refTys, e ∈ newTys := by decide
       exact hx e he
      ·rw [he]
       decide
end Go.Proofs.YtkjfpdfkcfgfkaaGreat

namespace Go.Proofs.YtkjfpdfkcfgfkaaGreat
open Go.RowKit

def rows0 : List (List Int) := [[0, 1], [1, 2]]
theorem n_dom1 : nDom (brTo rows0 rows0.length) (2 ^ rows0.length - 1) [0, 1] [7, 7, 0, 0, 0, 0, 0, 0] = [3, 6, 0, 0, 0, 0, 0, 0] := by decide
theorem n_live1 : nLive (brTo rows0 rows0.length) (2 ^ rows0.length - 1) [0, 1] [7, 7, 0, 0, 0, 0, 0, 0] = 3 := by decide
theorem n_dom2 : nDom (brTo rows0 rows0.length) 3 [0, 1] [3, 2, 0, 0, 0, 0, 0, 0] = [1, 2, 0, 0, 0, 0, 0, 0] := by decide
theorem n_full : fullTo [3, 3] [(3 : Int), 3].length = [7, 7, 0, 0, 0, 0, 0, 0] := by decide
theorem lt64_get (d : List Nat) (h : ∀ x ∈ d, x < 64) (q : Nat) : d.getD q 0 < 64 := by
 by_cases hq : q < d.length
 ·have := h _ (List.getElem_mem hq)
  simpa [List.getD, hq] using this
 ·simp [List.getD, hq]

set_option maxHeartbeats 3200000 in
set_option maxRecDepth 1000000 in
theorem first_ok : FirstOk := by
 intro w
 go_enter Tryz.func7, Tryz.ntmps7
 go_wp2_with fail
 have hb0 : Blk (w.alloc (.cells #[.int .i64 3, .int .i64 3] 3)) w.heap.size #[.int .i64 3, .int .i64 3] 3 := Blk.new _ _ _
 have hf0 : Nw w (w.alloc (.cells #[.int .i64 3, .int .i64 3] 3)) := (Fr.refl _ w).alloc _
 refine (new_any w.heap.size 0 2 [3, 3] _ (by decide) (by decide) (IntsAt.of_blk hb0 0 _ (fun i hi => by
  match i, hi with
  | 0, _ => rfl
  | 1, _ => rfl))).mono ?_
 rintro e w1 ⟨hf1, hcase⟩
 rcases hcase with ⟨_, X, szv, rfl, hX1, hs1, hXl, hsl⟩ | ⟨hno, _⟩
 ·rw [n_full] at hX1
  have HX1 := hd hX1
  have Hs1 := hd hs1
  have Hf1 : Hid (Nw w w1) := hf0.trans hf1 (fun i h => h.elim)
  simp at hXl hsl
  have hXw : w.heap.size < X := by omega
  have Hsl := hd hsl
  clear hb0 hf0 hf1 hX1 hs1 hsl hXl
  go_wp2_with fail
  obtain ⟨V, hV⟩ : ∃ V, V = (((w1.alloc (.cells #[.int .i64 0, .int .i64 1] 3)).alloc (.cells #[.int .i64 0, .int .i64 1] 3)).alloc (.cells #[.int .i64 1, .int .i64 2] 3)).alloc (.cells #[.slice (some ⟨w1.heap.size + 1, 0, none⟩) 2 2, .slice (some ⟨w1.heap.size + 1 + 1, 0, none⟩) 2 2] 22) := ⟨_, rfl⟩
  have hfV : Nw w1 V := by rw [hV]; exact ((((Fr.refl _ w1).alloc _).alloc _).alloc _).alloc _
  have k0 : Blk V w1.heap.size #[.int .i64 0, .int .i64 1] 3 := by rw [hV]; exact (((Blk.new _ _ _).alloc _).alloc _).alloc _
  have k1 : Blk V (w1.heap.size + 1) #[.int .i64 0, .int .i64 1] 3 := by
   rw [hV]
   have := ((Blk.new (w1.alloc (.cells #[.int .i64 0, .int .i64 1] 3)) #[.int .i64 0, .int .i64 1] 3).alloc (.cells #[.int .i64 1, .int .i64 2] 3)).alloc (.cells #[.slice (some ⟨w1.heap.size + 1, 0, none⟩) 2 2, .slice (some ⟨w1.heap.size + 1 + 1, 0, none⟩) 2 2] 22)
   simpa using this
  have k2 : Blk V (w1.heap.size + 1 + 1) #[.int .i64 1, .int .i64 2] 3 := by
   rw [hV]
   have := (Blk.new ((w1.alloc (.cells #[.int .i64 0, .int .i64 1] 3)).alloc (.cells #[.int .i64 0, .int .i64 1] 3)) #[.int .i64 1, .int .i64 2] 3).alloc (.cells #[.slice (some ⟨w1.heap.size + 1, 0, none⟩) 2 2, .slice (some ⟨w1.heap.size + 1 + 1, 0, none⟩) 2 2] 22)
   simpa using this
  have k3 : Blk V (w1.heap.size + 1 + 1 + 1) #[.slice (some ⟨w1.heap.size + 1, 0, none⟩) 2 2, .slice (some ⟨w1.heap.size + 1 + 1, 0, none⟩) 2 2] 22 := by
   rw [hV]
   have := Blk.new (((w1.alloc (.cells #[.int .i64 0, .int .i64 1] 3)).alloc (.cells #[.int .i64 0, .int .i64 1] 3)).alloc (.cells #[.int .i64 1, .int .i64 2] 3)) #[.slice (some ⟨w1.heap.size + 1, 0, none⟩) 2 2, .slice (some ⟨w1.heap.size + 1 + 1, 0, none⟩) 2 2] 22
   simpa using this
  rw [← hV]
  have hvs : IntsAt V (some ⟨w1.heap.size, 0, none⟩) [0, 1] := IntsAt.of_blk k0 0 _ (fun i hi => by
   match i, hi with
   | 0, _ => rfl
   | 1, _ => rfl)
  have hr1 : IntsAt V (some ⟨w1.heap.size + 1, 0, none⟩) [0, 1] := IntsAt.of_blk k1 0 _ (fun i hi => by
   match i, hi with
   | 0, _ => rfl
   | 1, _ => rfl)
  have hr2 : IntsAt V (some ⟨w1.heap.size + 1 + 1, 0, none⟩) [1, 2] := IntsAt.of_blk k2 0 _ (fun i hi => by
   match i, hi with
   | 0, _ => rfl
   | 1, _ => rfl)
  have hrs : RowsAt V (some ⟨w1.heap.size + 1 + 1 + 1, 0, none⟩) rows0 := fun i hi => by
   match i, hi with
   | 0, _ => exact ⟨_, 0, _, 2, rfl, k3.lt, k3.cell 0, hr1⟩
   | 1, _ => exact ⟨_, 0, _, 2, rfl, k3.lt, k3.cell 1, hr2⟩
  refine (post_one X w1.heap.size 0 (some ⟨w1.heap.size + 1 + 1 + 1, 0, none⟩) 2 2 szv [3, 3] [7, 7, 0, 0, 0, 0, 0, 0] rest0 none 0 [0, 1] rows0 V (HX1.out.nw hfV) (Hs1.out.nw hfV) (by decide) rfl rfl (by decide) rfl rfl (by decide) hvs hrs (by decide) (by decide) (by decide) (by decide) (by decide)
   (by decide) (lt64_get _ (by decide)) (by rw [n_dom1]; rintro _ rfl; decide) (by decide) (by rw [n_dom1]; decide)).mono ?_
  rw [n_dom1, n_live1]
  rintro e w2 ⟨rfl, tb, tcap, G, g, cap, hGl, hf2, hX2, ht2, hG2, hv2⟩
  have hF2 : Nw w w2 := (Hf1.out.trans hfV (fun i h => h.elim)).trans hf2 (fun i h => .inr (by omega))
  have hsX2 : ∀ k, szv.ownBlock = some k → k ≠ X := fun k hk e => by subst e; exact Hs1.out.ne HX1.out (by decide) hk
  have hs2 := (Hs1.out.nw hfV).fr hf2 (fun k hk e => hsX2 k hk e)
  have hGw : w.heap.size < w2.heap.size := by have := hX2.lt; omega
  have HX2 := hd hX2
  have Ht2 := hd ht2
  have HG2 := hd hG2
  have Hv2 := hd hv2
  have Hs2 := hd hs2
  have HF2 := hd hF2
  have HGl : Hid (w.heap.size ≤ G) := by
   have := hfV.size
   have := Hf1.out.size
   show w.heap.size ≤ G
   omega
  clear hV hfV k0 k1 k2 k3 hvs hr1 hr2 hrs hX2 ht2 hG2 hv2 hs2 hF2 hf2 HX1 Hs1 Hf1
  go_wp2_with fail
  refine (domain_ok X szv _ _ rest0 [3, 3] 1 w2 HX2.out Hs2.out (by decide) (by decide) rfl (by decide) rfl).mono ?_
  rw [show vals ([3, 6, 0, 0, 0, 0, 0, 0].getD 1 0) = [1, 2] by decide]
  rintro e w3 ⟨rfl, hf3, hl3⟩
  have HX3 := hd (HX2.out.nw hf3)
  have Ht3 := hd (Ht2.out.nw hf3)
  have HG3 := hd (HG2.out.nw hf3)
  have Hv3 := hd (Hv2.out.nw hf3)
  have Hs3 := hd (Hs2.out.nw hf3)
  have HF3 : Hid (Nw w w3) := HF2.out.trans hf3 (fun i h => h.elim)
  have Hl3 := hd hl3
  have hG3l : w.heap.size ≤ G := HGl.out
  have hG3w : G < w2.heap.size := HG2.out.lt
  have hX3w : X < w2.heap.size := HX2.out.lt
  clear HX2 Ht2 HG2 Hv2 Hs2 HF2 hf3 hl3
  go_wp2_with fail
  refine (remove_one X tb tcap G g cap szv [3, 3] [3, 6, 0, 0, 0, 0, 0, 0] rest0 none 0 (brTo rows0 rows0.length) 3 [0, 1] 1 2 2 w3 HX3.out Hs3.out (by decide) rfl rfl (by decide) Ht3.out HG3.out Hv3.out (by decide) (by decide) (by decide) rfl (by decide) (brTo_length _ _)
   (fun j => Nat.lt_of_lt_of_le (brTo_lt rows0 rows0.length j) (by decide)) (by decide) (by decide) (by decide) (lt64_get _ (by decide)) (by decide) (by rw [show [3, 6, 0, 0, 0, 0, 0, 0].set 1 2 = [3, 2, 0, 0, 0, 0, 0, 0] from rfl, n_dom2]; rintro _ rfl; decide) (by decide) (by rw [show [3, 6, 0, 0, 0, 0, 0, 0].set 1 2 = [3, 2, 0, 0, 0, 0, 0, 0] from rfl, n_dom2]; decide)).mono ?_
  rw [show [3, 6, 0, 0, 0, 0, 0, 0].set 1 2 = [3, 2, 0, 0, 0, 0, 0, 0] from rfl, n_dom2]
  rintro e w4 ⟨rfl, hf4, hX4, _⟩
  have hl4 := Hl3.out.fr hf4 (by omega)
  have hs4 := Hs3.out.fr hf4 (fun k hk e => by
   rcases e with e | e
   ·exact hsX2 k hk e
   ·subst e; exact Hs3.out.ne HG3.out (by decide) hk)
  have HF4 : Hid (Nw w w4) := HF3.out.trans hf4 (fun i h => .inr (by omega))
  have HX4 := hd hX4
  have Hs4 := hd hs4
  have Hl4 := hd hl4
  clear HX3 Ht3 HG3 Hv3 Hs3 HF3 Hl3 hf4 hX4 hl4 hs4
  go_wp2_with fail
  refine (domain_ok X szv _ _ rest0 [3, 3] 0 w4 HX4.out Hs4.out (by decide) (by decide) rfl (by decide) rfl).mono ?_
  rw [show vals ([1, 2, 0, 0, 0, 0, 0, 0].getD 0 0) = [0] by decide]
  rintro e w5 ⟨rfl, hf5, hl5⟩
  have hF5 : Nw w w5 := HF4.out.trans hf5 (fun i h => h.elim)
  have hl1 := Hl4.out.nw hf5
  have p0 : w5.cell? ⟨w2.heap.size, 0, none⟩ = some (.int .i64 1) := hl1.cell 0
  have p1 : w5.cell? ⟨w2.heap.size, 1, none⟩ = some (.int .i64 2) := hl1.cell 1
  have p2 : w5.cell? ⟨w4.heap.size, 0, none⟩ = some (.int .i64 0) := hl5.cell 0
  have HF5 := hd hF5
  clear hF5 hl1 hl5 hf5 HF4 HX4 Hs4 Hl4
  go_wp2
  go_ret
  exact ⟨rfl, HF5.out⟩
 ·exact absurd hno (by decide)
end Go.Proofs.YtkjfpdfkcfgfkaaGreat

namespace Go.Proofs.YtkjfpdfkcfgfkaaGreat
open Go.RowKit

def lw0 : LW := ⟨nilS, nilS, nilS, nilS, [], [], [], []⟩
theorem LI.start {W w : World} (hf : Nw W w) (hB : Blk w W.heap.size #[nilS, nilS, nilS, nilS] 29) : LI W w W.heap.size W.heap.size lw0 [] := by
 have hown : ∀ k, lw0.own W.heap.size k → k = W.heap.size := fun k hk => by
  rcases hk with hk | hk | hk | hk | hk | ⟨v, hv, _⟩ | ⟨v, hv, _⟩ | ⟨v, hv, _⟩
  ·exact hk
  ·cases hk
  ·cases hk
  ·cases hk
  ·cases hk
  ·cases hv
  ·cases hv
  ·cases hv
 refine ⟨⟨Nat.le_refl _, hf, hf.size⟩, ⟨hB, Row.nil _ _, ⟨Row.nil _ _, Row.nil _ _, Row.nil _ _, by decide, by decide, by decide, fun i hi => absurd hi (Nat.not_lt_zero _), fun i hi => absurd hi (Nat.not_lt_zero _), fun i hi => absurd hi (Nat.not_lt_zero _)⟩, fun k hk => ?_, fun k hk => ?_, fun v hv => ?_, fun v hv => (by cases hv), fun k hk => (by cases hk), fun k hk => (by cases hk), fun k hk => (by cases hk)⟩, rfl, fun d hd => (by cases hd), fun d hd => (by cases hd), fun i j hi => absurd hi (Nat.not_lt_zero _), fun d hd => (by cases hd)⟩
 ·rw [hown k hk]
  exact Nat.le_refl _
 ·rw [hown k hk]
  exact hB.lt
 ·rcases hv with hv | hv <;> cases hv

set_option maxHeartbeats 1600000 in
set_option maxRecDepth 1000000 in
theorem narrows_walk (hfirst : FirstOk) (ao so : Option Addr) (ca sc : Nat) (xs : List Int) (ops : List OpV) (w : World) (hx : xs.length ≤ 1048576) (ha : IntsAt w ao xs) (hops : OpsAt w so ops) (hcost : opsCost ops ≤ 1048576) :
  Calls Tryz.prog 3 #[.slice ao xs.length ca, .slice so ops.length sc] w fun e w' => e = .returned (.bool true) ∧ Nw w w' := by
 have hB0 : Blk (w.alloc (.cells #[nilS, nilS, nilS, nilS] 29)) w.heap.size #[nilS, nilS, nilS, nilS] 29 := Blk.new _ _ _
 have hF0 : Nw w (w.alloc (.cells #[nilS, nilS, nilS, nilS] 29)) := (Fr.refl _ w).alloc _
 go_enter Tryz.func3, Tryz.ntmps3
 go_wp2_with fail
 refine (hfirst _).mono ?_
 rintro e w1 ⟨rfl, hf1⟩
 have hLI := LI.start (hF0.trans hf1 (fun _ x => x.elim)) (hB0.nw hf1)
 have HLI := hd hLI
 have Hopen := hd (opens_li w w.heap.size w.heap.size lw0 [] ao ca xs w1 hLI (by decide) ha hx (by decide))
 clear hB0 hF0 hf1 hLI
 go_wp2_with (first
  | (go_at_call 8; refine Hopen.out.mono ?_; rintro e w2 ⟨rfl, L', ds', h1, h2, h3, h4, h5⟩; have Hplay := hd (play_any w w.heap.size w.heap.size L' ds' so sc ops 5 w2 h1 (by decide) (Nat.le_trans h5 (by decide)) hops hcost h2 (by rw [h4]; decide) h3); clear h1 h2 h3 h4 h5)
  | (go_at_call 9; refine Hplay.out.mono ?_; rintro e w3 ⟨rfl, hf3⟩; have Hf3 := hd hf3; clear hf3))
 go_ret
 exact ⟨rfl, Hf3.out⟩

end Go.Proofs.YtkjfpdfkcfgfkaaGreat
