/- Parts of the proof, number 10: contracts of the functions that the statement calls. -/
import Derived.Test.YtkjfpdfkcfgfkaaGreatM9
import Derived.Test.YtkjfpdfkcfgfkaaGreatRows
import Derived.ProofKit
import Derived.OpenShut
import Derived.ShutString
import Derived.ChangeOld
import Derived.SizedLaws
import Derived.Deep.Slices
import Derived.Test.YtkjfpdfkcfgfkaaGreatM5
import Derived.Test.YtkjfpdfkcfgfkaaGreatM8

namespace Go.Proofs.YtkjfpdfkcfgfkaaGreat
open Go.RowKit

def Clo (v : Value) (X : Nat) : Prop := v = .func (.func 77) #[.pointer (some ⟨X, 0, none⟩)] #[]
structure LJ (W w : World) (lo B : Nat) (L : LW) (ds : List Sd) : Prop where
 env : Env W w lo
 law : LawAt w lo B L
 ss : L.ss = ds.map (fun d => Value.pointer (some ⟨d.D, 0, none⟩))
 sides : ∀ d ∈ ds, SideAt W w lo d
 apart : ∀ d ∈ ds, ∀ k, L.own B k → ¬ d.own k
 dist : ∀ i j (hi : i < ds.length) (hj : j < ds.length), i ≠ j → ∀ k, ds[i].own k → ¬ ds[j].own k
 lts : ∀ d ∈ ds, d.lt = .nilFunc ∨ Clo d.lt d.X
structure LI (W w : World) (lo B : Nat) (L : LW) (ds : List Sd) : Prop extends LJ W w lo B L ds where
 free : ∀ d ∈ ds, d.bz = false
theorem LJ.one {W w : World} {lo B : Nat} {L : LW} {ds : List Sd} (h : LJ W w lo B L ds) (i : Nat) (hi : i < ds.length) : LS W w lo B L ds[i] := ⟨h.env, h.law, h.sides _ (List.getElem_mem hi), h.apart _ (List.getElem_mem hi)⟩
theorem LJ.nw {W w w' : World} {lo B : Nat} {L : LW} {ds : List Sd} (h : LJ W w lo B L ds) (f : Nw w w') : LJ W w' lo B L ds := ⟨h.env.step f, h.law.nw f, h.ss, fun d hd => (h.sides d hd).nw f, h.apart, h.dist, h.lts⟩
theorem LI.one {W w : World} {lo B : Nat} {L : LW} {ds : List Sd} (h : LI W w lo B L ds) (i : Nat) (hi : i < ds.length) : LS W w lo B L ds[i] := h.toLJ.one i hi
theorem LI.nw {W w w' : World} {lo B : Nat} {L : LW} {ds : List Sd} (h : LI W w lo B L ds) (f : Nw w w') : LI W w' lo B L ds := ⟨h.toLJ.nw f, h.free⟩
theorem mem_set {ds : List Sd} {i : Nat} {d' : Sd} : ∀ e ∈ ds.set i d', e = d' ∨ ∃ j, ∃ hj : j < ds.length, j ≠ i ∧ e = ds[j] := fun e he => by
 obtain ⟨j, hj, rfl⟩ := List.getElem_of_mem he
 rw [List.length_set] at hj
 by_cases e1 : i = j
 ·subst e1
  exact .inl (by rw [List.getElem_set_self])
 ·exact .inr ⟨j, hj, fun e => e1 e.symm, by rw [List.getElem_set_ne e1]⟩
theorem LJ.put {W w w' : World} {lo B : Nat} {L L' : LW} {ds : List Sd} {d' : Sd} {S : Nat → Prop} (h : LJ W w lo B L ds) (i : Nat) (hi : i < ds.length) (h1 : LS W w' lo B L' d') (fr : Fr S w w') (hS : ∀ k, S k → L.own B k ∨ ds[i].own k) (growL : ∀ k, L'.own B k → L.own B k ∨ w.heap.size ≤ k) (growD : ∀ k, d'.own k → ds[i].own k ∨ w.heap.size ≤ k) (ss : L'.ss = L.ss) (dd : d'.D = ds[i].D) (lt : d'.lt = .nilFunc ∨ Clo d'.lt d'.X) : LJ W w' lo B L' (ds.set i d') := by
 have hLS := h.one i hi
 have hold : ∀ j (hj : j < ds.length), j ≠ i → SideAt W w' lo ds[j] := fun j hj hne => (h.sides _ (List.getElem_mem hj)).fr (fr.mono (fun k hk => .inl (hS k hk))) (fun k hk hS => by
  rcases hS with hS | hS
  ·exact h.apart _ (List.getElem_mem hj) k hS hk
  ·exact h.dist j i hj hi hne k hk hS) hLS.only (by decide)
 have hgD : ∀ j (hj : j < ds.length), j ≠ i → ∀ k, d'.own k → ¬ ds[j].own k := fun j hj hne k hk hk2 => by
  rcases growD k hk with h2 | h2
  ·exact h.dist i j hi hj (fun e => hne e.symm) k h2 hk2
  ·have := (h.sides _ (List.getElem_mem hj)).lt hk2
   omega
 refine ⟨h1.env, h1.law, ?_, fun e he => ?_, fun e he k hk => ?_, fun a b ha hb hab k => ?_, fun e he => ?_⟩
 ·rw [ss, h.ss, List.map_set, dd]
  refine List.ext_getElem? fun j => ?_
  by_cases e : i = j
  ·subst e
   rw [List.getElem?_set_self (by simpa using hi)]
   simp [hi]
  ·rw [List.getElem?_set_ne e]
 ·rcases mem_set e he with rfl | ⟨j, hj, hne, rfl⟩
  ·exact h1.side
  ·exact hold j hj hne
 ·rcases mem_set e he with rfl | ⟨j, hj, hne, rfl⟩
  ·exact h1.apart k hk
  ·intro hk2
   rcases growL k hk with h2 | h2
   ·exact h.apart _ (List.getElem_mem hj) k h2 hk2
   ·have := (h.sides _ (List.getElem_mem hj)).lt hk2
    omega
 ·rw [List.length_set] at ha hb
  by_cases e1 : i = a
  ·subst e1
   rw [List.getElem_set_self, List.getElem_set_ne hab]
   exact hgD b hb (fun e => hab e.symm) k
  ·rw [List.getElem_set_ne e1]
   by_cases e2 : i = b
   ·subst e2
    rw [List.getElem_set_self]
    exact fun h2 h3 => hgD a ha hab k h3 h2
   ·rw [List.getElem_set_ne e2]
    exact h.dist a b ha hb hab k
 ·rcases mem_set e he with rfl | ⟨j, hj, hne, rfl⟩
  ·exact lt
  ·exact h.lts _ (List.getElem_mem hj)
theorem LStep.lts {w w' : World} {B : Nat} {L L' : LW} {d d' : Sd} (h : LStep w w' B L L' d d') : d'.sq = d.sq ∧ d'.lt = d.lt ∧ d'.X = d.X := by
 have := h.sq
 simp only [Prod.mk.injEq] at this
 exact this
theorem LJ.step {W w w' : World} {lo B : Nat} {L L' : LW} {ds : List Sd} {d' : Sd} (h : LJ W w lo B L ds) (i : Nat) (hi : i < ds.length) (h1 : LS W w' lo B L' d') (hs : LStep w w' B L L' ds[i] d') : LJ W w' lo B L' (ds.set i d') :=
 h.put i hi h1 hs.fr (fun _ h => h) hs.growL hs.growD hs.ss hs.dd (by rw [hs.lts.2.1, hs.lts.2.2]; exact h.lts _ (List.getElem_mem hi))
theorem LI.step {W w w' : World} {lo B : Nat} {L L' : LW} {ds : List Sd} {d' : Sd} (h : LI W w lo B L ds) (i : Nat) (hi : i < ds.length) (h1 : LS W w' lo B L' d') (hs : LStep w w' B L L' ds[i] d') : LI W w' lo B L' (ds.set i d') := ⟨h.toLJ.step i hi h1 hs, fun e he => by
 rcases mem_set e he with rfl | ⟨j, hj, hne, rfl⟩
 ·rw [hs.bz]
  exact h.free _ (List.getElem_mem hi)
 ·exact h.free _ (List.getElem_mem hj)⟩
noncomputable def othR2 : Array Oper := regOps Tryz.f18 2

set_option maxHeartbeats 1600000 in
set_option maxRecDepth 1000000 in
theorem other_any (lo B : Nat) (L : LW) (o : OpV) (w : World) (h : LawAt w lo B L) (hn : 0 < L.ss.length) (hn8 : L.ss.length ≤ 1000) :
  Calls Tryz.prog 18 #[.pointer (some ⟨B, 0, none⟩), .agg o.cells] w fun e w' => e = .returned (L.ss.getD (if o.which then L.ss.length - 1 else 0) undef) ∧ Nw w w' := by
 obtain ⟨b0, hb0⟩ : ∃ b0, b0 = w.heap.size := ⟨_, rfl⟩
 obtain ⟨V, hV⟩ : ∃ V, V = w.alloc (.cells o.cells 54) := ⟨_, rfl⟩
 have hfV : Nw w V := by rw [hV]; exact (Fr.refl _ w).alloc _
 have hC : Blk V b0 o.cells 54 := by rw [hV, hb0]; exact Blk.new _ _ _
 have c7 : V.cell? ⟨b0, 7, none⟩ = some (.bool o.which) := hC.cell 7
 have hbl := hC.lt
 have hLV := h.nw hfV
 obtain ⟨so, sc, hsf, _⟩ := hLV.sides.form
 have d0 : V.cell? ⟨B, 0, none⟩ = some (.slice so L.ss.length sc) := by
  have := hLV.blk.cell 0
  rw [hsf] at this
  exact this
 have hBl := hLV.blk.lt
 have Hs := hd hLV.sides
 have Hsf := hd hsf
 have hget : ∀ i, i < L.ss.length → ∃ g, so = some ⟨g, 0, none⟩ ∧ g < V.heap.size ∧ V.cell? ⟨g, i, none⟩ = some (L.ss.getD i undef) := fun i hi => by
  obtain ⟨g, c, he, hb, hc, _⟩ := hLV.sides.cell i hi
  rw [hsf] at he
  simp only [Value.slice.injEq] at he
  exact ⟨g, he.1, hLV.sides.lt hb, by rw [hc, getD_of_lt _ _ _ hi]⟩
 have HfV := hd hfV
 obtain ⟨wh, hwh⟩ : ∃ wh, o.which = wh := ⟨_, rfl⟩
 rw [hwh] at c7 ⊢
 obtain ⟨n, hnn⟩ : ∃ n, L.ss.length = n := ⟨_, rfl⟩
 rw [hnn] at d0 hget hn hn8 ⊢
 clear hLV hC hfV hsf hwh hnn
 cases wh with
 | false =>
  obtain ⟨g, rfl, hgl, hgc⟩ := hget 0 hn
  obtain ⟨r, hr⟩ : ∃ r, L.ss.getD 0 undef = r := ⟨_, rfl⟩
  rw [if_neg (by simp), hr]
  rw [hr] at hgc
  have hn0 : (0 : Int) < (n : Int) := by omega
  clear hget hr
  go_enter Tryz.func18, Tryz.ntmps18
  go_upto_region 1 with fail
  rw [← hV, ← hb0]
  clear hV hb0
  go_wp2_with fail
  go_ret
  exact ⟨rfl, HfV.out⟩
 | true =>
  obtain ⟨g, rfl, hgl, hgc⟩ := hget (n - 1) (by omega)
  obtain ⟨r, hr⟩ : ∃ r, L.ss.getD (n - 1) undef = r := ⟨_, rfl⟩
  rw [if_pos rfl, hr]
  rw [hr] at hgc
  clear hget hr
  obtain ⟨m, rfl⟩ : ∃ m, n = m + 1 := ⟨n - 1, by omega⟩
  rw [Nat.add_sub_cancel] at hgc
  have hgc0 : V.cell? ⟨g, 0 + m, none⟩ = some r := by rw [Nat.zero_add]; exact hgc
  go_enter Tryz.func18, Tryz.ntmps18
  go_upto_region 1 with fail
  rw [← hV, ← hb0]
  clear hV hb0
  go_wp2_with fail
  have hK0 : Nw V V.drew := (Fr.refl _ V).drew
  refine region_H othR2 13 (fun w'' => Nw V w'') (by kernel_rfl) (by kernel_rfl) (by kernel_rfl) ?_
  refine take_at (i := 0) (d := some 7) (v := .pointer (some ⟨B, 0, none⟩)) (by kernel_rfl) (by kernel_rfl) (fun _ _ _ h => h) (fun w'' hS => by kernel_rfl) hK0 ?_
  refine take_at (i := 1) (d := some 8) (v := .pointer (some ⟨B, 0, none⟩)) (by kernel_rfl) (by kernel_rfl) (fun _ _ _ h => h) (fun w'' hS => by kernel_rfl) hK0 ?_
  refine take_at (i := 2) (d := some 9) (v := .pointer (some ⟨B, 0, none⟩)) (by kernel_rfl) (by kernel_rfl) (fun _ _ _ h => h) (fun w'' hS => by kernel_rfl) hK0 ?_
  refine take_at (i := 3) (d := some 10) (v := .slice (some ⟨g, 0, none⟩) (m + 1) sc) (by kernel_rfl) (by kernel_rfl) (fun _ _ _ h => h) (fun w'' hS => exec_load 25 (.tmp 9) (by kernel_rfl) (by kernel_rfl) (by kernel_rfl) ((hS.cell hBl (fun x => x)).trans d0)) hK0 ?_
  refine take_at (i := 4) (d := some 11) (v := .pointer (some ⟨B, 0, none⟩)) (by kernel_rfl) (by kernel_rfl) (fun _ _ _ h => h) (fun w'' hS => by kernel_rfl) hK0 ?_
  refine take_at (i := 5) (d := some 12) (v := .pointer (some ⟨B, 0, none⟩)) (by kernel_rfl) (by kernel_rfl) (fun _ _ _ h => h) (fun w'' hS => by kernel_rfl) hK0 ?_
  refine take_at (i := 6) (d := some 13) (v := .pointer (some ⟨B, 0, none⟩)) (by kernel_rfl) (by kernel_rfl) (fun _ _ _ h => h) (fun w'' hS => by kernel_rfl) hK0 ?_
  refine take_at (i := 7) (d := some 14) (v := .slice (some ⟨g, 0, none⟩) (m + 1) sc) (by kernel_rfl) (by kernel_rfl) (fun _ _ _ h => h) (fun w'' hS => exec_load 25 (.tmp 13) (by kernel_rfl) (by kernel_rfl) (by kernel_rfl) ((hS.cell hBl (fun x => x)).trans d0)) hK0 ?_
  refine take_at (i := 8) (d := some 15) (v := .int .i64 ((m + 1 : Nat) : Int)) (by kernel_rfl) (by kernel_rfl) (fun _ _ _ h => h) (fun w'' hS => by kernel_rfl) hK0 ?_
  refine take_at (i := 9) (d := some 16) (v := .int .i64 (m : Int)) (by kernel_rfl) (by kernel_rfl) (fun _ _ _ h => h) (fun w'' hS => exec_sub ((m + 1 : Nat) : Int) 1 (m : Int) (.tmp 15) (.const (.int .i64 1)) (by kernel_rfl) (by kernel_rfl) (by kernel_rfl) (by omega) (by omega)) hK0 ?_
  refine take_at (i := 10) (d := some 17) (v := .pointer (some ⟨g, 0 + m, none⟩)) (by kernel_rfl) (by kernel_rfl) (fun _ _ _ h => h) (fun w'' hS => exec_index (i := m) (n := m + 1) (cap := sc) 25 49 (.tmp 10) (.tmp 16) (by kernel_rfl) (by kernel_rfl) (by kernel_rfl) (by omega) (by kernel_rfl) (by kernel_rfl)) hK0 ?_
  refine take_at (i := 11) (d := some 18) (v := r) (by kernel_rfl) (by kernel_rfl) (fun _ _ _ h => h) (fun w'' hS => exec_load 49 (.tmp 17) (by kernel_rfl) (by kernel_rfl) (by kernel_rfl) ((hS.cell hgl (fun x => x)).trans hgc0)) hK0 ?_
  refine value_at (i := 12) (d := some 4) (v := r) (w' := V.drew) (by kernel_rfl) (by kernel_rfl) (by kernel_rfl) hK0 ?_
  refine wpAnyH_done (by kernel_rfl) ?_ _
  simp only [Act.put, List.setIfInBounds_toArray, List.set_cons_zero, List.set_cons_succ]
  clear hK0
  go_wp2_with fail
  go_ret
  exact ⟨rfl, HfV.out.drew⟩

set_option maxHeartbeats 1600000 in
set_option maxRecDepth 1000000 in
theorem step_any (W : World) (lo B : Nat) (L : LW) (d : Sd) (o : OpV) (w : World) (h : LS W w lo B L d) (hbz : d.bz = false) (hk : o.kind ≠ 9) (ho : OpOk W o) (hr : LRoom L) :
  Calls Tryz.prog 17 #[.pointer (some ⟨B, 0, none⟩), .pointer (some ⟨d.D, 0, none⟩), .agg o.cells] w (PlainPost W w lo B L d o.rows.length) := by
 obtain ⟨b0, hb0⟩ : ∃ b0, b0 = w.heap.size := ⟨_, rfl⟩
 obtain ⟨V, hV⟩ : ∃ V, V = w.alloc (.cells o.cells 54) := ⟨_, rfl⟩
 have hfV : Nw w V := by rw [hV]; exact (Fr.refl _ w).alloc _
 have hC : Blk V b0 o.cells 54 := by rw [hV, hb0]; exact Blk.new _ _ _
 obtain ⟨kk, hkk⟩ : ∃ kk, o.kind = kk := ⟨_, rfl⟩
 have c0 : V.cell? ⟨b0, 0, none⟩ = some (.int .i64 kk) := (hC.cell 0).trans (by rw [← hkk]; rfl)
 have c1 : V.cell? ⟨b0, 1, none⟩ = some (.int .i64 o.a) := hC.cell 1
 have c2 : V.cell? ⟨b0, 2, none⟩ = some (.int .i64 o.b) := hC.cell 2
 have c3 : V.cell? ⟨b0, 3, none⟩ = some (.slice o.vo o.vars.length o.vcap) := hC.cell 3
 have c4 : V.cell? ⟨b0, 4, none⟩ = some (.slice o.ro o.rows.length o.rcap) := hC.cell 4
 have c5 : V.cell? ⟨b0, 5, none⟩ = some (.bool o.nt) := hC.cell 5
 have c6 : V.cell? ⟨b0, 6, none⟩ = some (.int .i64 o.way) := hC.cell 6
 have c7 : V.cell? ⟨b0, 7, none⟩ = some (.bool o.which) := hC.cell 7
 have c8 : V.cell? ⟨b0, 8, none⟩ = some o.fv := hC.cell 8
 have c9 : V.cell? ⟨b0, 9, none⟩ = some o.mv := hC.cell 9
 have hbl := hC.lt
 have n9 : (kk == 9) = false := by rw [beq_eq_false_iff_ne, ← hkk]; exact hk
 have Hcall := hd (plain_any W lo B L d o V (h.nw hfV) hbz ho hr)
 have hoc : o.cells = #[.int .i64 kk, .int .i64 o.a, .int .i64 o.b, .slice o.vo o.vars.length o.vcap, .slice o.ro o.rows.length o.rcap, .bool o.nt, .int .i64 o.way, .bool o.which, o.fv, o.mv] := by rw [← hkk]; rfl
 have Hfin := hd (show ∀ e w', PlainPost W V lo B L d o.rows.length e w' → PlainPost W w lo B L d o.rows.length e w' from fun e w' ⟨h1, L', d', h2, h3, h4⟩ => ⟨h1, L', d', h2, (LStep.nw hfV B L d).trans h3, h4⟩)
 have hret : ∀ e w', PlainPost W V lo B L d o.rows.length e w' → e = .returned (.bool true) := fun e w' h => h.1
 obtain ⟨PP, hPP⟩ : ∃ PP, PP = PlainPost W w lo B L d o.rows.length := ⟨_, rfl⟩
 obtain ⟨PV, hPV⟩ : ∃ PV, PV = PlainPost W V lo B L d o.rows.length := ⟨_, rfl⟩
 rw [← hPP, ← hPV] at Hfin
 rw [← hPV] at Hcall hret
 rw [← hPP]
 rw [hoc] at Hcall
 have Hret := hd hret
 clear h hC hfV hkk hoc hPP hPV hret
 go_enter Tryz.func17, Tryz.ntmps17
 go_upto_region 1 with fail
 rw [← hV, ← hb0]
 clear hV hb0
 go_wp2_with (go_at_call 35; refine Hcall.out.mono ?_; intro e w1 hw1; have Hw1 := hd hw1; obtain rfl := Hret.out e w1 hw1; clear hw1)
 exact Hfin.out _ _ Hw1.out
end Go.Proofs.YtkjfpdfkcfgfkaaGreat

namespace Go.Proofs.YtkjfpdfkcfgfkaaGreat
open Go.RowKit

set_option maxHeartbeats 1600000 in
set_option maxRecDepth 1000000 in
theorem ended_any (W : World) (lo B : Nat) (L : LW) (d : Sd) (most : Int) (w : World) (h : LS W w lo B L d) (hbz : d.bz = false) (hn : L.nums.length + 40 ≤ 68719476736) (h4 : L.nums.length % 4 = 0) (ht : L.turned.length ≤ 8388608) (hr : L.rows.length ≤ 8388608) :
  Calls Tryz.prog 20 #[.pointer (some ⟨B, 0, none⟩), .pointer (some ⟨d.D, 0, none⟩), .int .i64 most] w fun e w' => e = .returned (.bool true) ∧ ∃ L' d', LS W w' lo B L' d' ∧ LStep w w' B L L' d d' ∧ L'.nums.length ≤ L.nums.length + 40 ∧ L'.turned = L.turned ∧ L'.rows = L.rows := by
 have hz := okSizes_len h.side.pair.at_.mem.zok
 have Hcell := hd (show ∀ w' L', LS W w' lo B L' d → w'.cell? ⟨d.D, 0, none⟩ = some (.pointer (some ⟨d.X, 0, none⟩)) ∧ w'.cell? ⟨d.D, 1, none⟩ = some (.pointer (some ⟨d.Y, 0, none⟩)) ∧ ∃ szo szc, w'.cell? ⟨d.Y, 0, none⟩ = some (.slice szo d.zs.length szc) from fun w' L' hl => by
  obtain ⟨szo, szc, hszf, _⟩ := hl.side.pair.ref.rin.sz.form
  rw [List.length_map] at hszf
  refine ⟨hl.side.blk.cell 0, hl.side.blk.cell 1, szo, szc, ?_⟩
  have := hl.side.pair.ref.rin.blk.cell 0
  rw [hszf] at this
  exact this)
 have H := hd h
 have hz8 := hz.2
 have Hbz := hd hbz
 clear h hz hbz
 go_enter Tryz.func20, Tryz.ntmps20
 go_wp2_with fail
 go_loopw [7, 8] (fun v _ wr => ∃ (k : Nat) (L' : LW), k ≤ d.zs.length + 2 ∧ v = .int .i64 ((k : Int) - 1) ∧ Hid (LS W wr lo B L' d) ∧ Hid (LStep w wr B L L' d d) ∧ L'.nums.length ≤ L.nums.length + 4 * k ∧ Hid (L'.turned = L.turned) ∧ Hid (L'.rows = L.rows)) (fun v _ _ => (d.zs.length : Int).toNat + 2 - (intOf v + 1).toNat)
 case atStart => exact ⟨0, L, by omega, rfl, H, hd (LStep.nw (Fr.refl _ _) B L d), by omega, rfl, rfl⟩
 case round =>
  obtain ⟨k, L', hk, rfl, HL, HS, hnl, HT, HR⟩ := hrel
  obtain ⟨x0, x1, szo, szc, x2⟩ := Hcell.out wr L' HL.out
  have hDl := HL.out.side.blk.lt
  have hYl := HL.out.side.pair.ref.rin.blk.lt
  by_cases hlt : k < d.zs.length + 2
  ·have hdk : (k : Int) - 1 ≤ (d.zs.length : Int) := by omega
   have hroom : LRoom L' := ⟨by omega, by rw [HT.out]; exact ht, by rw [HR.out]; exact hr, by rw [HS.out.four]; exact h4⟩
   have Hcall := hd (domains_any W lo B L' d ((k : Int) - 1) wr HL.out Hbz.out hroom)
   clear hroom
   go_wp2_with (go_at_call 36; refine Hcall.out.mono ?_; rintro e w1 ⟨rfl, L2, h1, h2, h3, h5, h6⟩; have H1 := hd h1; have H2 := hd h2; have H3 := hd (h3 0); have H5 := hd h5; have H6 := hd h6; clear h1 h2 h3 h5 h6)
   have h3 := H3.out.a
   refine ⟨⟨k + 1, L2, by omega, by simp, H1, hd (HS.out.trans H2.out), by omega, hd (H5.out.trans HT.out), hd (H6.out.trans HR.out)⟩, by simp [intOf]; omega⟩
  ·have hdk : ¬ ((k : Int) - 1 ≤ (d.zs.length : Int)) := by omega
   have Hlk := hd (fun wx (dx : Sd) (hx : LS W wx lo B L' dx) (hb : dx.bz = false) => changes_look W lo B L' dx #[.int .i64 5, .int .i64 0, .int .i64 0, .slice none 0 0, .slice none 0 0, .bool false, .int .i64 0, .bool false, .slice none 0 0, .slice none 0 0] wx hx hb rfl)
   by_cases hm8 : (8 : Int) ≤ most
   ·have Hco := hd (counts_ok W lo B L' d 50 wr HL.out Hbz.out (by decide))
    go_wp2_with (go_at_call 37; refine Hco.out.mono ?_; rintro e w1 ⟨rfl, d1, h1, h2⟩; have Hl := hd (Hlk.out w1 d1 h1 (h2.bz.trans Hbz.out)); have H1 := hd h1; have H2 := hd h2; have Hdd := hd h2.dd; clear h1 h2)
    rw [Hdd.out] at Hl
    go_wp2_with (go_at_call 38; refine Hl.out.mono ?_; rintro e w2 ⟨rfl, hf2⟩; have Hf2 := hd hf2; clear hf2)
    go_ret
    exact ⟨rfl, L', d1, H1.out.nw Hf2.out, (HS.out.trans H2.out).trans (LStep.nw Hf2.out B L' d1), by omega, HT.out, HR.out⟩
   ·have Hl := hd (Hlk.out wr d HL.out Hbz.out)
    go_wp2_with (go_at_call 38; refine Hl.out.mono ?_; rintro e w1 ⟨rfl, hf1⟩; have Hf1 := hd hf1; clear hf1)
    go_ret
    exact ⟨rfl, L', d, HL.out.nw Hf1.out, HS.out.trans (LStep.nw Hf1.out B L' d), by omega, HT.out, HR.out⟩
end Go.Proofs.YtkjfpdfkcfgfkaaGreat

namespace Go.Proofs.YtkjfpdfkcfgfkaaGreat
open Go.RowKit

def op0 : OpV := ⟨0, 0, 0, none, 0, none, 0, [], [], false, 0, false, .slice none 0 0, .slice none 0 0⟩
def OpsAt (W : World) (so : Option Addr) (ops : List OpV) : Prop := ∀ i, i < ops.length → ∃ b o, so = some ⟨b, o, none⟩ ∧ b < W.heap.size ∧ (∀ c, c < 10 → W.cell? ⟨b, o + i * 10 + c, none⟩ = (ops.getD i op0).cells[c]?) ∧ OpOk W (ops.getD i op0)
def opCost (o : OpV) : Nat := 1 + o.rows.length
def opsCost : List OpV → Nat
 | [] => 0
 | o :: r => opCost o + opsCost r
theorem opsCost_append : ∀ (a b : List OpV), opsCost (a ++ b) = opsCost a + opsCost b
 | [], b => by simp [opsCost]
 | o :: a, b => by
  have := opsCost_append a b
  simp only [List.cons_append, opsCost, this]
  omega
theorem opsCost_take (ops : List OpV) (k : Nat) (hk : k < ops.length) : opsCost (ops.take (k + 1)) = opsCost (ops.take k) + (1 + (ops.getD k op0).rows.length) := by
 rw [List.take_succ_eq_append_getElem hk, opsCost_append, getD_of_lt _ _ _ hk]
 simp [opsCost, opCost]
theorem opsCost_le (ops : List OpV) (k : Nat) : opsCost (ops.take k) ≤ opsCost ops := by
 have h := opsCost_append (ops.take k) (ops.drop k)
 rw [List.take_append_drop] at h
 omega
theorem opsCost_len : ∀ (ops : List OpV), ops.length ≤ opsCost ops
 | [] => by simp
 | o :: r => by
  have := opsCost_len r
  simp only [List.length_cons, opsCost, opCost]
  omega
theorem exec_index10 {ev : Operand → Value} {o : Oper} {w : World} {b off n cap i : Nat} (t e : TypeId) (x y : Operand) (ho : o.op = .indexAddr t x y) (hx : ev x = .slice (some ⟨b, off, none⟩) n cap) (hy : ev y = .int .i64 (i : Int)) (hi : i < n)
  (ht : (underlying t).run Tryz.prog w = .ok (.slice e) w) (he : (sizeOf e).run Tryz.prog w = .ok 10 w) :
  (execOp ev o).run Tryz.prog w = .ok (.value (.pointer (some ⟨b, off + i * 10, none⟩))) w := by
 unfold execOp
 simp [ho, hx, hy, Instr.indexAt, asIntOf, ht, he, Result.andThen, go_sem, hi]
theorem exec_load10 {ev : Operand → Value} {o : Oper} {w : World} {b off : Nat} {v0 v1 v2 v3 v4 v5 v6 v7 v8 v9 : Value} (t : TypeId) (x : Operand) (ho : o.op = .load t x) (hx : ev x = .pointer (some ⟨b, off, none⟩)) (hag : (isAgg t).run Tryz.prog w = .ok true w) (hsz : (sizeOf t).run Tryz.prog w = .ok 10 w)
  (hc : ∀ c, c < 10 → w.cell? ⟨b, off + c, none⟩ = #[v0, v1, v2, v3, v4, v5, v6, v7, v8, v9][c]?) :
  (execOp ev o).run Tryz.prog w = .ok (.value (.agg #[v0, v1, v2, v3, v4, v5, v6, v7, v8, v9])) w := by
 have hl : ∀ (a : Addr) (v : Value), w.cell? a = some v → (Sem.load Mode.plain a Sem.pure).run Tryz.prog w = .ok v w := fun a v hc => by
  unfold Sem.run
  rw [hc]
  rfl
 have c0 : w.cell? ⟨b, off, none⟩ = some v0 := hc 0 (by omega)
 have c1 : w.cell? ⟨b, off + 1, none⟩ = some v1 := hc 1 (by omega)
 have c2 : w.cell? ⟨b, off + 2, none⟩ = some v2 := hc 2 (by omega)
 have c3 : w.cell? ⟨b, off + 3, none⟩ = some v3 := hc 3 (by omega)
 have c4 : w.cell? ⟨b, off + 4, none⟩ = some v4 := hc 4 (by omega)
 have c5 : w.cell? ⟨b, off + 5, none⟩ = some v5 := hc 5 (by omega)
 have c6 : w.cell? ⟨b, off + 6, none⟩ = some v6 := hc 6 (by omega)
 have c7 : w.cell? ⟨b, off + 7, none⟩ = some v7 := hc 7 (by omega)
 have c8 : w.cell? ⟨b, off + 8, none⟩ = some v8 := hc 8 (by omega)
 have c9 : w.cell? ⟨b, off + 9, none⟩ = some v9 := hc 9 (by omega)
 unfold execOp
 simp [ho, hx, Instr.loadAt, Instr.sureAddr, loadVar, hag, hsz, Result.andThen, load, loadCells, loadCellsFrom, Addr.add, hl _ _ c0, hl _ _ c1, hl _ _ c2, hl _ _ c3, hl _ _ c4, hl _ _ c5, hl _ _ c6, hl _ _ c7, hl _ _ c8, hl _ _ c9]
def Sl (v : Value) : Prop := ∃ a n c, v = .slice a n c
structure NestAt (W : World) (o : OpV) (F M : List OpV) : Prop where
 f : ∃ fo fc, o.fv = .slice fo F.length fc ∧ OpsAt W fo F
 m : ∃ mo mc, o.mv = .slice mo M.length mc ∧ OpsAt W mo M ∧ ∀ x ∈ M, Sl x.fv ∧ Sl x.mv
def goCost (o : OpV) (F M : List OpV) : Nat := opCost o + opsCost F + 2 * opsCost M
structure GoEnd (W w : World) (lo B n : Nat) (L0 L : LW) (ds : List Sd) (ca cb : Nat) : Prop where
 li : LI W w lo B L ds
 len : ds.length = n
 a : L.nums.length ≤ L0.nums.length + ca
 b : L.turned.length ≤ L0.turned.length + cb
 r : L.rows.length ≤ L0.rows.length + cb
 four : L.nums.length % 4 = 0
theorem GoEnd.nw {W w w' : World} {lo B n : Nat} {L0 L : LW} {ds : List Sd} {a b : Nat} (h : GoEnd W w lo B n L0 L ds a b) (f : Nw w w') : GoEnd W w' lo B n L0 L ds a b := ⟨h.li.nw f, h.len, h.a, h.b, h.r, h.four⟩
def GoingOk : Prop := ∀ (W : World) (lo B : Nat) (L : LW) (ds : List Sd) (i : Nat) (d : Sd) (o : OpV) (F M : List OpV) (w : World), LI W w lo B L ds → (hi : i < ds.length) → ds[i] = d → ds.length ≤ 2 → OpOk W o → NestAt W o F M → L.nums.length % 4 = 0 →
  L.nums.length + 4800 * goCost o F M ≤ 68719476736 → L.turned.length + goCost o F M ≤ 8388608 → L.rows.length + goCost o F M ≤ 8388608 →
  Calls Tryz.prog 34 #[.pointer (some ⟨B, 0, none⟩), .pointer (some ⟨d.D, 0, none⟩), .agg o.cells] w fun e w' => e = .returned (.bool true) ∧ ∃ L' ds', GoEnd W w' lo B ds.length L L' ds' (4800 * goCost o F M) (goCost o F M)
structure NOp where
 o : OpV
 F : List OpV
 M : List OpV
def n0 : NOp := ⟨op0, [], []⟩
def NOp.cost (x : NOp) : Nat := goCost x.o x.F x.M
def nCost : List NOp → Nat
 | [] => 0
 | o :: r => o.cost + nCost r
theorem NOp.cost_pos (x : NOp) : 1 ≤ x.cost := by unfold NOp.cost goCost opCost; omega
theorem nCost_append : ∀ (a b : List NOp), nCost (a ++ b) = nCost a + nCost b
 | [], b => by simp [nCost]
 | o :: a, b => by
  have := nCost_append a b
  simp only [List.cons_append, nCost, this]
  omega
theorem nCost_take (ops : List NOp) (k : Nat) (hk : k < ops.length) : nCost (ops.take (k + 1)) = nCost (ops.take k) + (ops.getD k n0).cost := by
 rw [List.take_succ_eq_append_getElem hk, nCost_append, getD_of_lt _ _ _ hk]
 simp [nCost]
theorem nCost_le (ops : List NOp) (k : Nat) : nCost (ops.take k) ≤ nCost ops := by
 have h := nCost_append (ops.take k) (ops.drop k)
 rw [List.take_append_drop] at h
 omega
theorem nCost_len : ∀ (ops : List NOp), ops.length ≤ nCost ops
 | [] => by simp
 | o :: r => by
  have := nCost_len r
  have := o.cost_pos
  simp only [List.length_cons, nCost]
  omega
end Go.Proofs.YtkjfpdfkcfgfkaaGreat

namespace Go.Proofs.YtkjfpdfkcfgfkaaGreat
open Go.ChangeShapes Go.WideShapes Go.ChangeAt Go.RowKit

theorem Tryz.ownK : ownKnob Tryz.prog.godebug = none := by kernel_rfl
theorem Tryz.laidK : laidOutB Tryz.prog = true := by kernel_rfl
theorem Tryz.cInts : Tryz.prog.cellsOf 22 = 1 := by kernel_rfl
theorem Tryz.cRows : Tryz.prog.cellsOf 26 = 1 := by kernel_rfl
theorem Tryz.cInt : Tryz.prog.cellsOf 3 = 1 := by kernel_rfl
theorem Tryz.cBool : Tryz.prog.cellsOf 4 = 1 := by kernel_rfl
theorem Tryz.cTable : Tryz.prog.cellsOf 41 = 4 := by kernel_rfl
theorem Tryz.cOp : Tryz.prog.cellsOf 54 = 10 := by kernel_rfl
theorem Tryz.cOps : Tryz.prog.cellsOf 23 = 1 := by kernel_rfl
theorem bulk_one {H : Type} (d : DataW H) : 1 ≤ Rows.uptoBulk d := by
 cases d with
 | lit l => cases l <;> simp [Rows.uptoBulk]
 | nil => simp [Rows.uptoBulk]
 | ptr d => simp [Rows.uptoBulk]
 | slice elems spare => simp [Rows.uptoBulk]
 | agg parts => simp [Rows.uptoBulk]
 | iface t d => simp [Rows.uptoBulk]
 | map entries => simp [Rows.uptoBulk]
 | held h => simp [Rows.uptoBulk]
theorem bulk_mem {H : Type} : ∀ {l : List (DataW H)} {d : DataW H}, d ∈ l → Rows.uptoBulk d ≤ Rows.uptoBulkAll l
 | x :: l, d, h => by
  rw [Rows.uptoBulkAll]
  rcases List.mem_cons.1 h with rfl | h
  ·omega
  ·have := bulk_mem h
   omega
theorem bulk_len {H : Type} : ∀ (l : List (DataW H)), l.length ≤ Rows.uptoBulkAll l
 | [] => by simp
 | x :: l => by
  have h1 := bulk_one x
  have h2 := bulk_len l
  rw [Rows.uptoBulkAll, List.length_cons]
  omega
theorem bulk_append {H : Type} : ∀ (a b : List (DataW H)), Rows.uptoBulkAll (a ++ b) = Rows.uptoBulkAll a + Rows.uptoBulkAll b
 | [], b => by simp [Rows.uptoBulkAll]
 | x :: a, b => by
  have := bulk_append a b
  rw [List.cons_append, Rows.uptoBulkAll, Rows.uptoBulkAll, this]
  omega
theorem bulk_slice {H : Type} (a b : List (DataW H)) : Rows.uptoBulk (.slice a b) = Rows.uptoBulkAll a + Rows.uptoBulkAll b + 1 := by rw [Rows.uptoBulk]
theorem bulk_agg {H : Type} (a : List (DataW H)) : Rows.uptoBulk (.agg a) = Rows.uptoBulkAll a + 1 := by rw [Rows.uptoBulk]
theorem cam_row {H : Type} {enc : TypeId × Value → H} {W : World} {fuel : Nat} {v : Value} {x : DataW H × List MemPlace} (h : DataW.trod enc Tryz.prog W 0 (fun _ => true) true fuel 22 [v] = some x) :
  ∃ (a : Option Addr) (cap : Nat) (zs : List Int), v = .slice a zs.length cap ∧ IntsAt W a zs ∧ zs.length + 1 ≤ Rows.uptoBulk x.1 := by
 rcases open_ints Tryz.underlying22 Tryz.underlying3 (by kernel_rfl) h with ⟨hcs, hx⟩ | ⟨a, len, cap, zs, hcs, _, hl, hm, hz, hx, hcell, hwz⟩
 ·obtain rfl : v = .slice none 0 0 := by simpa using hcs
  exact ⟨none, 0, [], rfl, fun i hi => absurd hi (Nat.not_lt_zero _), bulk_one _⟩
 ·obtain rfl : v = .slice (some a) len cap := by simpa using hcs
  simp only [if_true] at hz
  have hzl : (zs.take len).length = len := by simp; omega
  refine ⟨some a, cap, zs.take len, by rw [hzl], fun i hi => ?_, ?_⟩
  ·rw [hzl] at hi
   have hc := hcell i (by omega)
   obtain ⟨b, o, rfl, _⟩ := ints_at hcell (by omega)
   rw [show (⟨b, o, none⟩ : Addr).add i = ⟨b, o + i, none⟩ from by simp [Addr.add]] at hc
   refine ⟨b, o, rfl, World.block_lt_of_cell? W _ hc, ?_⟩
   rw [hc]
   simp [List.getElem?_take_of_lt hi]
  ·subst hx
   rw [bulk_slice]
   have := bulk_len (H := H) (lits .i64 (zs.take len))
   simp only [lits, List.length_map] at this ⊢
   omega
theorem cam_rows {H : Type} {enc : TypeId × Value → H} {W : World} {fuel : Nat} {v : Value} {x : DataW H × List MemPlace} (h : DataW.trod enc Tryz.prog W 0 (fun _ => true) true fuel 26 [v] = some x) :
  ∃ (a : Option Addr) (cap : Nat) (rows : List (List Int)), v = .slice a rows.length cap ∧ RowsAt W a rows ∧ rows.length + 1 ≤ Rows.uptoBulk x.1 ∧ ∀ r ∈ rows, r.length ≤ Rows.uptoBulk x.1 := by
 rcases Deep.open_slice1 Tryz.underlying26 Tryz.cInts h with ⟨hcs, hx⟩ | ⟨a, len, cap, m, n, V, D, Pl, hcs, hb, hl, hm, hmm, hx, hel⟩
 ·obtain rfl : v = .slice none 0 0 := by simpa using hcs
  exact ⟨none, 0, [], rfl, fun i hi => absurd hi (Nat.not_lt_zero _), bulk_one _, fun r hr => (by cases hr)⟩
 ·obtain rfl : v = .slice (some a) len cap := by simpa using hcs
  simp only [if_true] at hmm
  subst hx
  have each : ∀ i, i < len → ∃ r : List Int, (∃ b o ra rc, a = ⟨b, o, none⟩ ∧ b < W.heap.size ∧ W.cell? ⟨b, o + i, none⟩ = some (.slice ra r.length rc) ∧ IntsAt W ra r) ∧ r.length + 1 ≤ Rows.uptoBulk (D i) := fun i hi => by
   obtain ⟨h1, h2⟩ := hel i (by omega)
   obtain ⟨ra, rc, r, hv, hI, hbk⟩ := cam_row h2
   refine ⟨r, ?_, hbk⟩
   have hsp : a.spot = none := by
    have h0 := (hel 0 (by omega)).1
    rw [show a.add 0 = a from by simp [Addr.add]] at h0
    exact World.cell?_spot h0
   obtain ⟨ab, ao, ai⟩ := a
   obtain rfl : ai = none := hsp
   rw [add_plain, hv] at h1
   exact ⟨ab, ao, ra, rc, rfl, World.block_lt_of_cell? W _ h1, h1, hI⟩
  haveI : Inhabited (List Int) := ⟨[]⟩
  obtain ⟨R, hR⟩ := Deep.choose_lt each
  have hbe : ∀ i, i < len → Rows.uptoBulk (D i) ≤ Rows.uptoBulkAll ((List.range len).map D) := fun i hi => bulk_mem (List.mem_map.2 ⟨i, List.mem_range.2 hi, rfl⟩)
  refine ⟨some a, cap, (List.range len).map R, by simp, fun i hi => ?_, ?_, fun r hr => ?_⟩
  ·rw [List.length_map, List.length_range] at hi
   obtain ⟨⟨b, o, ra, rc, rfl, hbl, hc, hI⟩, _⟩ := hR i hi
   have e : ((List.range len).map R).getD i [] = R i := by simp [List.getD, hi]
   rw [e]
   exact ⟨b, o, ra, rc, rfl, hbl, hc, hI⟩
  ·rw [bulk_slice]
   have := bulk_len ((List.range len).map D)
   simp only [List.length_map, List.length_range] at this ⊢
   omega
  ·obtain ⟨i, hi, rfl⟩ := List.mem_map.1 hr
   have hi' := List.mem_range.1 hi
   have h1 := (hR i hi').2
   have h2 := hbe i hi'
   rw [bulk_slice]
   omega
def sumC {α : Type} (c : α → Nat) (l : List α) : Nat := (l.map c).sum
theorem cost_bulk {α H : Type} (c : α → Nat) (m : Nat) (R : Nat → α) (D : Nat → DataW H) : ∀ n, (∀ i, i < n → c (R i) ≤ m * Rows.uptoBulk (D i)) → sumC c ((List.range n).map R) ≤ m * Rows.uptoBulkAll ((List.range n).map D)
 | 0, _ => by simp [sumC]
 | n + 1, h => by
  have ih := cost_bulk c m R D n (fun i hi => h i (by omega))
  have h1 := h n (by omega)
  rw [List.range_succ, List.map_append, List.map_append, bulk_append, List.map_singleton, List.map_singleton]
  have e1 : sumC c ((List.range n).map R ++ [R n]) = sumC c ((List.range n).map R) + c (R n) := by simp [sumC]
  have e2 : Rows.uptoBulkAll [D n] = Rows.uptoBulk (D n) := by simp [Rows.uptoBulkAll]
  rw [e1, e2, Nat.mul_add]
  omega
set_option maxRecDepth 100000 in
theorem cam_gen {α H : Type} {enc : TypeId × Value → H} {W : World} {fuel : Nat} {v : Value} {x : DataW H × List MemPlace} (x0 : α) (op : α → OpV) (c : α → Nat) (P : α → Prop) (m : Nat)
  (hα : ∀ (r : OpV) (k B : Nat) (y z : DataW H × List MemPlace), DataW.trod enc Tryz.prog W 0 (fun _ => true) true k 23 [r.fv] = some y → DataW.trod enc Tryz.prog W 0 (fun _ => true) true k 23 [r.mv] = some z → opCost r + Rows.uptoBulk y.1 + Rows.uptoBulk z.1 ≤ B → B ≤ 1048576 → ∃ x : α, op x = r ∧ P x ∧ c x ≤ m * B)
  (h : DataW.trod enc Tryz.prog W 0 (fun _ => true) true fuel 23 [v] = some x) (hw : Rows.uptoBulk x.1 ≤ 1048576) :
  ∃ (a : Option Addr) (cap : Nat) (xs : List α), v = .slice a xs.length cap ∧ OpsAt W a (xs.map op) ∧ (∀ x ∈ xs, P x) ∧ sumC c xs ≤ m * Rows.uptoBulk x.1 := by
 rcases Deep.open_slice Tryz.underlying23 h with ⟨hcs, hx⟩ | ⟨a, len, cap, mm, n, D, Pl, hcs, hb, hl, hm, hmm, hx, hel⟩
 ·obtain rfl : v = .slice none 0 0 := by simpa using hcs
  exact ⟨none, 0, [], rfl, fun i hi => absurd hi (Nat.not_lt_zero _), fun x hx => (by cases hx), Nat.zero_le _⟩
 ·obtain rfl : v = .slice (some a) len cap := by simpa using hcs
  simp only [if_true] at hmm
  subst hx
  rw [bulk_slice] at hw ⊢
  have hspot : 0 < len → a.spot = none := fun h0 => by
   obtain ⟨cs', h1, _⟩ := hel 0 (by omega)
   rw [Tryz.cOp] at h1
   obtain ⟨_, hlen, hcell⟩ := World.cells?_some h1
   have e0 := hcell 0 (by omega)
   rw [Deep.add_add] at e0
   have e1 : W.cell? a = some cs'[0] := by
    simpa [Addr.add, hlen] using e0
   exact World.cell?_spot e1
  have each : ∀ i, i < len → ∃ r : α, (∃ b o, a = ⟨b, o, none⟩ ∧ b < W.heap.size ∧ (∀ c, c < 10 → W.cell? ⟨b, o + i * 10 + c, none⟩ = (op r).cells[c]?) ∧ OpOk W (op r)) ∧ P r ∧ c r ≤ m * Rows.uptoBulk (D i) := fun i hi => by
   have hDi : Rows.uptoBulk (D i) ≤ Rows.uptoBulkAll ((List.range len).map D) := bulk_mem (List.mem_map.2 ⟨i, List.mem_range.2 hi, rfl⟩)
   obtain ⟨cs', h1, h2⟩ := hel i (by omega)
   rw [Tryz.cOp] at h1
   obtain ⟨_, hlen, hcell⟩ := World.cells?_some h1
   obtain ⟨xs, k, hk, hxy, _, hxl, hf⟩ := DataW.trod_struct Tryz.underlying54 h2
   match xs, hxl, cs', hlen with
   | [y0, y1, y2, y3, y4, y5, y6], _, [v0, v1, v2, v3, v4, v5, v6, v7, v8, v9], _ =>
    have g0 := hf 0 _ rfl
    have g1 := hf 1 _ rfl
    have g2 := hf 2 _ rfl
    have g3 := hf 3 _ rfl
    have g4 := hf 4 _ rfl
    have g5 := hf 5 _ rfl
    have g6 := hf 6 _ rfl
    simp only [List.getElem_toArray, List.getElem_cons_zero, List.getElem_cons_succ, Tryz.cInt, Tryz.cBool, Tryz.cTable, Tryz.cOps, List.drop_zero, List.drop_succ_cons, List.take_succ_cons, List.take_zero, List.getElem?_cons_zero, List.getElem?_cons_succ] at g0 g1 g2 g3 g4 g5 g6
    obtain ⟨kind, hv0, _⟩ := DataW.trod_int Tryz.underlying3 g0
    obtain ⟨oa, hv1, _, hoa⟩ := DataW.trod_int Tryz.underlying3 g1
    obtain ⟨obb, hv2, _⟩ := DataW.trod_int Tryz.underlying3 g2
    obtain ⟨which, hv7, _⟩ := DataW.trod_bool Tryz.underlying4 g4
    obtain ⟨ts, k2, hk2, hty, _, htl, htf⟩ := DataW.trod_struct Tryz.underlying41 g3
    match ts, htl with
    | [t0, t1, t2, t3], _ =>
     have q0 := htf 0 _ rfl
     have q1 := htf 1 _ rfl
     have q2 := htf 2 _ rfl
     have q3 := htf 3 _ rfl
     simp only [List.getElem_toArray, List.getElem_cons_zero, List.getElem_cons_succ, Tryz.cInts, Tryz.cRows, Tryz.cInt, Tryz.cBool, List.drop_zero, List.drop_succ_cons, List.take_succ_cons, List.take_zero, List.getElem?_cons_zero, List.getElem?_cons_succ] at q0 q1 q2 q3
     obtain ⟨vo, vcap, vars, hv3, hIv, hbv⟩ := cam_row q0
     obtain ⟨ro, rcap, rows, hv4, hRr, hbr, hbrr⟩ := cam_rows q1
     obtain ⟨nt, hv5, _⟩ := DataW.trod_bool Tryz.underlying4 q2
     obtain ⟨way, hv6, _⟩ := DataW.trod_int Tryz.underlying3 q3
     obtain rfl : v0 = .int .i64 kind := by simpa using hv0
     obtain rfl : v1 = .int .i64 oa := by simpa using hv1
     obtain rfl : v2 = .int .i64 obb := by simpa using hv2
     obtain rfl : v7 = .bool which := by simpa using hv7
     obtain rfl : v5 = .bool nt := by simpa using hv5
     obtain rfl : v6 = .int .i64 way := by simpa using hv6
     subst hv3
     subst hv4
     simp only [Prod.mk.injEq] at hxy hty
     have hT : Rows.uptoBulk y3.1 + Rows.uptoBulk y5.1 + Rows.uptoBulk y6.1 ≤ Rows.uptoBulk (D i) := by
      rw [hxy.1, bulk_agg]
      simp only [List.map_cons, List.map_nil, Rows.uptoBulkAll]
      omega
     have hT0 : Rows.uptoBulk t0.1 + Rows.uptoBulk t1.1 + 1 ≤ Rows.uptoBulk y3.1 := by
      rw [hty, bulk_agg]
      simp only [List.map_cons, List.map_nil, Rows.uptoBulkAll]
      omega
     have hsp := hspot (by omega)
     obtain ⟨ab, ao, ai⟩ := a
     obtain rfl : ai = none := hsp
     obtain ⟨r, hr0, hP, hcr⟩ := hα ⟨kind, oa, obb, vo, vcap, ro, rcap, vars, rows, nt, way, which, v8, v9⟩ _ (Rows.uptoBulk (D i)) y5 y6 g5 g6 (by show 1 + rows.length + _ + _ ≤ _; omega) (by omega)
     refine ⟨r, ⟨ab, ao, rfl, ?_, fun c hc => ?_, ?_⟩, hP, hcr⟩
     ·have e0 := hcell 0 (by omega)
      rw [Deep.add_add, add_plain] at e0
      exact World.block_lt_of_cell? W _ e0
     ·have e0 := hcell c hc
      rw [Deep.add_add, add_plain] at e0
      rw [Nat.add_assoc, hr0]
      refine e0.trans ?_
      have hcl : c = 0 ∨ c = 1 ∨ c = 2 ∨ c = 3 ∨ c = 4 ∨ c = 5 ∨ c = 6 ∨ c = 7 ∨ c = 8 ∨ c = 9 := by omega
      rcases hcl with rfl | rfl | rfl | rfl | rfl | rfl | rfl | rfl | rfl | rfl <;> rfl
     ·rw [hr0]
      refine ⟨hIv, hRr, ?_, ?_, fun r hr => ?_, ?_⟩
      ·show vars.length ≤ _
       omega
      ·show rows.length ≤ _
       omega
      ·have := hbrr r hr
       omega
      ·show oa < _
       have h2 : (decide (IntKind.i64.min ≤ oa) && decide (oa ≤ IntKind.i64.max)) = true := hoa
       have h3 : oa ≤ IntKind.i64.max := by simpa using (Bool.and_eq_true_iff.1 h2).2
       have h4 : IntKind.i64.max = 9223372036854775807 := by decide
       omega
  haveI : Inhabited α := ⟨x0⟩
  obtain ⟨R, hR⟩ := Deep.choose_lt each
  refine ⟨some a, cap, (List.range len).map R, by simp, fun i hi => ?_, fun x hx => ?_, ?_⟩
  ·rw [List.length_map, List.length_map, List.length_range] at hi
   obtain ⟨⟨b, o, rfl, hb', hc, hok⟩, _⟩ := hR i hi
   have e : (((List.range len).map R).map op).getD i op0 = op (R i) := by simp [List.getD, hi]
   rw [e]
   exact ⟨b, o, rfl, hb', hc, hok⟩
  ·obtain ⟨i, hi, rfl⟩ := List.mem_map.1 hx
   exact (hR i (List.mem_range.1 hi)).2.1
  ·refine Nat.le_trans (cost_bulk c m R D len (fun i hi => (hR i hi).2.2)) (Nat.mul_le_mul_left _ ?_)
   omega
theorem ops_sum : ∀ l : List OpV, sumC opCost l = opsCost l
 | [] => rfl
 | o :: l => by
  have := ops_sum l
  simp only [sumC, List.map_cons, List.sum_cons, opsCost] at this ⊢
  omega
theorem n_sum : ∀ l : List NOp, sumC NOp.cost l = nCost l
 | [] => rfl
 | o :: l => by
  have := n_sum l
  simp only [sumC, List.map_cons, List.sum_cons, nCost] at this ⊢
  omega
theorem cam_sl {H : Type} {enc : TypeId × Value → H} {W : World} {fuel : Nat} {v : Value} {x : DataW H × List MemPlace} (h : DataW.trod enc Tryz.prog W 0 (fun _ => true) true fuel 23 [v] = some x) : Sl v := by
 rcases Deep.open_slice Tryz.underlying23 h with ⟨hcs, hx⟩ | ⟨a, len, cap, mm, n, D, Pl, hcs, _⟩
 ·exact ⟨none, 0, 0, by simpa using hcs⟩
 ·exact ⟨some a, len, cap, by simpa using hcs⟩
theorem cam_ops {H : Type} {enc : TypeId × Value → H} {W : World} {fuel : Nat} {v : Value} {x : DataW H × List MemPlace} (h : DataW.trod enc Tryz.prog W 0 (fun _ => true) true fuel 23 [v] = some x) (hw : Rows.uptoBulk x.1 ≤ 1048576) :
  ∃ (a : Option Addr) (cap : Nat) (ops : List OpV), v = .slice a ops.length cap ∧ OpsAt W a ops ∧ (∀ x ∈ ops, Sl x.fv ∧ Sl x.mv) ∧ opsCost ops ≤ Rows.uptoBulk x.1 := by
 obtain ⟨a, cap, xs, h1, h2, h3, h4⟩ := cam_gen op0 id opCost (fun x => Sl x.fv ∧ Sl x.mv) 1 (fun r k B y z hy hz hB _ => ⟨r, rfl, ⟨cam_sl hy, cam_sl hz⟩, by omega⟩) h hw
 rw [List.map_id] at h2
 rw [ops_sum] at h4
 exact ⟨a, cap, xs, h1, h2, h3, by omega⟩
theorem cam_script {H : Type} {enc : TypeId × Value → H} {W : World} {fuel : Nat} {v : Value} {x : DataW H × List MemPlace} (h : DataW.trod enc Tryz.prog W 0 (fun _ => true) true fuel 23 [v] = some x) (hw : Rows.uptoBulk x.1 ≤ 1048576) :
  ∃ (a : Option Addr) (cap : Nat) (ns : List NOp), v = .slice a ns.length cap ∧ OpsAt W a (ns.map NOp.o) ∧ (∀ x ∈ ns, NestAt W x.o x.F x.M) ∧ nCost ns ≤ 2 * Rows.uptoBulk x.1 := by
 have key := cam_gen n0 NOp.o NOp.cost (fun x => NestAt W x.o x.F x.M) 2 (fun r k B y z hy hz hB hB2 => by
  obtain ⟨fo, fc, F, hf1, hf2, _, hf3⟩ := cam_ops hy (by omega)
  obtain ⟨mo, mc, M, hm1, hm2, hms, hm3⟩ := cam_ops hz (by omega)
  refine ⟨⟨r, F, M⟩, rfl, ⟨⟨fo, fc, hf1, hf2⟩, ⟨mo, mc, hm1, hm2, hms⟩⟩, ?_⟩
  show opCost r + opsCost F + 2 * opsCost M ≤ 2 * B
  omega) h hw
 obtain ⟨a, cap, ns, h1, h2, h3, h4⟩ := key
 rw [n_sum] at h4
 exact ⟨a, cap, ns, h1, h2, h3, h4⟩
end Go.Proofs.YtkjfpdfkcfgfkaaGreat

namespace Go.Proofs.YtkjfpdfkcfgfkaaGreat
open Go.RowKit

set_option maxHeartbeats 1600000 in
set_option maxRecDepth 1000000 in
theorem opens_more (B : Nat) (sv nv tv rv : Value) (ss ts : List Value) (ao : Option Addr) (cap : Nat) (zs : List Int) (w : World) (hlen : 1 ≤ zs.length) (hlen8 : zs.length ≤ 8)
  (hB : Blk w B #[sv, nv, tv, rv] 29) (htv : Row w tv 22 ts) (hts : (ts.length + 1) * 24 ≤ 140737488355328) (hsv : Row w sv 49 ss) (hss : (ss.length + 1) * 8 ≤ 140737488355328) (hl : IntsAt w ao zs) :
  Calls Tryz.prog 8 #[.pointer (some ⟨B, 0, none⟩), .slice ao zs.length cap] w fun e w' =>
   e = .returned (.bool true) ∧ ∃ sv' tv', Fr (fun k => k = B ∨ tv.ownBlock = some k ∨ sv.ownBlock = some k) w w' ∧ Blk w' B #[sv', nv, tv', rv] 29 ∧
    Row w' tv' 22 (ts ++ [.slice (some ⟨w.heap.size, 0, none⟩) (zs.length + 1) (zs.length + 1)]) ∧ Blk w' w.heap.size (turnedTo zs (zs.length + 1)) 3 ∧
    (∀ k, tv'.ownBlock = some k → tv.ownBlock = some k ∨ w.heap.size ≤ k) ∧
    ((okSizes zs = false ∧ sv' = sv ∧ Row w' sv 49 ss) ∨ (okSizes zs = true ∧ ∃ D X Y szv, Row w' sv' 49 (ss ++ [.pointer (some ⟨D, 0, none⟩)]) ∧ (∀ k, sv'.ownBlock = some k → sv.ownBlock = some k ∨ w.heap.size ≤ k) ∧
     Blk w' D (sideCells X Y) 52 ∧ Blk w' X (workCells szv (fullTo zs zs.length) nilS rest0) 66 ∧ Row w' szv 3 (zs.map (Value.int .i64)) ∧ w.heap.size ≤ D ∧ w.heap.size ≤ X ∧ ∃ lo2, w.heap.size < lo2 ∧ (∀ k, szv.ownBlock = some k → w.heap.size < k ∧ k < lo2) ∧ lo2 ≤ Y ∧ RefAt w' lo2 Y zs (allIn zs zs.length) false nilS nilS)) := by
 have hBlt := hB.lt
 obtain ⟨b, o, rfl, hbl, _⟩ := hl 0 (by omega)
 obtain ⟨i0, hi, hz0, hz1, hz2⟩ := info_parts Tryz.infoSide
 cases hok : okSizes zs with
 | false =>
  have Hok := hd hok
  clear hok
  go_enter Tryz.func8, Tryz.ntmps8
  go_wp2_with (first
   | (go_at_call 14; refine (lent_any _ _ zs _ (by omega) hl).mono ?_; rintro e w1 ⟨rfl, hf1, hg1⟩; have hown : IntsAt w1 (some ⟨w.heap.size, 0, none⟩) zs := IntsAt.of_blk hg1 0 zs (fun i hi => by simp [List.getElem?_append_left, hi]))
   | (go_at_call 10; refine (new_no _ _ _ zs _ hlen hlen8 hown Hok.out).mono ?_; rintro e w2 ⟨hf2, rfl⟩; have hl2 := (hl.nw hf1).nw hf2)
   | (go_at_call 15; refine (refNew_no _ _ _ zs _ hlen hlen8 hl2 Hok.out).mono ?_; rintro e w3 ⟨hf3, rfl⟩)
   | (go_at_call 16; refine (returned_any B w.heap.size (some ⟨b, o, none⟩) cap zs sv nv tv rv ts _ (by omega) (((hB.nw hf1).nw hf2).nw hf3) (((htv.nw hf1).nw hf2).nw hf3) hts ((hg1.nw hf2).nw hf3) (hl2.nw hf3)).mono ?_; rintro e w4 ⟨rfl, tv', hf4, hB4, htv4, hg4, hlo4⟩))
  go_ret
  have hf13 : Nw w w3 := (hf1.trans hf2 (fun i h => h.elim)).trans hf3 (fun i h => h.elim)
  refine ⟨rfl, sv, tv', (hf13.mono (fun i h => h.elim)).trans hf4 ?_, hB4, htv4, hg4, ?_, .inl ⟨by trivial, rfl, (((hsv.nw hf1).nw hf2).nw hf3).fr hf4 (fun k hk e => opens_apart (((hsv.nw hf1).nw hf2).nw hf3) (((hB.nw hf1).nw hf2).nw hf3) ((hg1.nw hf2).nw hf3) (((htv.nw hf1).nw hf2).nw hf3) k hk e)⟩⟩
  ·rintro i (h | h | h)
   ·exact .inl (.inl h)
   ·exact .inr (by omega)
   ·exact .inl (.inr (.inl h))
  ·intro k hk
   rcases hlo4 k hk with h | h
   ·exact .inl h
   ·exact .inr (Nat.le_trans hf13.size h)
 | true =>
  have Hok := hd hok
  clear hok
  go_enter Tryz.func8, Tryz.ntmps8
  go_wp2_with (first
   | (go_at_call 14; refine (lent_any _ _ zs _ (by omega) hl).mono ?_; rintro e w1 ⟨rfl, hf1, hg1⟩; have hown : IntsAt w1 (some ⟨w.heap.size, 0, none⟩) zs := IntsAt.of_blk hg1 0 zs (fun i hi => by simp [List.getElem?_append_left, hi]))
   | (go_at_call 10; refine (new_ok _ _ _ zs _ hlen hlen8 hown Hok.out).mono ?_; rintro e w2 ⟨hf2, X, szv, rfl, hX2, hsz2, hXlo, hszlo⟩; have hl2 := (hl.nw hf1).nw hf2)
   | (go_at_call 15; refine (refNew_ok _ _ _ zs _ hlen hlen8 hl2 Hok.out).mono ?_; rintro e w3 ⟨hf3, Y, rfl, hYlo, hY3⟩)
   | (go_at_call 16; refine (returned_any B w.heap.size (some ⟨b, o, none⟩) cap zs sv nv tv rv ts _ (by omega) (((hB.nw hf1).nw hf2).nw hf3) (((htv.nw hf1).nw hf2).nw hf3) hts ((hg1.nw hf2).nw hf3) (hl2.nw hf3)).mono ?_; rintro e w4 ⟨rfl, tv', hf4, hB4, htv4, hg4, hlo4⟩; have hcB4 : w4.cell? ⟨B, 0, none⟩ = some sv := hB4.cell 0; have hsv4 : Row w4 sv 49 ss := (((hsv.nw hf1).nw hf2).nw hf3).fr hf4 (fun k hk e => opens_apart (((hsv.nw hf1).nw hf2).nw hf3) (((hB.nw hf1).nw hf2).nw hf3) ((hg1.nw hf2).nw hf3) (((htv.nw hf1).nw hf2).nw hf3) k hk e))
   | (at_builtin; refine wpList_append_own_at _ rfl _ _ 25 rfl 0 49 i0 (.pointer none) 1 8 Tryz.underlying25 hi hz0 hz1 hz2 rfl (by decide) _ _ _ rfl ((hsv4.alloc _).alloc _) ⟨w4.heap.size + 1, 0, none⟩ 1 1 [.pointer (some ⟨w4.heap.size, 0, none⟩)] rfl rfl (by have := cell_one_new (w4.alloc (.cells (sideCells X Y) 52)) (.pointer (some ⟨w4.heap.size, 0, none⟩)) 49; simpa [sideCells] using this) (by simp [Value.oneCell']) (by unfold maxLen; omega) (by omega) (Nat.zero_le _) ?_; intro v' w5 hown' hgrow _ hat; obtain ⟨g', cap', rfl, hr5, hf5, ha5, hlt5⟩ := app1 (w := w4.alloc (.cells (sideCells X Y) 52)) hown' hgrow hat; have hB5 : Blk w5 B #[sv, nv, tv', rv] 29 := (hB4.alloc _).fr hf5 (fun e => hsv4.ne hB4 (by decide) e); have hfz5 := hB5.free 0; have hc5 : w5.cell? ⟨B, 0, none⟩ = some sv := hB5.cell 0; clear hown' hgrow hat))
  have hf13 : Nw w w3 := (hf1.trans hf2 (fun i h => h.elim)).trans hf3 (fun i h => h.elim)
  have hsz1 := hf1.size
  have hsz2' := hf2.size
  have hsz3 := hf3.size
  have hsz4 := hf4.size
  have hD5 : Blk w5 w4.heap.size (sideCells X Y) 52 := (Blk.new w4 _ _).fr hf5 (fun e => by
   have := hsv4.lt e
   omega)
  have hg'B : g' ≠ B := fun e => by
   subst e
   exact hr5.ne hB5 (by decide) rfl
  have hs4 : ∀ k, (k = B ∨ k = w.heap.size ∨ tv.ownBlock = some k) → k < w1.heap.size := by
   rintro k (h | h | h)
   ·omega
   ·have := hg1.lt; omega
   ·have := htv.lt h; omega
  have hX4 : Blk w4 X (workCells szv (fullTo zs zs.length) nilS rest0) 66 := (hX2.nw hf3).fr hf4 (fun e => by have := hs4 _ e; omega)
  have hr4 : Row w4 szv 3 (zs.map (Value.int .i64)) := (hsz2.nw hf3).fr hf4 (fun k hk e => by have := hs4 _ e; have := hszlo k hk; omega)
  have hY4 : RefAt w4 w2.heap.size Y zs (allIn zs zs.length) false nilS nilS := hY3.fr hf4 (fun k e => by have := hs4 _ e; omega)
  have hs5 : ∀ k, (k = B ∨ sv.ownBlock = some k) → k < w.heap.size := by
   rintro k (h | h)
   ·omega
   ·exact hsv.lt h
  have F5 : Fr (fun k => k = B ∨ sv.ownBlock = some k) w4 (w5.setCell ⟨B, 0, none⟩ (.slice (some ⟨g', 0, none⟩) (ss.length + 1) cap')) :=
   ((((Fr.refl (fun k => k = B ∨ sv.ownBlock = some k) w4).alloc _).trans hf5 (fun k h => .inl (.inr h))).setCell _ _ (.inl (.inl rfl)))
  have F5' : Fr (fun k => k = B) w5 (w5.setCell ⟨B, 0, none⟩ (.slice (some ⟨g', 0, none⟩) (ss.length + 1) cap')) := (Fr.refl _ w5).setCell _ _ (.inl rfl)
  have hnB : ∀ cur e, Blk w4 B cur e → e = 29 := fun cur e h => (h.inj hB4).2
  have hapart : ∀ (k : Nat) (v : Value) (xs : List Value), Row w4 v 22 xs → v.ownBlock = some k → ¬ (k = B ∨ sv.ownBlock = some k) := by
   rintro k v xs hv hk (e | e)
   ·subst e; exact hv.ne hB4 (by decide) hk
   ·obtain ⟨cur, hb, _⟩ := hv.blk hk
    exact hsv4.ne hb (by decide) e
  have hlow : ∀ k, (k = B ∨ sv.ownBlock = some k) → ¬ w.heap.size ≤ k := fun k h => by have := hs5 k h; omega
  go_ret
  refine ⟨rfl, .slice (some ⟨g', 0, none⟩) (ss.length + 1) cap', tv', ?_, ?_, ?_, ?_, ?_, .inr ⟨by trivial, w4.heap.size, X, Y, szv, ?_⟩⟩
  ·refine ((hf13.mono (fun i h => h.elim)).trans hf4 ?_).trans F5 ?_
   ·rintro i (h | h | h)
    ·exact .inl (.inl h)
    ·exact .inr (by omega)
    ·exact .inl (.inr (.inl h))
   ·rintro i (h | h)
    ·exact .inl (.inl h)
    ·exact .inl (.inr (.inr h))
  ·have := hB5.set 0 (.slice (some ⟨g', 0, none⟩) (ss.length + 1) cap')
   simpa using this
  ·exact htv4.fr F5 (fun k hk => hapart k _ _ htv4 hk)
  ·exact hg4.fr F5 (fun e => hlow _ e (Nat.le_refl _))
  ·intro k hk
   rcases hlo4 k hk with h | h
   ·exact .inl h
   ·exact .inr (by omega)
  ·refine ⟨hr5.fr F5' (fun k hk e => hg'B (by cases hk; exact e)), ?_, hD5.fr F5' (fun e => by omega), hX4.fr F5 (fun e => hlow _ e (by omega)), hr4.fr F5 (fun k hk e => hlow _ e (by have := hszlo k hk; omega)), by omega, by omega, w2.heap.size, by have := hg1.lt; omega, fun k hk => ⟨by have := hszlo k hk; have := hg1.lt; omega, hsz2.lt hk⟩, hYlo, ?_⟩
   ·intro k hk
    cases hk
    rcases ha5 with h | h
    ·exact .inl h
    ·exact .inr (by simp at h; show w.heap.size ≤ g'; omega)
   ·exact hY4.fr F5 (fun k e => by have := hs5 k e; omega)
theorem allIn_get (zs : List Int) (q : Nat) (hq : q < zs.length) : (allIn zs zs.length).getD q [] = List.replicate (zs.getD q 0).toNat true := by
 simp [allIn, List.getD, hq]
theorem allIn_len (zs : List Int) : (allIn zs zs.length).length = zs.length := by simp [allIn]
theorem domB_all {zs : List Int} (hok : okSizes zs = true) : domB (allIn zs zs.length) = fullTo zs zs.length := by
 obtain ⟨h0, h8⟩ := okSizes_len hok
 have h6 : ∀ u, u < (allIn zs zs.length).length → ((allIn zs zs.length).getD u []).length ≤ 6 := fun u hu => by
  rw [allIn_len] at hu
  rw [allIn_get zs u hu, List.length_replicate]
  have := (okSizes_get hok u hu).2
  omega
 have key : ∀ q v, ((domB (allIn zs zs.length)).getD q 0).testBit v = ((fullTo zs zs.length).getD q 0).testBit v := fun q v => by
  rw [domB_bit _ (by rw [allIn_len]; exact h8) h6, fullTo_get zs h8]
  by_cases hq : q < zs.length
  ·rw [if_pos hq, allIn_get zs q hq, Nat.testBit_two_pow_sub_one]
   obtain ⟨m, hm⟩ : ∃ m, (zs.getD q 0).toNat = m := ⟨_, rfl⟩
   rw [hm]
   by_cases hv : v < m
   ·simp [List.getD, hv]
   ·simp [List.getD, hv]
  ·rw [if_neg hq]
   have : (allIn zs zs.length).getD q [] = [] := by
    simp only [List.getD]
    rw [List.getElem?_eq_none (by rw [allIn_len]; omega)]
    rfl
   rw [this]
   simp
 exact SubD.eq (domB_dm _) (full_dm hok) (fun q v h => by rw [← key]; exact h) (fun q v h => by rw [key]; exact h)
theorem Pair.new {W w : World} {lo lo2 X Y : Nat} {zs : List Int} {szv : Value} (hok : okSizes zs = true) (hB : Blk w X (workCells szv (fullTo zs zs.length) nilS rest0) 66) (hr : Row w szv 3 (zs.map (Value.int .i64))) (hX : lo ≤ X) (hs : ∀ k, szv.ownBlock = some k → lo ≤ k ∧ k < lo2) (hlo2 : lo ≤ lo2) (hY : lo2 ≤ Y) (hR : RefAt w lo2 Y zs (allIn zs zs.length) false nilS nilS) :
  ∃ R, Pair false W w lo X Y zs (ws0 zs szv) R ∧ (∀ k, R.own Y k → lo2 ≤ k) := by
 obtain ⟨rsz, inv, vs, h1, h2, h3, h4, h5, h6⟩ := hR.ex
 obtain ⟨hz0, hz8⟩ := okSizes_len hok
 have hRA : RAt W w lo Y zs ⟨rsz, ⟨inv, vs, allIn zs zs.length, false⟩, nilS, [], nilS, []⟩ := by
  refine ⟨⟨h1, h2, h3, ⟨h4.len, h4.row, h4.ne, fun i hi k hk => Nat.le_trans hlo2 (h4.lo i hi k hk)⟩, allIn_len zs, fun u hu => ?_, hok, fun k hk => Nat.le_trans hlo2 (h5 k hk), fun k hk => Nat.le_trans hlo2 (h6 k hk), Nat.le_trans hlo2 hY⟩, ⟨[], World.ownsRow_nil _ _ _ _, fun i hi => absurd hi (Nat.not_lt_zero _)⟩, Nat.zero_le _, fun i hi => absurd hi (Nat.not_lt_zero _), World.ownsRow_nil _ _ _ _, fun l hl => (by cases hl), Nat.zero_le _, ?_, fun k hk => (by cases hk), fun k hk => (by cases hk)⟩
  ·show ((allIn zs zs.length).getD u []).length = _
   rw [allIn_get zs u hu, List.length_replicate]
  ·exact List.pairwise_cons.2 ⟨fun b hb => (by cases hb), List.Pairwise.nil⟩
 have hown : ∀ k, RS.own Y ⟨rsz, ⟨inv, vs, allIn zs zs.length, false⟩, nilS, [], nilS, []⟩ k → lo2 ≤ k := fun k hk => by
  rcases hk with (rfl | ⟨u, hu, hk⟩ | hk | hk) | hk | hk | ⟨l, hl, _⟩
  ·exact hY
  ·exact h4.lo u (by rw [← h4.len]; exact hu) k hk
  ·cases hk
  ·cases hk
  ·exact h5 k hk
  ·exact h6 k hk
  ·cases hl
 refine ⟨_, ⟨new_wat hok hB hr, hRA, rfl, .inr ⟨rfl, (domB_all hok).symm, full_full hok⟩, rfl, trivial, fun k hk ho => ?_, fun k hk => ?_⟩, hown⟩
 ·have := h5 k hk
  rcases ws0_own ho with rfl | ho
  ·obtain ⟨cur, hb, _⟩ := h2.blk hk
   exact absurd (hb.inj hB).2 (by decide)
  ·have := (hs k ho).2
   omega
 ·rcases ws0_own hk with rfl | hk
  ·exact hX
  ·exact (hs k hk).1
end Go.Proofs.YtkjfpdfkcfgfkaaGreat

namespace Go.Proofs.YtkjfpdfkcfgfkaaGreat
open Go.RowKit

def LW.opened (L : LW) (sv tv : Value) (ss : List Value) (g : Value) : LW := { L with sv := sv, tv := tv, ss := ss, turned := L.turned ++ [g] }
theorem LW.opened_own {w : World} {B : Nat} {L : LW} {sv tv : Value} {ss : List Value} {n : Nat} (hgt : ∀ k, tv.ownBlock = some k → L.tv.ownBlock = some k ∨ w.heap.size ≤ k) (hgs : ∀ k, sv.ownBlock = some k → L.sv.ownBlock = some k ∨ w.heap.size ≤ k) (q : Nat) (hq : (L.opened sv tv ss (.slice (some ⟨w.heap.size, 0, none⟩) n n)).own B q) : L.own B q ∨ w.heap.size ≤ q := by
 rcases hq with hq | hq | hq | hq | hq | hq | ⟨v, hv, hq⟩ | hq
 ·exact .inl (.inl hq)
 ·rcases hgs q hq with h1 | h1
  ·exact .inl (.inr (.inl h1))
  ·exact .inr h1
 ·exact .inl (.inr (.inr (.inl hq)))
 ·rcases hgt q hq with h1 | h1
  ·exact .inl (.inr (.inr (.inr (.inl h1))))
  ·exact .inr h1
 ·exact .inl (.inr (.inr (.inr (.inr (.inl hq)))))
 ·exact .inl (.inr (.inr (.inr (.inr (.inr (.inl hq))))))
 ·rcases List.mem_append.1 hv with hv | hv
  ·exact .inl (.inr (.inr (.inr (.inr (.inr (.inr (.inl ⟨v, hv, hq⟩)))))))
  ·rw [List.mem_singleton.1 hv] at hq
   cases hq
   exact .inr (Nat.le_refl _)
 ·exact .inl (.inr (.inr (.inr (.inr (.inr (.inr (.inr hq)))))))
theorem LawAt.opened {w w' : World} {lo B : Nat} {L : LW} {sv tv : Value} {ss : List Value} {zs : List Int} (hL : LawAt w lo B L) (hlw : lo ≤ w.heap.size) (hf : Fr (fun k => k = B ∨ L.tv.ownBlock = some k ∨ L.sv.ownBlock = some k) w w') (hB : Blk w' B #[sv, L.nv, tv, L.rv] 29) (hs : Row w' sv 49 ss) (ht : Row w' tv 22 (L.turned ++ [.slice (some ⟨w.heap.size, 0, none⟩) (zs.length + 1) (zs.length + 1)])) (hg : Blk w' w.heap.size (turnedTo zs (zs.length + 1)) 3)
  (hgt : ∀ k, tv.ownBlock = some k → L.tv.ownBlock = some k ∨ w.heap.size ≤ k) (hgs : ∀ k, sv.ownBlock = some k → L.sv.ownBlock = some k ∨ w.heap.size ≤ k) (hz : zs.length ≤ 1048576) (htl : L.turned.length ≤ 8388608) : LawAt w' lo B (L.opened sv tv ss (.slice (some ⟨w.heap.size, 0, none⟩) (zs.length + 1) (zs.length + 1))) := by
 have hsz := hf.size
 have hno : ∀ q cur e, Blk w q cur e → e ≠ 29 → e ≠ 49 → L.tv.ownBlock ≠ some q → ¬ (q = B ∨ L.tv.ownBlock = some q ∨ L.sv.ownBlock = some q) := fun q cur e hb he he2 h2 h4 => by
  rcases h4 with h4 | h4 | h4
  ·rw [h4] at hb
   exact he (hb.inj hL.blk).2
  ·exact h2 h4
  ·obtain ⟨c2, hb2, _⟩ := hL.sides.blk h4
   exact he2 (hb.inj hb2).2
 have htv : ∀ q cur e, Blk w q cur e → e ≠ 22 → L.tv.ownBlock ≠ some q := fun q cur e hb he hq => by
  obtain ⟨c2, hb2, _⟩ := hL.keeps.rt.blk hq
  exact he (hb.inj hb2).2
 have k2 : ∀ q, L.nv.ownBlock = some q → ¬ (q = B ∨ L.tv.ownBlock = some q ∨ L.sv.ownBlock = some q) := fun q hq => by
  obtain ⟨cur, hb, _⟩ := hL.keeps.rn.blk hq
  exact hno q cur _ hb (by decide) (by decide) (hL.nt q hq)
 have k3 : ∀ q, L.rv.ownBlock = some q → ¬ (q = B ∨ L.tv.ownBlock = some q ∨ L.sv.ownBlock = some q) := fun q hq => by
  obtain ⟨cur, hb, _⟩ := hL.keeps.rr.blk hq
  exact hno q cur _ hb (by decide) (by decide) (htv q cur _ hb (by decide))
 have k4 : ∀ v, v ∈ L.nums ∨ v ∈ L.turned → ∀ q, v.ownBlock = some q → ¬ (q = B ∨ L.tv.ownBlock = some q ∨ L.sv.ownBlock = some q) := fun v hv q hq => by
  obtain ⟨cur, hb⟩ := hL.ints v hv q hq
  exact hno q cur _ hb (by decide) (by decide) (htv q cur _ hb (by decide))
 have k6 : ∀ v, v ∈ L.rows → ∀ q, v.ownBlock = some q → ¬ (q = B ∨ L.tv.ownBlock = some q ∨ L.sv.ownBlock = some q) := fun v hv q hq => by
  obtain ⟨cur, hb⟩ := hL.nils v hv q hq
  exact hno q cur _ hb (by decide) (by decide) (fun e => hL.tr q e v hv hq)
 have hk := hL.keeps
 have hallI : ∀ v ∈ L.turned ++ [Value.slice (some ⟨w.heap.size, 0, none⟩) (zs.length + 1) (zs.length + 1)], AllAre w' v (-7) := fun v hv => by
  rcases List.mem_append.1 hv with hv | hv
  ·obtain ⟨i, hi, rfl⟩ := List.getElem_of_mem hv
   exact (hk.at_ i hi).fr hf (k4 _ (.inr hv))
  ·rw [List.mem_singleton.1 hv]
   exact turned_all hg (by omega)
 have hlen : (L.turned ++ [Value.slice (some ⟨w.heap.size, 0, none⟩) (zs.length + 1) (zs.length + 1)]).length = L.turned.length + 1 := by rw [List.length_append]; rfl
 have hown := LW.opened_own (B := B) (ss := ss) (n := zs.length + 1) hgt hgs
 refine ⟨hB, hs, ⟨hk.rn.fr hf k2, ht, hk.rr.fr hf k3, hk.ln, ?_, hk.lr, fun i hi => (hk.an i hi).fr hf (k4 _ (.inl (List.getElem_mem hi))), fun i hi => hallI _ (List.getElem_mem hi), fun i hi => (hk.ar i hi).fr hf (k6 _ (List.getElem_mem hi))⟩, fun q hq => ?_, fun q hq => ?_, fun v hv q hq => ?_, fun v hv q hq => ?_, fun q hq ht' => ?_, fun q hq v hv => hL.nr q hq v hv, fun q hq v hv ht' => ?_⟩
 ·show (L.turned ++ [_]).length * 24 ≤ _
  omega
 ·rcases hown q hq with h1 | h1
  ·exact hL.lo q h1
  ·omega
 ·rcases hq with hq | hq | hq | hq | hq | ⟨v, hv, hq⟩ | ⟨v, hv, hq⟩ | ⟨v, hv, hq⟩
  ·rw [hq]
   exact hB.lt
  ·exact hs.lt hq
  ·have := hL.lt q (.inr (.inr (.inl hq)))
   omega
  ·exact ht.lt hq
  ·have := hL.lt q (.inr (.inr (.inr (.inr (.inl hq)))))
   omega
  ·have := hL.lt q (.inr (.inr (.inr (.inr (.inr (.inl ⟨v, hv, hq⟩))))))
   omega
  ·rcases List.mem_append.1 hv with hv | hv
   ·have := hL.lt q (.inr (.inr (.inr (.inr (.inr (.inr (.inl ⟨v, hv, hq⟩)))))))
    omega
   ·rw [List.mem_singleton.1 hv] at hq
    cases hq
    exact hg.lt
  ·have := hL.lt q (.inr (.inr (.inr (.inr (.inr (.inr (.inr ⟨v, hv, hq⟩)))))))
   omega
 ·rcases hv with hv | hv
  ·obtain ⟨cur, hb⟩ := hL.ints v (.inl hv) q hq
   exact ⟨cur, hb.fr hf (k4 v (.inl hv) q hq)⟩
  ·rcases List.mem_append.1 hv with hv | hv
   ·obtain ⟨cur, hb⟩ := hL.ints v (.inr hv) q hq
    exact ⟨cur, hb.fr hf (k4 v (.inr hv) q hq)⟩
   ·rw [List.mem_singleton.1 hv] at hq
    cases hq
    exact ⟨_, hg⟩
 ·obtain ⟨cur, hb⟩ := hL.nils v hv q hq
  exact ⟨cur, hb.fr hf (k6 v hv q hq)⟩
 ·rcases hgt q ht' with h1 | h1
  ·exact hL.nt q hq h1
  ·have := hL.lt q (.inr (.inr (.inl hq)))
   omega
 ·rcases hgt q hq with h1 | h1
  ·exact hL.tr q h1 v hv ht'
  ·have := hL.lt q (.inr (.inr (.inr (.inr (.inr (.inr (.inr ⟨v, hv, ht'⟩)))))))
   omega
theorem LawAt.ty2 {w : World} {lo B : Nat} {L : LW} (h : LawAt w lo B L) {k : Nat} (hk : L.own B k) : (∃ cur e, Blk w k cur e ∧ e ∈ [29, 49, 22, 26]) ∨ ∃ v, (v ∈ L.nums ∨ v ∈ L.turned) ∧ v.ownBlock = some k := by
 rcases hk with rfl | hk | hk | hk | hk | ⟨v, hv, hk⟩ | ⟨v, hv, hk⟩ | ⟨v, hv, hk⟩
 ·exact .inl ⟨_, _, h.blk, by decide⟩
 ·obtain ⟨cur, hb, _⟩ := h.sides.blk hk
  exact .inl ⟨_, _, hb, by decide⟩
 ·obtain ⟨cur, hb, _⟩ := h.keeps.rn.blk hk
  exact .inl ⟨_, _, hb, by decide⟩
 ·obtain ⟨cur, hb, _⟩ := h.keeps.rt.blk hk
  exact .inl ⟨_, _, hb, by decide⟩
 ·obtain ⟨cur, hb, _⟩ := h.keeps.rr.blk hk
  exact .inl ⟨_, _, hb, by decide⟩
 ·exact .inr ⟨v, .inl hv, hk⟩
 ·exact .inr ⟨v, .inr hv, hk⟩
 ·obtain ⟨cur, hb⟩ := h.nils v hv k hk
  exact .inl ⟨_, _, hb, by decide⟩
def newTys : List TypeId := [52, 66, 83, 4, 41, 147, 84, 3]
theorem LI.open0 {W w w' : World} {lo B : Nat} {L : LW} {ds : List Sd} {tv : Value} {zs : List Int} (h : LI W w lo B L ds) (hf : Fr (fun k => k = B ∨ L.tv.ownBlock = some k ∨ L.sv.ownBlock = some k) w w') (hL : LawAt w' lo B (L.opened L.sv tv L.ss (.slice (some ⟨w.heap.size, 0, none⟩) (zs.length + 1) (zs.length + 1)))) (hgt : ∀ k, tv.ownBlock = some k → L.tv.ownBlock = some k ∨ w.heap.size ≤ k) : LI W w' lo B (L.opened L.sv tv L.ss (.slice (some ⟨w.heap.size, 0, none⟩) (zs.length + 1) (zs.length + 1))) ds := by
 have hin : ∀ q, (q = B ∨ L.tv.ownBlock = some q ∨ L.sv.ownBlock = some q) → L.own B q := fun q hq => by
  rcases hq with hq | hq | hq
  ·exact .inl hq
  ·exact .inr (.inr (.inr (.inl hq)))
  ·exact .inr (.inl hq)
 have hon : Only w (fun k => k = B ∨ L.tv.ownBlock = some k ∨ L.sv.ownBlock = some k) lawTys := fun q cur e hq hb => by
  obtain ⟨c2, e2, hb2, he2⟩ := h.law.ty (hin q hq)
  rw [(hb.inj hb2).2]
  exact he2
 have hb := h.env.base
 refine ⟨⟨⟨hb, h.env.nw.trans hf (fun q hq => .inr (by have := h.law.lo q (hin q hq); omega)), Nat.le_trans h.env.le hf.size⟩, hL, h.ss, fun d hd => (h.sides d hd).fr hf (fun k hk hS => h.apart d hd k (hin k hS) hk) hon (by decide), fun d hd k hk hdk => ?_, h.dist, h.lts⟩, h.free⟩
 rcases LW.opened_own hgt (fun k hk => .inl hk) k hk with h1 | h1
 ·exact h.apart d hd k h1 hdk
 ·have := (h.sides d hd).lt hdk
  omega
theorem LI.open1 {W w w' : World} {lo B : Nat} {L : LW} {ds : List Sd} {sv tv : Value} {d : Sd} {zs : List Int} (h : LI W w lo B L ds) (hf : Fr (fun k => k = B ∨ L.tv.ownBlock = some k ∨ L.sv.ownBlock = some k) w w') (hL : LawAt w' lo B (L.opened sv tv (L.ss ++ [.pointer (some ⟨d.D, 0, none⟩)]) (.slice (some ⟨w.heap.size, 0, none⟩) (zs.length + 1) (zs.length + 1)))) (hgt : ∀ k, tv.ownBlock = some k → L.tv.ownBlock = some k ∨ w.heap.size ≤ k) (hgs : ∀ k, sv.ownBlock = some k → L.sv.ownBlock = some k ∨ w.heap.size ≤ k)
  (hd : SideAt W w' lo d) (hbz : d.bz = false) (hlt : d.lt = .nilFunc) (hge : ∀ k, d.own k → w.heap.size ≤ k) (hty : ∀ k, d.own k → ∃ cur e, Blk w' k cur e ∧ e ∈ newTys ∧ (e = 3 → w.heap.size < k)) : LI W w' lo B (L.opened sv tv (L.ss ++ [.pointer (some ⟨d.D, 0, none⟩)]) (.slice (some ⟨w.heap.size, 0, none⟩) (zs.length + 1) (zs.length + 1))) (ds ++ [d]) := by
 have hin : ∀ q, (q = B ∨ L.tv.ownBlock = some q ∨ L.sv.ownBlock = some q) → L.own B q := fun q hq => by
  rcases hq with hq | hq | hq
  ·exact .inl hq
  ·exact .inr (.inr (.inr (.inl hq)))
  ·exact .inr (.inl hq)
 have hon : Only w (fun k => k = B ∨ L.tv.ownBlock = some k ∨ L.sv.ownBlock = some k) lawTys := fun q cur e hq hb => by
  obtain ⟨c2, e2, hb2, he2⟩ := h.law.ty (hin q hq)
  rw [(hb.inj hb2).2]
  exact he2
 have hb := h.env.base
 have hget : ∀ e ∈ ds ++ [d], e ∈ ds ∨ e = d := fun e he => by
  rcases List.mem_append.1 he with he | he
  ·exact .inl he
  ·exact .inr (List.mem_singleton.1 he)
 have hidx : ∀ i (hi : i < (ds ++ [d]).length), (∃ hi' : i < ds.length, (ds ++ [d])[i] = ds[i]) ∨ (i = ds.length ∧ (ds ++ [d])[i] = d) := fun i hi => by
  rw [List.length_append, List.length_singleton] at hi
  by_cases e : i < ds.length
  ·exact .inl ⟨e, List.getElem_append_left e⟩
  ·have : i = ds.length := by omega
   subst this
   exact .inr ⟨rfl, by simp⟩
 refine ⟨⟨⟨hb, h.env.nw.trans hf (fun q hq => .inr (by have := h.law.lo q (hin q hq); omega)), Nat.le_trans h.env.le hf.size⟩, hL, ?_, fun e he => ?_, fun e he k hk hdk => ?_, fun i j hi hj hij k hk1 hk2 => ?_, fun e he => ?_⟩, fun e he => ?_⟩
 ·show L.ss ++ [_] = _
  rw [h.ss, List.map_append]
  rfl
 ·rcases hget e he with he | rfl
  ·exact (h.sides e he).fr hf (fun k hk hS => h.apart e he k (hin k hS) hk) hon (by decide)
  ·exact hd
 ·rcases hget e he with he | rfl
  ·rcases LW.opened_own hgt hgs k hk with h1 | h1
   ·exact h.apart e he k h1 hdk
   ·have := (h.sides e he).lt hdk
    omega
  ·obtain ⟨cur, e1, hb1, he1, hi1⟩ := hty k hdk
   have hgk := hge k hdk
   rcases hL.ty2 hk with ⟨cur2, e2, hb2, he2⟩ | ⟨v, hv, hvk⟩
   ·rw [(hb2.inj hb1).2] at he2
    have hx : newTys.all (fun e => !([29, 49, 22, 26].contains e)) = true := by decide
    have := List.all_eq_true.1 hx e1 he1
    rw [List.contains_iff_mem.2 he2] at this
    cases this
   ·obtain ⟨c3, hb3⟩ := hL.ints v hv k hvk
    have hlt := hi1 (hb1.inj hb3).2
    rcases hv with hv | hv
    ·have := h.law.lt k (.inr (.inr (.inr (.inr (.inr (.inl ⟨v, hv, hvk⟩))))))
     omega
    ·rcases List.mem_append.1 hv with hv | hv
     ·have := h.law.lt k (.inr (.inr (.inr (.inr (.inr (.inr (.inl ⟨v, hv, hvk⟩)))))))
      omega
     ·rw [List.mem_singleton.1 hv] at hvk
      cases hvk
      have h2 : w.heap.size < w.heap.size := hlt
      omega
 ·rcases hidx i hi with ⟨hi', e1⟩ | ⟨rfl, e1⟩
  ·rw [e1] at hk1
   rcases hidx j hj with ⟨hj', e2⟩ | ⟨rfl, e2⟩
   ·rw [e2] at hk2
    exact h.dist i j hi' hj' hij k hk1 hk2
   ·rw [e2] at hk2
    have := (h.sides _ (List.getElem_mem hi')).lt hk1
    have := hge k hk2
    omega
  ·rw [e1] at hk1
   rcases hidx j hj with ⟨hj', e2⟩ | ⟨rfl, e2⟩
   ·rw [e2] at hk2
    have := (h.sides _ (List.getElem_mem hj')).lt hk2
    have := hge k hk1
    omega
   ·exact hij rfl
 ·rcases hget e he with he | rfl
  ·exact h.lts e he
  ·exact .inl hlt
 ·rcases hget e he with he | rfl
  ·exact h.free e he
  ·exact hbz
theorem opens_li (W : World) (lo B : Nat) (L : LW) (ds : List Sd) (ao : Option Addr) (cap : Nat) (zs : List Int) (w : World) (h : LI W w lo B L ds) (hds : ds.length ≤ 2) (hl : IntsAt W ao zs) (hz : zs.length ≤ 1048576) (htl : L.turned.length ≤ 2) :
  Calls Tryz.prog 8 #[.pointer (some ⟨B, 0, none⟩), .slice ao zs.length cap] w fun e w' => e = .returned (.bool true) ∧ ∃ L' ds', LI W w' lo B L' ds' ∧ L'.nums = L.nums ∧ L'.rows = L.rows ∧ L'.turned.length = L.turned.length + 1 ∧ ds'.length ≤ ds.length + 1 := by
 have hl' := hl.nw h.env.nw
 have hssl : L.ss.length = ds.length := by rw [h.ss, List.length_map]
 have htle : ∀ x : Value, (L.turned ++ [x]).length = L.turned.length + 1 := fun x => by rw [List.length_append]; rfl
 by_cases hlen : zs.length < 1 ∨ 8 < zs.length
 ·refine (opens_len B L.sv L.nv L.tv L.rv L.turned ao cap zs w (by omega) h.law.blk h.law.keeps.rt (by omega) hl' hlen).mono ?_
  rintro e w' ⟨rfl, tv', hf, hB', htv', hg', hlo⟩
  have hf' : Fr (fun k => k = B ∨ L.tv.ownBlock = some k ∨ L.sv.ownBlock = some k) w w' := hf.mono (fun i h => .inl (h.elim .inl (fun h => .inr (.inl h))))
  have hs' : Row w' L.sv 49 L.ss := h.law.sides.fr hf (fun k hk e => by
   obtain ⟨cur, hb, _⟩ := h.law.sides.blk hk
   rcases e with e | e
   ·rw [e] at hb
    exact absurd (hb.inj h.law.blk).2 (by decide)
   ·obtain ⟨c2, hb2, _⟩ := h.law.keeps.rt.blk e
    exact absurd (hb.inj hb2).2 (by decide))
  have hL' := h.law.opened h.env.le hf' hB' hs' htv' hg' hlo (fun k hk => .inl hk) hz (by omega)
  exact ⟨rfl, _, ds, h.open0 hf' hL' hlo, rfl, rfl, htle _, by omega⟩
 ·refine (opens_more B L.sv L.nv L.tv L.rv L.ss L.turned ao cap zs w (by omega) (by omega) h.law.blk h.law.keeps.rt (by omega) h.law.sides (by rw [hssl]; omega) hl').mono ?_
  rintro e w' ⟨rfl, sv', tv', hf, hB', htv', hg', hlo, hcase⟩
  rcases hcase with ⟨_, rfl, hsv'⟩ | ⟨hok, D, X, Y, szv, hsv', hslo, hD, hX, hsz, hDl, hXl, lo2, h2a, h2b, h2c, hR⟩
  ·have hL' := h.law.opened h.env.le hf hB' hsv' htv' hg' hlo (fun k hk => .inl hk) hz (by omega)
   exact ⟨rfl, _, ds, h.open0 hf hL' hlo, rfl, rfl, htle _, by omega⟩
  ·have hle := h.env.le
   have hL' := h.law.opened h.env.le hf hB' hsv' htv' hg' hlo hslo hz (by omega)
   obtain ⟨R, hP, hRo⟩ := Pair.new (W := W) (lo := lo) hok hX hsz (by omega) (fun k hk => ⟨by have := (h2b k hk).1; omega, (h2b k hk).2⟩) (by omega) h2c hR
   have hS : SideAt W w' lo ⟨D, X, Y, zs, ws0 zs szv, R, false, .nilFunc, .nilFunc⟩ := ⟨hD, hP, by show lo ≤ D; omega⟩
   refine ⟨rfl, _, _, h.open1 (d := ⟨D, X, Y, zs, ws0 zs szv, R, false, .nilFunc, .nilFunc⟩) hf hL' hlo hslo hS rfl rfl (fun k hk => ?_) (fun k hk => ?_), rfl, rfl, htle _, by rw [List.length_append]; exact Nat.le_refl _⟩
   ·rcases hk with hk | hk | hk
    ·rw [hk]
     exact hDl
    ·rcases ws0_own hk with hk | hk
     ·rw [hk]
      exact hXl
     ·have := (h2b k hk).1
      omega
    ·have := hRo k hk
     omega
   ·rcases hk with hk | hk | hk
    ·rw [hk]
     exact ⟨_, _, hD, by decide, fun e => absurd e (by decide)⟩
    ·rcases ws0_own hk with hk | hk
     ·rw [hk]
      exact ⟨_, _, hX, by decide, fun e => absurd e (by decide)⟩
     ·obtain ⟨cur, hb, _⟩ := hsz.blk hk
      exact ⟨_, _, hb, by decide, fun _ => (h2b k hk).1⟩
    ·have hgk := hRo k hk
     rcases hP.ref.ty hk with h1 | ⟨cur, e, hb, he⟩
     ·obtain ⟨cur, hb, _⟩ := hP.ref.rin.sz.blk h1
      exact ⟨_, _, hb, by decide, fun _ => by omega⟩
     ·refine ⟨cur, e, hb, ?_, fun _ => by omega⟩
      rcases he with he | he
      ·have hx : ∀ e ∈ refTys, e ∈ newTys := by decide
       exact hx e he
      ·rw [he]
       decide
end Go.Proofs.YtkjfpdfkcfgfkaaGreat

namespace Go.Proofs.YtkjfpdfkcfgfkaaGreat
open Go.RowKit

noncomputable def plyR6 : Array Oper := regOps Tryz.f9 6
set_option maxHeartbeats 1600000 in
set_option maxRecDepth 1000000 in
theorem stepN_any (hgo : GoingOk) (W : World) (lo B : Nat) (L : LW) (ds : List Sd) (i : Nat) (d : Sd) (x : NOp) (w : World) (h : LI W w lo B L ds) (hi : i < ds.length) (hget : ds[i] = d) (hn2 : ds.length ≤ 2) (ho : OpOk W x.o) (hN : NestAt W x.o x.F x.M) (h4 : L.nums.length % 4 = 0) (hrn : L.nums.length + 4800 * x.cost ≤ 68719476736) (hrt : L.turned.length + x.cost ≤ 8388608) (hrr : L.rows.length + x.cost ≤ 8388608) :
  Calls Tryz.prog 17 #[.pointer (some ⟨B, 0, none⟩), .pointer (some ⟨d.D, 0, none⟩), .agg x.o.cells] w fun e w' => e = .returned (.bool true) ∧ ∃ L' ds', GoEnd W w' lo B ds.length L L' ds' (4800 * x.cost) x.cost := by
 have hc1 := x.cost_pos
 by_cases hk : x.o.kind = 9
 ·obtain ⟨b0, hb0⟩ : ∃ b0, b0 = w.heap.size := ⟨_, rfl⟩
  obtain ⟨V, hV⟩ : ∃ V, V = w.alloc (.cells x.o.cells 54) := ⟨_, rfl⟩
  have hfV : Nw w V := by rw [hV]; exact (Fr.refl _ w).alloc _
  have hC : Blk V b0 x.o.cells 54 := by rw [hV, hb0]; exact Blk.new _ _ _
  have c0 : V.cell? ⟨b0, 0, none⟩ = some (.int .i64 9) := (hC.cell 0).trans (by rw [← hk]; rfl)
  have c1 : V.cell? ⟨b0, 1, none⟩ = some (.int .i64 x.o.a) := hC.cell 1
  have c2 : V.cell? ⟨b0, 2, none⟩ = some (.int .i64 x.o.b) := hC.cell 2
  have c3 : V.cell? ⟨b0, 3, none⟩ = some (.slice x.o.vo x.o.vars.length x.o.vcap) := hC.cell 3
  have c4 : V.cell? ⟨b0, 4, none⟩ = some (.slice x.o.ro x.o.rows.length x.o.rcap) := hC.cell 4
  have c5 : V.cell? ⟨b0, 5, none⟩ = some (.bool x.o.nt) := hC.cell 5
  have c6 : V.cell? ⟨b0, 6, none⟩ = some (.int .i64 x.o.way) := hC.cell 6
  have c7 : V.cell? ⟨b0, 7, none⟩ = some (.bool x.o.which) := hC.cell 7
  have c8 : V.cell? ⟨b0, 8, none⟩ = some x.o.fv := hC.cell 8
  have c9 : V.cell? ⟨b0, 9, none⟩ = some x.o.mv := hC.cell 9
  have hbl := hC.lt
  have hoc : x.o.cells = #[.int .i64 9, .int .i64 x.o.a, .int .i64 x.o.b, .slice x.o.vo x.o.vars.length x.o.vcap, .slice x.o.ro x.o.rows.length x.o.rcap, .bool x.o.nt, .int .i64 x.o.way, .bool x.o.which, x.o.fv, x.o.mv] := by rw [← hk]; rfl
  obtain ⟨PP, hPP⟩ : ∃ PP : World → Prop, PP = fun w' => ∃ L' ds', GoEnd W w' lo B ds.length L L' ds' (4800 * x.cost) x.cost := ⟨_, rfl⟩
  have Hcall : Hid (Calls Tryz.prog 34 #[.pointer (some ⟨B, 0, none⟩), .pointer (some ⟨d.D, 0, none⟩), .agg x.o.cells] V fun e w' => e = .returned (.bool true) ∧ PP w') := by rw [hPP]; exact hd (hgo W lo B L ds i d x.o x.F x.M V (h.nw hfV) hi hget hn2 ho hN h4 hrn hrt hrr)
  show Calls _ _ _ _ fun e w' => e = .returned (.bool true) ∧ (fun w' => ∃ L' ds', GoEnd W w' lo B ds.length L L' ds' (4800 * x.cost) x.cost) w'
  rw [← hPP]
  rw [hoc] at Hcall
  clear h hC hfV hoc hPP hk ho hN hget hrn hrt hrr h4
  go_enter Tryz.func17, Tryz.ntmps17
  go_upto_region 1 with fail
  rw [← hV, ← hb0]
  clear hV hb0
  go_wp2_with (go_at_call 34; refine Hcall.out.mono ?_; rintro e w1 ⟨rfl, hw1⟩; have Hw1 := hd hw1; clear hw1)
  go_ret
  exact ⟨rfl, Hw1.out⟩
 ·refine (step_any W lo B L d x.o w (hget ▸ h.one i hi) (hget ▸ h.free _ (List.getElem_mem hi)) hk ho ⟨by omega, by omega, by omega, h4⟩).mono ?_
  rintro e w' ⟨rfl, L', d', h1, h2, h3⟩
  have hcc : opCost x.o ≤ x.cost := by unfold NOp.cost goCost; omega
  have q1 := h3.a
  have q2 := h3.b
  have q3 := h3.c
  unfold opCost at hcc
  exact ⟨rfl, L', ds.set i d', h.step i hi h1 (hget.symm ▸ h2), by rw [List.length_set], by omega, by omega, by omega, by rw [h2.four]; exact h4⟩

set_option maxHeartbeats 1600000 in
set_option maxRecDepth 1000000 in
theorem play_any (hgo : GoingOk) (W : World) (lo B : Nat) (L : LW) (ds : List Sd) (so : Option Addr) (scap : Nat) (ns : List NOp) (w : World) (h : LI W w lo B L ds) (hds : ds.length ≤ 2) (hops : OpsAt W so (ns.map NOp.o)) (hnest : ∀ x ∈ ns, NestAt W x.o x.F x.M) (hcost : nCost ns ≤ 2097152) (hL1 : L.nums = []) (hL2 : L.turned.length ≤ 2) (hL3 : L.rows = []) :
  Calls Tryz.prog 9 #[.pointer (some ⟨B, 0, none⟩), .slice so ns.length scap, .int .i64 9] w fun e w' => e = .returned (.bool true) ∧ Nw W w' := by
 have hlen := nCost_len ns
 have H := hd h
 obtain ⟨svo, svc, hsvf, _⟩ := h.law.sides.form
 have hssl : L.ss.length = ds.length := by rw [h.ss, List.length_map]
 rw [hssl] at hsvf
 have d0 : w.cell? ⟨B, 0, none⟩ = some (.slice svo ds.length svc) := by
  have := h.law.blk.cell 0
  rw [hsvf] at this
  exact this
 have hBl := h.law.blk.lt
 have HP0 : Hid (GoEnd W w lo B ds.length L L ds (4800 * nCost (ns.take 0)) (nCost (ns.take 0))) := ⟨h, rfl, by omega, by omega, by omega, by rw [hL1]; rfl⟩
 have HO := hd hops
 have HN := hd hnest
 have Hgo := hd hgo
 have hcle := nCost_le ns
 have Hcle := hd hcle
 obtain ⟨n, hn⟩ : ∃ n, ds.length = n := ⟨_, rfl⟩
 rw [hn] at d0 hds HP0
 have hN1 : L.nums.length = 0 := by rw [hL1]; rfl
 have hN3 : L.rows.length = 0 := by rw [hL3]; rfl
 clear h hsvf hssl hops hn hL1 hL3 hnest hgo hcle
 go_enter Tryz.func9, Tryz.ntmps9
 go_wp2_with fail
 go_loopw [8, 9, 10] (fun i _ _ wr => ∃ (k : Nat) (L' : LW) (ds' : List Sd), k ≤ ns.length ∧ i = .int .i64 (k : Int) ∧ Hid (GoEnd W wr lo B n L L' ds' (4800 * nCost (ns.take k)) (nCost (ns.take k)))) (fun i _ _ _ => ns.length - (intOf i).toNat)
 case atStart => exact ⟨0, L, ds, Nat.zero_le _, rfl, HP0⟩
 case round =>
  clear HP0
  obtain ⟨k, L', ds', hk, rfl, HP⟩ := hrel
  by_cases hgo : k < ns.length ∧ 0 < n
  ·obtain ⟨hlt, hn0⟩ := hgo
   have hdk : (k : Int) < (ns.length : Int) := by omega
   have hdn : (0 : Int) < (n : Int) := by omega
   obtain ⟨ob, oo, hoe, hobW, hoc, hok⟩ := HO.out k (by rw [List.length_map]; exact hlt)
   have hgm : (ns.map NOp.o).getD k op0 = (ns.getD k n0).o := by simp [List.getD, hlt]
   rw [hgm] at hoc hok
   have hnx := HN.out (ns.getD k n0) (by rw [getD_of_lt _ _ _ hlt]; exact List.getElem_mem hlt)
   have HcW := hd (show ∀ w', Nw W w' → ∀ c, c < 10 → w'.cell? ⟨ob, oo + k * 10 + c, none⟩ = (ns.getD k n0).o.cells[c]? from fun w' f c hc => (f.cell hobW (fun x => x)).trans (hoc c hc))
   have hct := nCost_take ns k hlt
   have hcl := Hcle.out k
   have hcl1 := Hcle.out (k + 1)
   obtain ⟨op, hop⟩ : ∃ op, ns.getD k n0 = op := ⟨_, rfl⟩
   rw [hop] at HcW hok hct hnx
   have c0 : wr.cell? ⟨ob, oo + k * 10, none⟩ = some (.int .i64 op.o.kind) := HcW.out wr HP.out.li.env.nw 0 (by omega)
   have hobl : ob < wr.heap.size := Nat.lt_of_lt_of_le hobW HP.out.li.env.nw.size
   have Hok := hd hok
   have Hct := hd hct
   have Hnx := hd hnx
   subst hoe
   clear hoc hop hok hct hnx hgm
   by_cases hkm : op.o.kind ≤ 9
   ·have hdm : ¬ ((9 : Int) < op.o.kind) := by omega
    obtain ⟨ix, hix⟩ : ∃ ix, (if op.o.which then L'.ss.length - 1 else 0) = ix := ⟨_, rfl⟩
    have hssl : L'.ss.length = n := by rw [HP.out.li.ss, List.length_map, HP.out.len]
    have hixn : ix < ds'.length := by
     rw [← hix, HP.out.len, hssl]
     split <;> omega
    obtain ⟨dx, hdx⟩ : ∃ dx, dx = ds'[ix]'hixn := ⟨_, rfl⟩
    have hssD : L'.ss.getD ix undef = .pointer (some ⟨dx.D, 0, none⟩) := by
     rw [HP.out.li.ss, hdx]
     simp [List.getD, hixn]
    have Hoth := hd (other_any lo B L' op.o wr.drew (HP.out.li.law.nw ((Fr.refl _ wr).drew)) (by rw [hssl]; exact hn0) (by rw [hssl]; omega))
    rw [hix, hssD] at Hoth
    have HixN := hd hixn
    have Hdx := hd (show ds'[ix]'HixN.out = dx from hdx.symm)
    have hka := HP.out.a
    have hkb := HP.out.b
    have hkr := HP.out.r
    have q4 := Hct.out
    have HQ := hd (show L'.nums.length + 4800 * op.cost ≤ 68719476736 ∧ L'.turned.length + op.cost ≤ 8388608 ∧ L'.rows.length + op.cost ≤ 8388608 from ⟨by omega, by omega, by omega⟩)
    clear q4 hix hssl hixn hssD hdx
    go_wp2_with fail
    have hK0 : Nw W wr.drew := HP.out.li.env.nw.drew
    refine region_H plyR6 13 (fun w'' => Nw W w'') (by kernel_rfl) (by kernel_rfl) (by kernel_rfl) ?_
    refine take_at (i := 0) (d := some 35) (v := .pointer (some ⟨B, 0, none⟩)) (by kernel_rfl) (by kernel_rfl) (fun _ _ _ h => h) (fun w'' hS => by kernel_rfl) hK0 ?_
    refine take_at (i := 1) (d := some 36) (v := .pointer (some ⟨B, 0, none⟩)) (by kernel_rfl) (by kernel_rfl) (fun _ _ _ h => h) (fun w'' hS => by kernel_rfl) hK0 ?_
    refine take_at (i := 2) (d := some 37) (v := .slice (some ⟨ob, oo, none⟩) ns.length scap) (by kernel_rfl) (by kernel_rfl) (fun _ _ _ h => h) (fun w'' hS => by kernel_rfl) hK0 ?_
    refine take_at (i := 3) (d := some 38) (v := .int .i64 (k : Int)) (by kernel_rfl) (by kernel_rfl) (fun _ _ _ h => h) (fun w'' hS => by kernel_rfl) hK0 ?_
    refine take_at (i := 4) (d := some 39) (v := .pointer (some ⟨ob, oo + k * 10, none⟩)) (by kernel_rfl) (by kernel_rfl) (fun _ _ _ h => h) (fun w'' hS => exec_index10 (i := k) (n := ns.length) (cap := scap) 23 54 (.tmp 37) (.tmp 38) (by kernel_rfl) (by kernel_rfl) (by kernel_rfl) hlt (by kernel_rfl) (by kernel_rfl)) hK0 ?_
    refine take_at (i := 5) (d := some 40) (v := .agg op.o.cells) (by kernel_rfl) (by kernel_rfl) (fun _ _ _ h => h) (fun w'' hS => exec_load10 54 (.tmp 39) (by kernel_rfl) (by kernel_rfl) (by kernel_rfl) (by kernel_rfl) (HcW.out w'' hS)) hK0 ?_
    refine take_at (i := 7) (d := some 42) (v := .slice (some ⟨ob, oo, none⟩) ns.length scap) (by kernel_rfl) (by kernel_rfl) (fun _ _ _ h => h) (fun w'' hS => by kernel_rfl) hK0 ?_
    refine take_at (i := 8) (d := some 43) (v := .int .i64 (k : Int)) (by kernel_rfl) (by kernel_rfl) (fun _ _ _ h => h) (fun w'' hS => by kernel_rfl) hK0 ?_
    refine take_at (i := 9) (d := some 44) (v := .pointer (some ⟨ob, oo + k * 10, none⟩)) (by kernel_rfl) (by kernel_rfl) (fun _ _ _ h => h) (fun w'' hS => exec_index10 (i := k) (n := ns.length) (cap := scap) 23 54 (.tmp 42) (.tmp 43) (by kernel_rfl) (by kernel_rfl) (by kernel_rfl) hlt (by kernel_rfl) (by kernel_rfl)) hK0 ?_
    refine take_at (i := 10) (d := some 45) (v := .agg op.o.cells) (by kernel_rfl) (by kernel_rfl) (fun _ _ _ h => h) (fun w'' hS => exec_load10 54 (.tmp 44) (by kernel_rfl) (by kernel_rfl) (by kernel_rfl) (by kernel_rfl) (HcW.out w'' hS)) hK0 ?_
    refine enter_at (i := 6) (d := some 41) (w' := wr.drew) (f := 18) (args := #[.pointer (some ⟨B, 0, none⟩), .agg op.o.cells]) (by kernel_rfl) (by kernel_rfl) (by kernel_rfl) ?_
    refine Hoth.out.mono ?_
    rintro e w1 ⟨rfl, hf1⟩
    have hf01 : Nw wr w1 := ((Fr.refl _ wr).drew).trans hf1 (fun _ x => x.elim)
    have hLI1 := HP.out.li.nw hf01
    refine ⟨_, rfl, hLI1.env.nw, ?_⟩
    refine enter_at (i := 11) (d := some 46) (w' := w1) (f := 17) (args := #[.pointer (some ⟨B, 0, none⟩), .pointer (some ⟨dx.D, 0, none⟩), .agg op.o.cells]) (by kernel_rfl) (by kernel_rfl) (by kernel_rfl) ?_
    refine (stepN_any Hgo.out W lo B L' ds' ix dx op w1 hLI1 HixN.out Hdx.out (by rw [HP.out.len]; exact hds) Hok.out Hnx.out HP.out.four HQ.out.1 HQ.out.2.1 HQ.out.2.2).mono ?_
    rintro e w2 ⟨rfl, L2, ds2, hE2⟩
    have hLI2 := hE2.li
    refine ⟨_, rfl, hLI2.env.nw, ?_⟩
    refine value_at (i := 12) (d := some 9) (v := .bool true) (w' := w2) (by kernel_rfl) (by kernel_rfl) (by kernel_rfl) hLI2.env.nw ?_
    refine wpAnyH_done (by kernel_rfl) ?_ _
    simp only [Act.put, List.setIfInBounds_toArray, List.set_cons_zero, List.set_cons_succ]
    have q1 := hE2.a
    have q2 := hE2.b
    have q3 := hE2.r
    have q4 := Hct.out
    have HP2 : Hid (GoEnd W w2 lo B n L L2 ds2 (4800 * nCost (ns.take (k + 1))) (nCost (ns.take (k + 1)))) := ⟨hLI2, hE2.len.trans HP.out.len, by omega, by omega, by omega, hE2.four⟩
    clear hLI2 hE2 q1 q2 q3 q4 hLI1 hf01 hf1 hK0 hka hkb hkr HQ Hdx HixN Hoth c0 hobl HP
    go_wp2_with (go_at_call 19; refine (kept_any B _ _ _ _ _ _ _ _ HP2.out.li.law.blk HP2.out.li.law.keeps).mono ?_; rintro e w4 ⟨rfl, rfl⟩)
    exact ⟨⟨k + 1, L2, ds2, by omega, by simp, HP2⟩, by simp [intOf]; omega⟩
   ·have hdm : (9 : Int) < op.o.kind := by omega
    go_wp2_with fail
    have q1 := HP.out.a
    have q2 := HP.out.b
    have q3 := HP.out.r
    have q4 := Hct.out
    exact ⟨⟨k + 1, L', ds', by omega, by simp, ⟨HP.out.li, HP.out.len, by omega, by omega, by omega, HP.out.four⟩⟩, by simp [intOf]; omega⟩
  ·have hcl := Hcle.out k
   have hka := HP.out.a
   have hkb := HP.out.b
   have hkr := HP.out.r
   have HE : Hid (∃ wz, wz = wr) := ⟨wr, rfl⟩
   have hb1 : L'.nums.length ≤ 10066329600 := by omega
   have hb2 : L'.turned.length ≤ 2097154 := by omega
   have hb3 : L'.rows.length ≤ 2097152 := by omega
   have HP3 : Hid (LI W wr lo B L' ds' ∧ ds'.length = n ∧ L'.nums.length % 4 = 0) := ⟨HP.out.li, HP.out.len, HP.out.four⟩
   have key : (k < ns.length ∧ ¬ (0 < n)) ∨ ¬ (k < ns.length) := by omega
   clear hka hkb hkr HP hgo HE
   rcases key with ⟨hlt, hn0⟩ | hlt
   ·have hdk : (k : Int) < (ns.length : Int) := by omega
    have hdn : ¬ ((0 : Int) < (n : Int)) := by omega
    go_wp2_with fail
    go_loopw [11, 12] (fun i _ wz => ∃ (j : Nat) (L2 : LW) (ds2 : List Sd), j ≤ n ∧ i = .int .i64 (j : Int) ∧ Hid (LI W wz lo B L2 ds2 ∧ ds2.length = n) ∧ L2.nums.length ≤ L'.nums.length + 40 * j ∧ Hid (L2.nums.length % 4 = 0) ∧ Hid (L2.turned = L'.turned) ∧ Hid (L2.rows = L'.rows)) (fun i _ _ => n - (intOf i).toNat)
    case atStart => exact ⟨0, L', ds', Nat.zero_le _, rfl, ⟨HP3.out.1, HP3.out.2.1⟩, by omega, HP3.out.2.2, rfl, rfl⟩
    case round =>
     rename World => wz
     obtain ⟨j, L2, ds2, hj, rfl, HLL, hjn, H4, HTt, HRr⟩ := hrel
     have HL := hd HLL.out.1
     by_cases hjl : j < n
     ·omega
     ·have hdj : ¬ ((j : Int) < (n : Int)) := by omega
      go_wp2_with (go_at_call 19; refine (kept_any B _ _ _ _ _ _ _ _ HL.out.law.blk HL.out.law.keeps).mono ?_; rintro e w4 ⟨rfl, rfl⟩)
      go_ret
      exact ⟨rfl, HL.out.env.nw⟩
   ·have hdk : ¬ ((k : Int) < (ns.length : Int)) := by omega
    go_wp2_with fail
    go_loopw [11, 12] (fun i _ wz => ∃ (j : Nat) (L2 : LW) (ds2 : List Sd), j ≤ n ∧ i = .int .i64 (j : Int) ∧ Hid (LI W wz lo B L2 ds2 ∧ ds2.length = n) ∧ L2.nums.length ≤ L'.nums.length + 40 * j ∧ Hid (L2.nums.length % 4 = 0) ∧ Hid (L2.turned = L'.turned) ∧ Hid (L2.rows = L'.rows)) (fun i _ _ => n - (intOf i).toNat)
    case atStart => exact ⟨0, L', ds', Nat.zero_le _, rfl, ⟨HP3.out.1, HP3.out.2.1⟩, by omega, HP3.out.2.2, rfl, rfl⟩
    case round =>
     rename World => wz
     obtain ⟨j, L2, ds2, hj, rfl, HLL, hjn, H4, HTt, HRr⟩ := hrel
     have HL := hd HLL.out.1
     by_cases hjl : j < n
     ·have hdj : (j : Int) < (n : Int) := by omega
      obtain ⟨dx, hdx⟩ : ∃ dx, dx = ds2[j]'(by rw [HLL.out.2]; exact hjl) := ⟨_, rfl⟩
      have HjD := hd (show j < ds2.length from by rw [HLL.out.2]; exact hjl)
      have Hdx := hd (show ds2[j]'HjD.out = dx from hdx.symm)
      obtain ⟨g2, c2, hsv, hown2, hcj, _⟩ := HL.out.law.sides.cell j (by rw [HL.out.ss, List.length_map]; exact HjD.out)
      have hsl : L2.ss.length = n := by rw [HL.out.ss, List.length_map, HLL.out.2]
      rw [hsl] at hsv
      have e0 : wz.cell? ⟨B, 0, none⟩ = some (.slice (some ⟨g2, 0, none⟩) n c2) := by
       have := HL.out.law.blk.cell 0
       rw [hsv] at this
       exact this
      have e1 : wz.cell? ⟨g2, j, none⟩ = some (.pointer (some ⟨dx.D, 0, none⟩)) := by
       rw [hcj, hdx]
       have : L2.ss[j]? = some (.pointer (some ⟨(ds2[j]'HjD.out).D, 0, none⟩)) := by rw [HL.out.ss, List.getElem?_map, List.getElem?_eq_getElem HjD.out]; rfl
       rw [List.getElem?_eq_getElem (by rw [hsl]; exact hjl)] at this
       exact this
      have hBlz := HL.out.law.blk.lt
      have hg2l := HL.out.law.sides.lt hown2
      have hLS : LS W wz lo B L2 dx := Hdx.out ▸ HL.out.one j HjD.out
      have hfr : dx.bz = false := Hdx.out ▸ HL.out.free _ (List.getElem_mem HjD.out)
      have Hcall := hd (ended_any W lo B L2 dx 9 wz hLS hfr (by omega) H4.out (by rw [HTt.out]; omega) (by rw [HRr.out]; omega))
      clear hLS hfr hcj hsv hown2 hsl hdx
      go_wp2_with (go_at_call 20; refine Hcall.out.mono ?_; rintro e w5 ⟨rfl, L3, d3, h1, h2, h3, h5, h6⟩; have HL3 := hd (HL.out.step j HjD.out h1 (Hdx.out.symm ▸ h2)); have H34 := hd h2.four; have H3 := hd h3; have H5 := hd h5; have H6 := hd h6; clear h1 h2 h3 h5 h6)
      have h3 := H3.out
      exact ⟨⟨j + 1, L3, ds2.set j d3, by omega, by simp, ⟨HL3.out, by rw [List.length_set]; exact HLL.out.2⟩, by omega, hd (by rw [H34.out]; exact H4.out), hd (H5.out.trans HTt.out), hd (H6.out.trans HRr.out)⟩, by simp [intOf]; omega⟩
     ·have hdj : ¬ ((j : Int) < (n : Int)) := by omega
      go_wp2_with (go_at_call 19; refine (kept_any B _ _ _ _ _ _ _ _ HL.out.law.blk HL.out.law.keeps).mono ?_; rintro e w4 ⟨rfl, rfl⟩)
      go_ret
      exact ⟨rfl, HL.out.env.nw⟩
end Go.Proofs.YtkjfpdfkcfgfkaaGreat

namespace Go.Proofs.YtkjfpdfkcfgfkaaGreat
open Go.RowKit

def rowsC : List (List Int) := [[0, 1], [1, 2]]
def tbC : Tb := ⟨[0, 1], rowsC, false⟩
def dC0 : List Nat := [7, 7, 0, 0, 0, 0, 0, 0]
def dC1 : List Nat := [3, 6, 0, 0, 0, 0, 0, 0]
def dC2 : List Nat := [1, 2, 0, 0, 0, 0, 0, 0]
theorem n_fullC : fullTo [3, 3] [(3 : Int), 3].length = dC0 := by decide
theorem cloC1 : Closure 2 [tbC] dC0 dC1 := clo_live (k := 1) (by decide +kernel) rfl (by decide +kernel) (by decide +kernel)
theorem cloC2 : Closure 2 [tbC] (dC1.set 1 (remV (dC1.getD 1 0) 2)) dC2 := clo_live (k := 1) (by decide +kernel) rfl (by decide +kernel) (by decide +kernel)
theorem dC1_dm : Dm dC1 := dmB_of (by decide)
theorem dC2_dm : Dm dC2 := dmB_of (by decide)
theorem ints2 {w : World} {g : Nat} {a b : Int} (h : Blk w g #[.int .i64 a, .int .i64 b] 3) : IntsAt w (some ⟨g, 0, none⟩) [a, b] := IntsAt.of_blk h 0 _ (fun i hi => by
 match i, hi with
 | 0, _ => rfl
 | 1, _ => rfl)
theorem post_clo {X : Nat} {vo ro : Option Addr} {vcap rcap : Nat} {zs : List Int} {s : WS} {vars : List Int} {rows : List (List Int)} {nt : Bool} {way : Int} {w : World} (h : WAt w X zs s) (hbz : s.l.busy = false)
  (hvcap : vars.length ≤ vcap) (hvs : IntsAt w vo vars) (hrs : RowsAt w ro rows) (hyes : postOf zs s vars rows way = 0) {r : List Nat} (hr : Dm r) (hc : Closure zs.length (s.bs ++ [⟨vars, rows, nt⟩]) s.d r) :
  Calls Tryz.prog 11 #[.pointer (some ⟨X, 0, none⟩), .agg #[.slice vo vars.length vcap, .slice ro rows.length rcap, .bool nt, .int .i64 way]] w fun e w' => e = .returned (.int .i64 0) ∧ ∃ s', WAt w' X zs s' ∧ WStep w w' X s s' ∧ s'.d = r ∧ s'.bs = s.bs ++ [⟨vars, rows, nt⟩] ∧ s'.sk = s.sk ∧ s'.l.busy = false ∧ s'.ts.length = s.ts.length + 1 := by
 refine (post_yes X vo ro vcap rcap zs s vars rows nt way w h hbz hvcap hvs hrs hyes).mono ?_
 rintro e w' ⟨rfl, so, tcap, x, d', bv, ts, us, h1, h2, h3, h4⟩
 refine ⟨rfl, _, h3, h4, h1.one h2 hr hc, rfl, rfl, hbz, ?_⟩
 have := h3.mem.fits.1
 have e2 := h.mem.fits.1
 rw [this]
 simp [WS.set, WS.more, e2]
theorem remove_clo {X : Nat} {zs : List Int} {s : WS} {v value : Nat} {w : World} (h : WAt w X zs s) (hbz : s.l.busy = false) (hf : faultOf zs s.d v value = 0) {r : List Nat} (hr : Dm r) (hc : Closure zs.length s.bs (s.d.set v (remV (s.d.getD v 0) value)) r) :
  Calls Tryz.prog 13 #[.pointer (some ⟨X, 0, none⟩), .int .i64 v, .int .i64 value] w fun e w' => e = .returned (.int .i64 0) ∧ ∃ s', WAt w' X zs s' ∧ WStep w w' X s s' ∧ s'.d = r ∧ s'.bs = s.bs ∧ s'.sk = s.sk ∧ s'.l.busy = false := by
 refine (remove_yes X zs s v value w h hbz hf).mono ?_
 rintro e w' ⟨rfl, d', bv, ts, us, h1, h2, h3, h4⟩
 exact ⟨rfl, _, h3, h4, h1.one h2 hr hc, rfl, rfl, hbz⟩
set_option maxHeartbeats 3200000 in
set_option maxRecDepth 1000000 in
theorem first_ok : FirstOk := by
 intro w
 go_enter Tryz.func7, Tryz.ntmps7
 go_wp2_with fail
 have hb0 : Blk (w.alloc (.cells #[.int .i64 3, .int .i64 3] 3)) w.heap.size #[.int .i64 3, .int .i64 3] 3 := Blk.new _ _ _
 have hf0 : Nw w (w.alloc (.cells #[.int .i64 3, .int .i64 3] 3)) := (Fr.refl _ w).alloc _
 refine (new_any w.heap.size 0 2 [3, 3] _ (by decide) (by decide) (ints2 hb0)).mono ?_
 rintro e w1 ⟨hf1, hcase⟩
 rcases hcase with ⟨hok, X, szv, rfl, hX1, hs1, hXl, hsl⟩ | ⟨hno, _⟩
 ·have hA := new_wat hok hX1 hs1
  have hsi : Since w X (ws0 [3, 3] szv) := fun k hk => by
   simp at hXl hsl
   rcases ws0_own hk with rfl | hk
   ·omega
   ·have := hsl k hk
    omega
  have hf1' : Nw w w1 := hf0.trans hf1 (fun i h => h.elim)
  have hds : (ws0 [3, 3] szv).d = dC0 := n_fullC
  obtain ⟨s, hs⟩ : ∃ s, ws0 [3, 3] szv = s := ⟨_, rfl⟩
  have hbs : s.bs = [] := by rw [← hs]; rfl
  have hsk : s.sk = [] := by rw [← hs]; rfl
  have htl : s.ts.length = 0 := by rw [← hs]; rfl
  have hbz : s.l.busy = false := by rw [← hs]; rfl
  rw [hs] at hA hsi hds
  have HA := hd hA
  have Hsi := hd hsi
  have Hf := hd hf1'
  clear hb0 hf0 hf1 hX1 hs1 hXl hsl hA hsi hf1' hs
  go_wp2_with fail
  obtain ⟨U, hU⟩ : ∃ U, U = (((w1.alloc (.cells #[.int .i64 0, .int .i64 1] 3)).alloc (.cells #[.int .i64 0, .int .i64 1] 3)).alloc (.cells #[.int .i64 1, .int .i64 2] 3)).alloc (.cells #[.slice (some ⟨w1.heap.size + 1, 0, none⟩) 2 2, .slice (some ⟨w1.heap.size + 1 + 1, 0, none⟩) 2 2] 22) := ⟨_, rfl⟩
  have hfU : Nw w1 U := by rw [hU]; exact ((((Fr.refl _ w1).alloc _).alloc _).alloc _).alloc _
  have hk0 : Blk U w1.heap.size #[.int .i64 0, .int .i64 1] 3 := by rw [hU]; exact (((Blk.new _ _ _).alloc _).alloc _).alloc _
  have hk1 : Blk U (w1.heap.size + 1) #[.int .i64 0, .int .i64 1] 3 := by
   rw [hU]
   have := ((Blk.new (w1.alloc (.cells #[.int .i64 0, .int .i64 1] 3)) #[.int .i64 0, .int .i64 1] 3).alloc (.cells #[.int .i64 1, .int .i64 2] 3)).alloc (.cells #[.slice (some ⟨w1.heap.size + 1, 0, none⟩) 2 2, .slice (some ⟨w1.heap.size + 1 + 1, 0, none⟩) 2 2] 22)
   simpa using this
  have hk2 : Blk U (w1.heap.size + 1 + 1) #[.int .i64 1, .int .i64 2] 3 := by
   rw [hU]
   have := (Blk.new ((w1.alloc (.cells #[.int .i64 0, .int .i64 1] 3)).alloc (.cells #[.int .i64 0, .int .i64 1] 3)) #[.int .i64 1, .int .i64 2] 3).alloc (.cells #[.slice (some ⟨w1.heap.size + 1, 0, none⟩) 2 2, .slice (some ⟨w1.heap.size + 1 + 1, 0, none⟩) 2 2] 22)
   simpa using this
  have hk3 : Blk U (w1.heap.size + 1 + 1 + 1) #[.slice (some ⟨w1.heap.size + 1, 0, none⟩) 2 2, .slice (some ⟨w1.heap.size + 1 + 1, 0, none⟩) 2 2] 22 := by
   rw [hU]
   have := Blk.new (((w1.alloc (.cells #[.int .i64 0, .int .i64 1] 3)).alloc (.cells #[.int .i64 0, .int .i64 1] 3)).alloc (.cells #[.int .i64 1, .int .i64 2] 3)) #[.slice (some ⟨w1.heap.size + 1, 0, none⟩) 2 2, .slice (some ⟨w1.heap.size + 1 + 1, 0, none⟩) 2 2] 22
   simpa using this
  have hrw : RowsAt U (some ⟨w1.heap.size + 1 + 1 + 1, 0, none⟩) rowsC := fun i hi => by
   match i, hi with
   | 0, _ => exact ⟨_, 0, _, 2, rfl, hk3.lt, hk3.cell 0, ints2 hk1⟩
   | 1, _ => exact ⟨_, 0, _, 2, rfl, hk3.lt, hk3.cell 1, ints2 hk2⟩
  rw [← hU]
  have hA0 := HA.out.nw hfU
  have hf0 := Hf.out.trans hfU (fun i h => h.elim)
  refine (post_clo (zs := [3, 3]) (s := s) (vars := [0, 1]) (rows := rowsC) (nt := false) (way := 1) hA0 hbz (by decide) (ints2 hk0) hrw (by unfold postOf; rw [htl, hsk, hds]; decide) (r := dC1) dC1_dm (by rw [hbs, hds]; exact cloC1)).mono ?_
  rintro e x1 ⟨rfl, s1, hA1, hst, hds1, hbs1, hsk1, hbz1, htl1⟩
  obtain ⟨hsi1, hfx1⟩ := hst.since Hsi.out hf0
  rw [hbs] at hbs1
  have HA1 := hd hA1
  have Hsi1 := hd hsi1
  have Hf1 := hd hfx1
  clear HA Hf Hsi hU hfU hk0 hk1 hk2 hk3 hrw hA0 hf0 hst hA1 hsi1 hfx1
  go_wp2_with fail
  refine (domain_ok X s1.szv s1.d _ s1.l [3, 3] 1 x1 HA1.out.mem.blk HA1.out.mem.sz (by decide) (by decide) HA1.out.good.dm.len (by rw [hds1]; decide) hbz1).mono ?_
  rw [hds1, show vals (dC1.getD 1 0) = [1, 2] by decide]
  rintro e x2 ⟨rfl, hf2, hl2⟩
  have HA2 := hd (HA1.out.nw hf2)
  have Hf2 := hd (Hf1.out.trans hf2 (fun _ x => x.elim))
  have Hl2 := hd hl2
  have Hn2 := hd (show ¬ s1.own X x1.heap.size from fun ho => by have := HA1.out.mem.lt ho; omega)
  clear HA1 Hf1 hf2 hl2
  go_wp2_with fail
  refine (remove_clo (zs := [3, 3]) (s := s1) (v := 1) (value := 2) HA2.out hbz1 (by rw [hds1]; decide) (r := dC2) dC2_dm (by rw [hds1, hbs1]; exact cloC2)).mono ?_
  rintro e x3 ⟨rfl, s3, hA3, hst3, hds3, hbs3, hsk3, hbz3⟩
  obtain ⟨hsi3, hf3⟩ := hst3.since Hsi1.out Hf2.out
  have Hl3 := hd (hst3.blk Hl2.out Hn2.out).1
  rw [hbs1] at hbs3
  have HA3 := hd hA3
  have Hsi3 := hd hsi3
  have Hf3 := hd hf3
  clear HA2 Hf2 Hsi1 hA3 hsi3 hf3 hst3
  go_wp2_with fail
  refine (domain_ok X s3.szv s3.d _ s3.l [3, 3] 0 x3 HA3.out.mem.blk HA3.out.mem.sz (by decide) (by decide) HA3.out.good.dm.len (by rw [hds3]; decide) hbz3).mono ?_
  rw [hds3, show vals (dC2.getD 0 0) = [0] by decide]
  rintro e x4 ⟨rfl, hf4, hl4⟩
  have hl1 := Hl3.out.nw hf4
  have p0 : x4.cell? ⟨x1.heap.size, 0, none⟩ = some (.int .i64 1) := hl1.cell 0
  have p1 : x4.cell? ⟨x1.heap.size, 1, none⟩ = some (.int .i64 2) := hl1.cell 1
  have p2 : x4.cell? ⟨x3.heap.size, 0, none⟩ = some (.int .i64 0) := hl4.cell 0
  have HF := hd (Hf3.out.trans hf4 (fun _ x => x.elim))
  clear hl1 hl4 hf4 HA3 Hf3 Hsi3
  go_wp2
  go_ret
  exact ⟨rfl, HF.out⟩
 ·exact absurd hno (by decide)
end Go.Proofs.YtkjfpdfkcfgfkaaGreat

namespace Go.Proofs.YtkjfpdfkcfgfkaaGreat
open Go.RowKit

def lw0 : LW := ⟨nilS, nilS, nilS, nilS, [], [], [], []⟩
theorem LI.start {W w : World} (hf : Nw W w) (hB : Blk w W.heap.size #[nilS, nilS, nilS, nilS] 29) : LI W w W.heap.size W.heap.size lw0 [] := by
 have hown : ∀ k, lw0.own W.heap.size k → k = W.heap.size := fun k hk => by
  rcases hk with hk | hk | hk | hk | hk | ⟨v, hv, _⟩ | ⟨v, hv, _⟩ | ⟨v, hv, _⟩
  ·exact hk
  ·cases hk
  ·cases hk
  ·cases hk
  ·cases hk
  ·cases hv
  ·cases hv
  ·cases hv
 refine ⟨⟨⟨Nat.le_refl _, hf, hf.size⟩, ⟨hB, Row.nil _ _, ⟨Row.nil _ _, Row.nil _ _, Row.nil _ _, by decide, by decide, by decide, fun i hi => absurd hi (Nat.not_lt_zero _), fun i hi => absurd hi (Nat.not_lt_zero _), fun i hi => absurd hi (Nat.not_lt_zero _)⟩, fun k hk => ?_, fun k hk => ?_, fun v hv => ?_, fun v hv => (by cases hv), fun k hk => (by cases hk), fun k hk => (by cases hk), fun k hk => (by cases hk)⟩, rfl, fun d hd => (by cases hd), fun d hd => (by cases hd), fun i j hi => absurd hi (Nat.not_lt_zero _), fun d hd => (by cases hd)⟩, fun d hd => (by cases hd)⟩
 ·rw [hown k hk]
  exact Nat.le_refl _
 ·rw [hown k hk]
  exact hB.lt
 ·rcases hv with hv | hv <;> cases hv

set_option maxHeartbeats 1600000 in
set_option maxRecDepth 1000000 in
theorem goes_walk (hfirst : FirstOk) (hgo : GoingOk) (ao so : Option Addr) (ca sc : Nat) (xs : List Int) (ns : List NOp) (w : World) (hx : xs.length ≤ 1048576) (ha : IntsAt w ao xs) (hops : OpsAt w so (ns.map NOp.o)) (hnest : ∀ x ∈ ns, NestAt w x.o x.F x.M) (hcost : nCost ns ≤ 2097152) :
  Calls Tryz.prog 5 #[.slice ao xs.length ca, .slice so ns.length sc] w fun e w' => e = .returned (.bool true) ∧ Nw w w' := by
 have hB0 : Blk (w.alloc (.cells #[nilS, nilS, nilS, nilS] 29)) w.heap.size #[nilS, nilS, nilS, nilS] 29 := Blk.new _ _ _
 have hF0 : Nw w (w.alloc (.cells #[nilS, nilS, nilS, nilS] 29)) := (Fr.refl _ w).alloc _
 go_enter Tryz.func5, Tryz.ntmps5
 go_wp2_with fail
 refine (hfirst _).mono ?_
 rintro e w1 ⟨rfl, hf1⟩
 have hLI := LI.start (hF0.trans hf1 (fun _ x => x.elim)) (hB0.nw hf1)
 have Hopen := hd (opens_li w w.heap.size w.heap.size lw0 [] ao ca xs w1 hLI (by decide) ha hx (by decide))
 clear hB0 hF0 hf1 hLI
 go_wp2_with (first
  | (go_at_call 8; refine Hopen.out.mono ?_; rintro e w2 ⟨rfl, L', ds', h1, h2, h3, h4, h5⟩; have Hplay := hd (play_any hgo w w.heap.size w.heap.size L' ds' so sc ns w2 h1 (Nat.le_trans h5 (by decide)) hops hnest hcost h2 (by rw [h4]; decide) h3); clear h1 h2 h3 h4 h5)
  | (go_at_call 9; refine Hplay.out.mono ?_; rintro e w3 ⟨rfl, hf3⟩; have Hf3 := hd hf3; clear hf3))
 go_ret
 exact ⟨rfl, Hf3.out⟩

set_option maxHeartbeats 1600000 in
set_option maxRecDepth 1000000 in
theorem all_walk (hfirst : FirstOk) (hgo : GoingOk) (ao bo so : Option Addr) (ca cb sc : Nat) (xs ys : List Int) (ns : List NOp) (w : World) (hx : xs.length ≤ 1048576) (hy : ys.length ≤ 1048576) (ha : IntsAt w ao xs) (hb : IntsAt w bo ys) (hops : OpsAt w so (ns.map NOp.o)) (hnest : ∀ x ∈ ns, NestAt w x.o x.F x.M) (hcost : nCost ns ≤ 2097152) :
  Calls Tryz.prog 6 #[.slice ao xs.length ca, .slice bo ys.length cb, .slice so ns.length sc] w fun e w' => e = .returned (.bool true) ∧ Nw w w' := by
 have hB0 : Blk (w.alloc (.cells #[nilS, nilS, nilS, nilS] 29)) w.heap.size #[nilS, nilS, nilS, nilS] 29 := Blk.new _ _ _
 have hF0 : Nw w (w.alloc (.cells #[nilS, nilS, nilS, nilS] 29)) := (Fr.refl _ w).alloc _
 go_enter Tryz.func6, Tryz.ntmps6
 go_wp2_with fail
 refine (hfirst _).mono ?_
 rintro e w1 ⟨rfl, hf1⟩
 have hLI := LI.start (hF0.trans hf1 (fun _ x => x.elim)) (hB0.nw hf1)
 have Hopen := hd (opens_li w w.heap.size w.heap.size lw0 [] ao ca xs w1 hLI (by decide) ha hx (by decide))
 clear hB0 hF0 hf1 hLI
 go_wp2_with (go_at_call 8; refine Hopen.out.mono ?_; rintro e w2 ⟨rfl, L1, ds1, h1, h2, h3, h4, h5⟩; have Hopen2 := hd (opens_li w w.heap.size w.heap.size L1 ds1 bo cb ys w2 h1 (Nat.le_trans h5 (by decide)) hb hy (by rw [h4]; decide)); have HE := hd (And.intro h2 (And.intro h3 (And.intro h4 h5))); clear Hopen h1 h2 h3 h4 h5)
 refine Hopen2.out.mono ?_
 rintro e w3 ⟨rfl, L', ds', k1, k2, k3, k4, k5⟩
 have Hplay := hd (play_any hgo w w.heap.size w.heap.size L' ds' so sc ns w3 k1 (by have := HE.out.2.2.2; simp at this; omega) hops hnest hcost (k2.trans HE.out.1) (by rw [k4, HE.out.2.2.1]; decide) (k3.trans HE.out.2.1))
 clear k1 k2 k3 k4 k5 HE Hopen2
 go_wp2_with (go_at_call 9; refine Hplay.out.mono ?_; rintro e w4 ⟨rfl, hf4⟩; have Hf4 := hd hf4; clear hf4)
 go_ret
 exact ⟨rfl, Hf4.out⟩

end Go.Proofs.YtkjfpdfkcfgfkaaGreat

namespace Go.Proofs.YtkjfpdfkcfgfkaaGreat
open Go.RowKit

set_option maxHeartbeats 800000 in
set_option maxRecDepth 1000000 in
theorem fault_busy (X : Nat) (v value : Int) (w : World) (hcb : w.cell? ⟨X, 12, none⟩ = some (.bool true)) :
  Calls Tryz.prog 30 #[.pointer (some ⟨X, 0, none⟩), .int .i64 v, .int .i64 value] w fun e w' => e = .returned (.int .i64 5) ∧ w' = w := by
 go_enter Tryz.func30, Tryz.ntmps30
 go_wp2_with fail
 go_ret
 exact ⟨rfl, rfl⟩

set_option maxHeartbeats 800000 in
set_option maxRecDepth 1000000 in
theorem fix_busy (X : Nat) (v value : Int) (w : World) (hcb : w.cell? ⟨X, 12, none⟩ = some (.bool true)) :
  Calls Tryz.prog 56 #[.pointer (some ⟨X, 0, none⟩), .int .i64 v, .int .i64 value] w fun e w' => e = .returned (.int .i64 5) ∧ w' = w := by
 have Hcall := hd (fault_busy X v value w hcb)
 go_enter Tryz.func56, Tryz.ntmps56
 go_wp2_with (go_at_call 30; refine Hcall.out.mono ?_; rintro e w1 ⟨rfl, rfl⟩)
 go_ret
 exact ⟨rfl, rfl⟩

set_option maxHeartbeats 800000 in
set_option maxRecDepth 1000000 in
theorem remove_busy (X : Nat) (v value : Int) (w : World) (hcb : w.cell? ⟨X, 12, none⟩ = some (.bool true)) :
  Calls Tryz.prog 13 #[.pointer (some ⟨X, 0, none⟩), .int .i64 v, .int .i64 value] w fun e w' => e = .returned (.int .i64 5) ∧ w' = w := by
 have Hcall := hd (fault_busy X v value w hcb)
 go_enter Tryz.func13, Tryz.ntmps13
 go_wp2_with (go_at_call 30; refine Hcall.out.mono ?_; rintro e w1 ⟨rfl, rfl⟩)
 go_ret
 exact ⟨rfl, rfl⟩

set_option maxHeartbeats 800000 in
set_option maxRecDepth 1000000 in
theorem push_busy (X : Nat) (w : World) (hcb : w.cell? ⟨X, 12, none⟩ = some (.bool true)) :
  Calls Tryz.prog 61 #[.pointer (some ⟨X, 0, none⟩)] w fun e w' => e = .returned (.int .i64 5) ∧ w' = w := by
 go_enter Tryz.func61, Tryz.ntmps61
 go_wp2_with fail
 go_ret
 exact ⟨rfl, rfl⟩

set_option maxHeartbeats 800000 in
set_option maxRecDepth 1000000 in
theorem pop_busy (X : Nat) (w : World) (hcb : w.cell? ⟨X, 12, none⟩ = some (.bool true)) :
  Calls Tryz.prog 62 #[.pointer (some ⟨X, 0, none⟩)] w fun e w' => e = .returned (.int .i64 5) ∧ w' = w := by
 go_enter Tryz.func62, Tryz.ntmps62
 go_wp2_with fail
 go_ret
 exact ⟨rfl, rfl⟩

set_option maxHeartbeats 800000 in
set_option maxRecDepth 1000000 in
theorem domain_busy (X : Nat) (v : Int) (w : World) (hcb : w.cell? ⟨X, 12, none⟩ = some (.bool true)) :
  Calls Tryz.prog 12 #[.pointer (some ⟨X, 0, none⟩), .int .i64 v] w fun e w' => e = .returned (.tuple #[.slice none 0 0, .int .i64 5]) ∧ w' = w := by
 go_enter Tryz.func12, Tryz.ntmps12
 go_wp2_with fail
 go_ret2
 exact ⟨rfl, rfl⟩

set_option maxHeartbeats 800000 in
set_option maxRecDepth 1000000 in
theorem look_busy (X : Nat) (w : World) (hcb : w.cell? ⟨X, 12, none⟩ = some (.bool true)) (hXl : X < w.heap.size) :
  Calls Tryz.prog 59 #[.pointer (some ⟨X, 0, none⟩)] w fun e w' => e = .returned (.agg #[.int .i64 0, .int .i64 0, .int .i64 0, .bool false, .int .i64 0, .int .i64 0]) ∧ Nw w w' := by
 go_enter Tryz.func59, Tryz.ntmps59
 go_wp2_with fail
 have hB := Blk.new w lookZ 110
 have z0 := hB.cell 0
 have z1 := hB.cell 1
 have z2 := hB.cell 2
 have z3 := hB.cell 3
 have z4 := hB.cell 4
 have z5 := hB.cell 5
 refine bodyPost_ret (v := .agg #[.int .i64 0, .int .i64 0, .int .i64 0, .bool false, .int .i64 0, .int .i64 0]) ?_ rfl ⟨rfl, (Fr.refl _ w).alloc _⟩
 simp only [lookZ] at z0 z1 z2 z3 z4 z5
 simp [results, Tryz.results59, go_sem, z0, z1, z2, z3, z4, z5]
structure BS (W w : World) (lo B : Nat) (L : LW) (d : Sd) : Prop where
 ls : LS W w lo B L d
 bz : d.bz = true
theorem BS.cells {W w : World} {lo B : Nat} {L : LW} {d : Sd} (h : BS W w lo B L d) : w.cell? ⟨d.X, 12, none⟩ = some (.bool true) ∧ d.X < w.heap.size ∧ w.cell? ⟨d.D, 0, none⟩ = some (.pointer (some ⟨d.X, 0, none⟩)) ∧ w.cell? ⟨d.D, 2, none⟩ = some (.bool true) ∧ d.D < w.heap.size := by
 obtain ⟨h1, h2⟩ := h.ls.side.pair.at_.busyC (by rw [h.ls.side.pair.busy]; exact h.bz)
 exact ⟨h1, h2, h.ls.side.blk.cell 0, (h.ls.side.blk.cell 2).trans (by rw [← h.bz]; rfl), h.ls.side.blk.lt⟩
theorem BS.nw {W w w' : World} {lo B : Nat} {L : LW} {d : Sd} (h : BS W w lo B L d) (f : Nw w w') : BS W w' lo B L d := ⟨h.ls.nw f, h.bz⟩

set_option maxHeartbeats 800000 in
set_option maxRecDepth 1000000 in
theorem domains_busy (W : World) (lo B : Nat) (L : LW) (d : Sd) (v : Int) (w : World) (h : BS W w lo B L d) :
  Calls Tryz.prog 36 #[.pointer (some ⟨B, 0, none⟩), .pointer (some ⟨d.D, 0, none⟩), .int .i64 v] w fun e w' => e = .returned (.bool true) ∧ Nw w w' := by
 obtain ⟨c0, hXl, c1, c2, hDl⟩ := h.cells
 have Hcall := hd (domain_busy d.X v w c0)
 clear h
 go_enter Tryz.func36, Tryz.ntmps36
 go_wp2_with (go_at_call 12; refine Hcall.out.mono ?_; rintro e w1 ⟨rfl, rfl⟩)
 go_ret
 exact ⟨rfl, Fr.refl _ _⟩

set_option maxHeartbeats 800000 in
set_option maxRecDepth 1000000 in
theorem counts_busy (W : World) (lo B : Nat) (L : LW) (d : Sd) (most : Int) (w : World) (h : BS W w lo B L d) :
  Calls Tryz.prog 37 #[.pointer (some ⟨d.D, 0, none⟩), .int .i64 most] w fun e w' => e = .returned (.bool true) ∧ Nw w w' := by
 obtain ⟨_, _, c1, _, hDl⟩ := h.cells
 have Hc2 := hd (fun w' (f : Nw w w') => (show w'.cell? ⟨d.D, 2, none⟩ = some (.bool true) ∧ d.D < w'.heap.size from ⟨(h.nw f).cells.2.2.2.1, (h.nw f).cells.2.2.2.2⟩))
 have Hcall := hd (count_busy d.X d.zs d.s most w h.ls.side.pair.at_ (by rw [h.ls.side.pair.busy]; exact h.bz))
 clear h
 go_enter Tryz.func37, Tryz.ntmps37
 go_wp2_with (go_at_call 55; refine Hcall.out.mono ?_; rintro e w1 ⟨rfl, hf1⟩; obtain ⟨c2, hDl1⟩ := Hc2.out w1 hf1; have Hf1 := hd hf1; clear hf1)
 go_ret
 exact ⟨rfl, Hf1.out⟩

set_option maxHeartbeats 1600000 in
set_option maxRecDepth 1000000 in
theorem changes_fixB (W : World) (lo B : Nat) (L : LW) (d : Sd) (o : OpV) (w : World) (h : BS W w lo B L d) (hk : o.kind = 2) :
  Calls Tryz.prog 38 #[.pointer (some ⟨d.D, 0, none⟩), .agg o.cells] w fun e w' => e = .returned (.bool true) ∧ Nw w w' := by
 obtain ⟨b0, hb0⟩ : ∃ b0, b0 = w.heap.size := ⟨_, rfl⟩
 obtain ⟨V, hV⟩ : ∃ V, V = w.alloc (.cells o.cells 54) := ⟨_, rfl⟩
 have hfV : Nw w V := by rw [hV]; exact (Fr.refl _ w).alloc _
 have hC : Chg V b0 d o := ⟨h.ls.side.blk.nw hfV, by rw [hV, hb0]; exact Blk.new _ _ _⟩
 have HfV := hd hfV
 have HC := hd hC
 obtain ⟨a, ha⟩ : ∃ a, o.a = a := ⟨_, rfl⟩
 obtain ⟨b, hb⟩ : ∃ b, o.b = b := ⟨_, rfl⟩
 have hcell : ∀ w', Chg w' b0 d o → w'.cell? ⟨b0, 0, none⟩ = some (.int .i64 2) ∧ w'.cell? ⟨b0, 1, none⟩ = some (.int .i64 a) ∧ w'.cell? ⟨b0, 2, none⟩ = some (.int .i64 b) ∧ w'.cell? ⟨d.D, 0, none⟩ = some (.pointer (some ⟨d.X, 0, none⟩)) ∧ w'.cell? ⟨d.D, 2, none⟩ = some (.bool true) := fun w' hc => by
  refine ⟨(hc.k2.cell 0).trans ?_, (hc.k2.cell 1).trans ?_, (hc.k2.cell 2).trans ?_, hc.k1.cell 0, (hc.k1.cell 2).trans ?_⟩
  ·rw [← hk]; rfl
  ·rw [← ha]; rfl
  ·rw [← hb]; rfl
  ·rw [← h.bz]; rfl
 have Hcell := hd hcell
 obtain ⟨c0, c1, c2, _, c4⟩ := hcell V hC
 have hbl := hC.k2.lt
 have hDl := hC.k1.lt
 have Hcall := hd (fix_busy d.X a b V.drew (h.nw hfV).cells.1)
 clear h hC hcell hk ha hb hfV
 go_enter Tryz.func38, Tryz.ntmps38
 go_upto_region 1 with fail
 rw [← hV, ← hb0]
 clear hV hb0
 go_wp2_with fail
 have hK0 : Chg V.drew b0 d o := HC.out.nw ((Fr.refl _ V).drew)
 refine region_H chg6 10 (fun w'' => Chg w'' b0 d o) (by kernel_rfl) (by kernel_rfl) (by kernel_rfl) ?_
 refine take_at (i := 0) (d := some 16) (v := .pointer (some ⟨d.D, 0, none⟩)) (by kernel_rfl) (by kernel_rfl) (fun _ _ _ h => h) (fun w'' hS => by kernel_rfl) hK0 ?_
 refine take_at (i := 1) (d := some 17) (v := .pointer (some ⟨d.D, 0, none⟩)) (by kernel_rfl) (by kernel_rfl) (fun _ _ _ h => h) (fun w'' hS => by kernel_rfl) hK0 ?_
 refine take_at (i := 2) (d := some 18) (v := .pointer (some ⟨d.D, 0, none⟩)) (by kernel_rfl) (by kernel_rfl) (fun _ _ _ h => h) (fun w'' hS => by kernel_rfl) hK0 ?_
 refine take_at (i := 3) (d := some 19) (v := .pointer (some ⟨d.X, 0, none⟩)) (by kernel_rfl) (by kernel_rfl) (fun _ _ _ h => h) (fun w'' hS => exec_load 35 (.tmp 18) (by kernel_rfl) (by kernel_rfl) (by kernel_rfl) (Hcell.out w'' hS).2.2.2.1) hK0 ?_
 refine take_at (i := 4) (d := some 20) (v := .pointer (some ⟨b0, 1, none⟩)) (by kernel_rfl) (by kernel_rfl) (fun _ _ _ h => h) (fun w'' hS => by kernel_rfl) hK0 ?_
 refine take_at (i := 5) (d := some 21) (v := .int .i64 a) (by kernel_rfl) (by kernel_rfl) (fun _ _ _ h => h) (fun w'' hS => exec_load 3 (.tmp 20) (by kernel_rfl) (by kernel_rfl) (by kernel_rfl) (Hcell.out w'' hS).2.1) hK0 ?_
 refine take_at (i := 6) (d := some 22) (v := .pointer (some ⟨b0, 2, none⟩)) (by kernel_rfl) (by kernel_rfl) (fun _ _ _ h => h) (fun w'' hS => by kernel_rfl) hK0 ?_
 refine take_at (i := 7) (d := some 23) (v := .int .i64 b) (by kernel_rfl) (by kernel_rfl) (fun _ _ _ h => h) (fun w'' hS => exec_load 3 (.tmp 22) (by kernel_rfl) (by kernel_rfl) (by kernel_rfl) (Hcell.out w'' hS).2.2.1) hK0 ?_
 refine enter_at (i := 8) (d := some 24) (w' := V.drew) (f := 56) (args := #[.pointer (some ⟨d.X, 0, none⟩), .int .i64 a, .int .i64 b]) (by kernel_rfl) (by kernel_rfl) (by kernel_rfl) ?_
 refine Hcall.out.mono ?_
 rintro e w1 ⟨rfl, rfl⟩
 refine ⟨_, rfl, hK0, ?_⟩
 refine value_at (i := 9) (d := some 5) (v := .int .i64 5) (w' := V.drew) (by kernel_rfl) (by kernel_rfl) (by kernel_rfl) hK0 ?_
 refine wpAnyH_done (by kernel_rfl) ?_ _
 simp only [Act.put, List.setIfInBounds_toArray, List.set_cons_zero, List.set_cons_succ]
 clear hK0 c0 c1 c2
 go_wp2_with fail
 go_ret
 exact ⟨rfl, HfV.out.drew⟩

set_option maxHeartbeats 1600000 in
set_option maxRecDepth 1000000 in
theorem changes_removeB (W : World) (lo B : Nat) (L : LW) (d : Sd) (o : OpV) (w : World) (h : BS W w lo B L d) (hk : o.kind = 3) :
  Calls Tryz.prog 38 #[.pointer (some ⟨d.D, 0, none⟩), .agg o.cells] w fun e w' => e = .returned (.bool true) ∧ Nw w w' := by
 obtain ⟨b0, hb0⟩ : ∃ b0, b0 = w.heap.size := ⟨_, rfl⟩
 obtain ⟨V, hV⟩ : ∃ V, V = w.alloc (.cells o.cells 54) := ⟨_, rfl⟩
 have hfV : Nw w V := by rw [hV]; exact (Fr.refl _ w).alloc _
 have hC : Chg V b0 d o := ⟨h.ls.side.blk.nw hfV, by rw [hV, hb0]; exact Blk.new _ _ _⟩
 have HfV := hd hfV
 have HC := hd hC
 obtain ⟨a, ha⟩ : ∃ a, o.a = a := ⟨_, rfl⟩
 obtain ⟨b, hb⟩ : ∃ b, o.b = b := ⟨_, rfl⟩
 have hcell : ∀ w', Chg w' b0 d o → w'.cell? ⟨b0, 0, none⟩ = some (.int .i64 3) ∧ w'.cell? ⟨b0, 1, none⟩ = some (.int .i64 a) ∧ w'.cell? ⟨b0, 2, none⟩ = some (.int .i64 b) ∧ w'.cell? ⟨d.D, 0, none⟩ = some (.pointer (some ⟨d.X, 0, none⟩)) ∧ w'.cell? ⟨d.D, 2, none⟩ = some (.bool true) := fun w' hc => by
  refine ⟨(hc.k2.cell 0).trans ?_, (hc.k2.cell 1).trans ?_, (hc.k2.cell 2).trans ?_, hc.k1.cell 0, (hc.k1.cell 2).trans ?_⟩
  ·rw [← hk]; rfl
  ·rw [← ha]; rfl
  ·rw [← hb]; rfl
  ·rw [← h.bz]; rfl
 have Hcell := hd hcell
 obtain ⟨c0, c1, c2, _, c4⟩ := hcell V hC
 have hbl := hC.k2.lt
 have hDl := hC.k1.lt
 have Hcall := hd (remove_busy d.X a b V.drew (h.nw hfV).cells.1)
 clear h hC hcell hk ha hb hfV
 go_enter Tryz.func38, Tryz.ntmps38
 go_upto_region 1 with fail
 rw [← hV, ← hb0]
 clear hV hb0
 go_wp2_with fail
 have hK0 : Chg V.drew b0 d o := HC.out.nw ((Fr.refl _ V).drew)
 refine region_H chg7 10 (fun w'' => Chg w'' b0 d o) (by kernel_rfl) (by kernel_rfl) (by kernel_rfl) ?_
 refine take_at (i := 0) (d := some 25) (v := .pointer (some ⟨d.D, 0, none⟩)) (by kernel_rfl) (by kernel_rfl) (fun _ _ _ h => h) (fun w'' hS => by kernel_rfl) hK0 ?_
 refine take_at (i := 1) (d := some 26) (v := .pointer (some ⟨d.D, 0, none⟩)) (by kernel_rfl) (by kernel_rfl) (fun _ _ _ h => h) (fun w'' hS => by kernel_rfl) hK0 ?_
 refine take_at (i := 2) (d := some 27) (v := .pointer (some ⟨d.D, 0, none⟩)) (by kernel_rfl) (by kernel_rfl) (fun _ _ _ h => h) (fun w'' hS => by kernel_rfl) hK0 ?_
 refine take_at (i := 3) (d := some 28) (v := .pointer (some ⟨d.X, 0, none⟩)) (by kernel_rfl) (by kernel_rfl) (fun _ _ _ h => h) (fun w'' hS => exec_load 35 (.tmp 27) (by kernel_rfl) (by kernel_rfl) (by kernel_rfl) (Hcell.out w'' hS).2.2.2.1) hK0 ?_
 refine take_at (i := 4) (d := some 29) (v := .pointer (some ⟨b0, 1, none⟩)) (by kernel_rfl) (by kernel_rfl) (fun _ _ _ h => h) (fun w'' hS => by kernel_rfl) hK0 ?_
 refine take_at (i := 5) (d := some 30) (v := .int .i64 a) (by kernel_rfl) (by kernel_rfl) (fun _ _ _ h => h) (fun w'' hS => exec_load 3 (.tmp 29) (by kernel_rfl) (by kernel_rfl) (by kernel_rfl) (Hcell.out w'' hS).2.1) hK0 ?_
 refine take_at (i := 6) (d := some 31) (v := .pointer (some ⟨b0, 2, none⟩)) (by kernel_rfl) (by kernel_rfl) (fun _ _ _ h => h) (fun w'' hS => by kernel_rfl) hK0 ?_
 refine take_at (i := 7) (d := some 32) (v := .int .i64 b) (by kernel_rfl) (by kernel_rfl) (fun _ _ _ h => h) (fun w'' hS => exec_load 3 (.tmp 31) (by kernel_rfl) (by kernel_rfl) (by kernel_rfl) (Hcell.out w'' hS).2.2.1) hK0 ?_
 refine enter_at (i := 8) (d := some 33) (w' := V.drew) (f := 13) (args := #[.pointer (some ⟨d.X, 0, none⟩), .int .i64 a, .int .i64 b]) (by kernel_rfl) (by kernel_rfl) (by kernel_rfl) ?_
 refine Hcall.out.mono ?_
 rintro e w1 ⟨rfl, rfl⟩
 refine ⟨_, rfl, hK0, ?_⟩
 refine value_at (i := 9) (d := some 5) (v := .int .i64 5) (w' := V.drew) (by kernel_rfl) (by kernel_rfl) (by kernel_rfl) hK0 ?_
 refine wpAnyH_done (by kernel_rfl) ?_ _
 simp only [Act.put, List.setIfInBounds_toArray, List.set_cons_zero, List.set_cons_succ]
 clear hK0 c0 c1 c2
 go_wp2_with fail
 go_ret
 exact ⟨rfl, HfV.out.drew⟩

set_option maxHeartbeats 1600000 in
set_option maxRecDepth 1000000 in
theorem changes_pushB (W : World) (lo B : Nat) (L : LW) (d : Sd) (o : OpV) (w : World) (h : BS W w lo B L d) (hk : o.kind = 6) :
  Calls Tryz.prog 38 #[.pointer (some ⟨d.D, 0, none⟩), .agg o.cells] w fun e w' => e = .returned (.bool true) ∧ Nw w w' := by
 obtain ⟨b0, hb0⟩ : ∃ b0, b0 = w.heap.size := ⟨_, rfl⟩
 obtain ⟨V, hV⟩ : ∃ V, V = w.alloc (.cells o.cells 54) := ⟨_, rfl⟩
 have hfV : Nw w V := by rw [hV]; exact (Fr.refl _ w).alloc _
 have hC : Blk V b0 o.cells 54 := by rw [hV, hb0]; exact Blk.new _ _ _
 have HfV := hd hfV
 have c0 : V.cell? ⟨b0, 0, none⟩ = some (.int .i64 6) := (hC.cell 0).trans (by rw [← hk]; rfl)
 obtain ⟨e0, _, d0, d2, hDl⟩ := (h.nw hfV).cells
 have hbl := hC.lt
 have Hcall := hd (push_busy d.X V e0)
 clear h hC hk hfV
 go_enter Tryz.func38, Tryz.ntmps38
 go_upto_region 1 with fail
 rw [← hV, ← hb0]
 clear hV hb0
 go_wp2_with (go_at_call 61; refine Hcall.out.mono ?_; rintro e w1 ⟨rfl, rfl⟩)
 go_ret
 exact ⟨rfl, HfV.out⟩

set_option maxHeartbeats 1600000 in
set_option maxRecDepth 1000000 in
theorem changes_popB (W : World) (lo B : Nat) (L : LW) (d : Sd) (o : OpV) (w : World) (h : BS W w lo B L d) (hk : o.kind = 7) :
  Calls Tryz.prog 38 #[.pointer (some ⟨d.D, 0, none⟩), .agg o.cells] w fun e w' => e = .returned (.bool true) ∧ Nw w w' := by
 obtain ⟨b0, hb0⟩ : ∃ b0, b0 = w.heap.size := ⟨_, rfl⟩
 obtain ⟨V, hV⟩ : ∃ V, V = w.alloc (.cells o.cells 54) := ⟨_, rfl⟩
 have hfV : Nw w V := by rw [hV]; exact (Fr.refl _ w).alloc _
 have hC : Blk V b0 o.cells 54 := by rw [hV, hb0]; exact Blk.new _ _ _
 have HfV := hd hfV
 have c0 : V.cell? ⟨b0, 0, none⟩ = some (.int .i64 7) := (hC.cell 0).trans (by rw [← hk]; rfl)
 obtain ⟨e0, _, d0, d2, hDl⟩ := (h.nw hfV).cells
 have hbl := hC.lt
 have Hcall := hd (pop_busy d.X V e0)
 clear h hC hk hfV
 go_enter Tryz.func38, Tryz.ntmps38
 go_upto_region 1 with fail
 rw [← hV, ← hb0]
 clear hV hb0
 go_wp2_with (go_at_call 62; refine Hcall.out.mono ?_; rintro e w1 ⟨rfl, rfl⟩)
 go_ret
 exact ⟨rfl, HfV.out⟩

set_option maxHeartbeats 1600000 in
set_option maxRecDepth 1000000 in
theorem changes_lookB (W : World) (lo B : Nat) (L : LW) (d : Sd) (o : OpV) (w : World) (h : BS W w lo B L d) (hk : o.kind = 5) :
  Calls Tryz.prog 38 #[.pointer (some ⟨d.D, 0, none⟩), .agg o.cells] w fun e w' => e = .returned (.bool true) ∧ Nw w w' := by
 obtain ⟨b0, hb0⟩ : ∃ b0, b0 = w.heap.size := ⟨_, rfl⟩
 obtain ⟨V, hV⟩ : ∃ V, V = w.alloc (.cells o.cells 54) := ⟨_, rfl⟩
 have hfV : Nw w V := by rw [hV]; exact (Fr.refl _ w).alloc _
 have hC : Blk V b0 o.cells 54 := by rw [hV, hb0]; exact Blk.new _ _ _
 have HfV := hd hfV
 have c0 : V.cell? ⟨b0, 0, none⟩ = some (.int .i64 5) := (hC.cell 0).trans (by rw [← hk]; rfl)
 obtain ⟨e0, hXl, d0, _, hDl⟩ := (h.nw hfV).cells
 have Hc2 := hd (fun w' (f : Nw V w') => (show w'.cell? ⟨d.D, 2, none⟩ = some (.bool true) ∧ d.D < w'.heap.size from ⟨((h.nw hfV).nw f).cells.2.2.2.1, ((h.nw hfV).nw f).cells.2.2.2.2⟩))
 have hbl := hC.lt
 have Hcall := hd (look_busy d.X V e0 hXl)
 have heq : ∀ w' : World, (binOp .eql 110 (.agg #[.int .i64 0, .int .i64 0, .int .i64 0, .bool false, .int .i64 0, .int .i64 0]) (.agg #[.int .i64 0, .int .i64 0, .int .i64 0, .bool false, .int .i64 0, .int .i64 0])).run Tryz.prog w' = .ok (.bool true) w' := fun w' => eql_look 0 0 0 false 0 0 w'
 clear h hC hk hfV e0 hXl
 go_enter Tryz.func38, Tryz.ntmps38
 go_upto_region 1 with fail
 rw [← hV, ← hb0]
 clear hV hb0
 go_wp2_with (go_at_call 59; refine Hcall.out.mono ?_; rintro e w1 ⟨rfl, hf1⟩; obtain ⟨d2, hDl1⟩ := Hc2.out w1 hf1; have Hf1 := hd hf1; clear hf1)
 go_ret
 exact ⟨rfl, (HfV.out.trans Hf1.out (fun _ x => x.elim)).alloc _⟩
end Go.Proofs.YtkjfpdfkcfgfkaaGreat

namespace Go.Proofs.YtkjfpdfkcfgfkaaGreat
open Go.RowKit Go.Shelf

structure MarkEnd (w : World) (p Rb : Nat) (a : Act) (W : World) : Prop where
 ptr : a.tmps.getD p undef = .pointer (some ⟨Rb, 0, none⟩)
 cell : W.cell? ⟨Rb, 0, none⟩ = some (.bool true)
 mark : ∃ D, a.defers = [mark D] ∧ W.heap[D]? = some (.deferred (some [])) ∧ w.heap.size ≤ D
 nw : Nw w W
def markPost (w : World) (p Rb : Nat) : Exit → Act → World → Prop
 | .normal, a, W | .ret, a, W => MarkEnd w p Rb a W
 | _, _, _ => False
theorem calls_marks {f : FuncId} {fn : Func} {c : Code} {args : Array Value} {w : World} {p Rb : Nat} (hf : Tryz.prog.funcs[f]? = some fn) (hb : fn.body = some c) (hr : fn.results = #[.cell p 4])
  (h : c.wp Tryz.prog (markPost w p Rb) { tmps := args ++ Array.replicate (fn.ntmps - args.size) undef, defers := [] } w) : Calls Tryz.prog f args w fun e w' => e = .returned (.bool true) ∧ Nw w w' := by
 have key : ∀ (a : Act) (W : World), MarkEnd w p Rb a W → LeavesInM Fence.wide 9 Tryz.prog fn a.tmps (fun e w' => e = .returned (.bool true) ∧ Nw w w') a.defers .returning W := fun a W hm => by
  obtain ⟨D, hD, hK, hs⟩ := hm.mark
  rw [hD]
  refine ⟨by simp, .inl ⟨_, _, rfl, run_takeDeferred hK, ?_⟩⟩
  have hpD : Fr (fun k => k = D) W (W.putObj D (.deferred none)) := (Fr.refl (fun k => k = D) W).grown (grownBy_putObj' W D _) (fun k hk => by cases hk; exact .inl rfl)
  have hne : Rb ≠ D := fun e => by
   have hc := hm.cell
   rw [e] at hc
   unfold World.cell? at hc
   rw [hK] at hc
   cases hc
  have hlt : Rb < W.heap.size := by
   refine Classical.byContradiction fun hn => ?_
   have hc := hm.cell
   unfold World.cell? at hc
   rw [Array.getElem?_eq_none (show W.heap.size ≤ Rb by omega)] at hc
   cases hc
  refine ⟨_, results_cell1 (v := .bool true) hr hm.ptr (by kernel_rfl) ((hpD.cell hlt hne).trans hm.cell), rfl, hm.nw.trans hpD (fun i h => .inr (by omega))⟩
 refine (callsIn_wide (n := 9)).1 ?_
 refine callsIn_of_wp_marks hf hb trivial (wpIn_wide.2 (Code.wp_mono (fun e a W hq => ?_) h)) rfl
 cases e with
 | normal => exact key a W hq
 | ret => exact key a W hq
 | _ => exact False.elim hq

theorem wp_sols2 {n X : Nat} {zs : List Int} {s : WS} {g : Operand} {t : Tmp} {assign body : Code} {Q : Exit → Act → World → Prop} {a : Act} {w : World} (t2 : Tmp)
  (hg : a.eval g = .func (.func 77) #[.pointer (some ⟨X, 0, none⟩)] #[]) (hA : WAt w X zs s) (hbz : s.l.busy = false)
  (hassign : ∀ (l : Nat) (v : Value) (W : World) (K : Act → World → Prop), K { tmps := (a.tmps.setIfInBounds t v).setIfInBounds t2 v, defers := [] } W → assign.wpIn (Fence.wide.inRound l) (n - 1 - 1) Tryz.prog (Exit.then K (fun _ _ _ => False)) { tmps := a.tmps.setIfInBounds t v, defers := [] } W)
  (I : List (List Nat) → (Nat → Prop) → World → Prop) (hI : SolInv X w.heap.size I) (C : Nat → Prop) (hC : ∀ k, s.own X k → ¬ C k) (h0 : I [] C w)
  (hround : ∀ (l : Nat) (done : List (List Nat)) (C : Nat → Prop) (x : List Nat) (b cap : Nat) (W : World), (done ++ [x]) <+: solN s.d s.bs zs.length [] → I done C W → WAt W X zs (s.busyAs true) → w.heap.size ≤ b → ¬ C b → Row W (.slice (some ⟨b, 0, none⟩) x.length cap) 3 (ints x) →
   body.wpIn (Fence.wide.inRound l) (n - 1 - 1) Tryz.prog (solPost (I (done ++ [x])) (fun _ _ => False) 0 C b W) { tmps := (a.tmps.setIfInBounds t (.slice (some ⟨b, 0, none⟩) x.length cap)).setIfInBounds t2 (.slice (some ⟨b, 0, none⟩) x.length cap), defers := [] } W)
  (hdone : ∀ (D : Nat) (C' : Nat → Prop) (W : World), w.heap.size ≤ D → (∀ k, C' k → C k ∨ w.heap.size ≤ k) → I (solN s.d s.bs zs.length []) C' W → WAt W X zs s → Fr (fun k => C k ∨ k = X) w W → W.heap[D]? = some (.deferred (some [])) → Q .normal { a with defers := mark D :: a.defers } W) :
  (Code.rangeFunc g #[t] assign body).wp Tryz.prog Q a w := by
 refine (wpIn_wide (n := n)).1 ?_
 exact wp_sols (id := 0) (zs := zs) (s := s) (fun v => { tmps := (a.tmps.setIfInBounds t v).setIfInBounds t2 v, defers := [] }) hg hA hbz hA.pos hassign I (fun _ _ _ => False) hI ⟨fun _ _ _ _ _ h => h.elim, fun _ _ _ _ h => h.elim⟩ C hC h0 hround hdone (fun _ _ _ _ _ _ _ _ h => h.elim)

theorem exec_neI {ev : Operand → Value} {o : Oper} {w : World} (a b : Int) (r : Bool) (x y : Operand) (ho : o.op = .binOp .neq 3 x y 3) (hx : ev x = .int .i64 a) (hy : ev y = .int .i64 b) (hr : (!(a == b)) = r) : (execOp ev o).run Tryz.prog w = .ok (.value (.bool r)) w := by
 have h2 : (eqGuard .neq 3 x y (.int .i64 a) (.int .i64 b)).run Tryz.prog w = .ok () w := by kernel_rfl
 have h3 : (binOp .neq 3 (.int .i64 a) (.int .i64 b)).run Tryz.prog w = .ok (.bool (!(a == b))) w := by kernel_rfl
 unfold execOp
 simp [ho, hx, hy, h2, h3, hr, Result.andThen]
theorem prefix_last {α : Type} {done all : List α} {x d : α} (h : (done ++ [x]) <+: all) : done.length < all.length ∧ all.getD done.length d = x ∧ x ∈ all := by
 obtain ⟨r, rfl⟩ := h
 refine ⟨by simp, ?_, by simp⟩
 simp [List.getD]
end Go.Proofs.YtkjfpdfkcfgfkaaGreat

namespace Go.Proofs.YtkjfpdfkcfgfkaaGreat
open Go.RowKit Go.Shelf

set_option maxHeartbeats 800000 in
set_option maxRecDepth 1000000 in
theorem goThrough_busy (X L : Nat) (w : World) (hcb : w.cell? ⟨X, 12, none⟩ = some (.bool true)) (hXl : X < w.heap.size) :
  Calls Tryz.prog 77 #[.pointer (some ⟨X, 0, none⟩), .func (.yield L) #[] #[]] w fun e w' => (∃ v, e = .returned v) ∧ Nw w w' := by
 obtain ⟨V, hV⟩ : ∃ V, V = w.alloc (.cells #[.pointer (some ⟨X, 0, none⟩)] 35) := ⟨_, rfl⟩
 have hfV : Nw w V := by rw [hV]; exact (Fr.refl _ w).alloc _
 have hb : Blk V w.heap.size #[.pointer (some ⟨X, 0, none⟩)] 35 := by rw [hV]; exact Blk.new _ _ _
 have c0 : V.cell? ⟨w.heap.size, 0, none⟩ = some (.pointer (some ⟨X, 0, none⟩)) := hb.cell 0
 have c1 : V.cell? ⟨X, 12, none⟩ = some (.bool true) := (hfV.cell hXl (fun x => x)).trans hcb
 have hbl := hb.lt
 have hXl1 := Nat.lt_of_lt_of_le hXl hfV.size
 have HfV := hd hfV
 clear hb hfV hcb hXl
 go_enter Tryz.func77, Tryz.ntmps77
 go_upto_region 1 with fail
 rw [← hV]
 clear hV
 go_wp2_with fail
 exact bodyPost_ret (v := .tuple #[]) (results_none rfl _ _ _) rfl ⟨⟨_, rfl⟩, HfV.out⟩

set_option maxHeartbeats 800000 in
theorem wp_sols_none {n X : Nat} {g : Operand} {ps : Array Tmp} {assign body : Code} {Q : Exit → Act → World → Prop} {a : Act} {w : World}
  (hg : a.eval g = .func (.func 77) #[.pointer (some ⟨X, 0, none⟩)] #[]) (hcb : w.cell? ⟨X, 12, none⟩ = some (.bool true)) (hXl : X < w.heap.size)
  (hdone : ∀ (D : Nat) (W : World), w.heap.size ≤ D → Nw w W → W.heap[D]? = some (.deferred (some [])) → Q .normal { a with defers := mark D :: a.defers } W) :
  (Code.rangeFunc g ps assign body).wp Tryz.prog Q a w := by
 refine (wpIn_wide (n := n)).1 ?_
 refine wpIn_rangeFunc ?_
 intro fn hfn
 obtain ⟨rec, hrec⟩ : ∃ rec : LoopState → Option Code → Loop, rec = fun st pe => { state := st, pending := pe, fn, tmps := a.tmps, params := ps, assign, body, defers := w.heap.size } := ⟨_, rfl⟩
 obtain ⟨W1, hW1⟩ : ∃ W1, (w.alloc (.deferred (some []))).alloc (.loop (rec .ready none)) = W1 := ⟨_, rfl⟩
 have hf1 : Nw w W1 := by rw [← hW1]; exact ((Fr.refl _ w).alloc _).alloc _
 have hs1 : W1.heap.size = w.heap.size + 2 := by rw [← hW1]; simp
 have hL1 : W1.heap[w.heap.size + 1]? = some (.loop (rec .ready none)) := by
  rw [← hW1]
  have := heap_alloc_new (w.alloc (.deferred (some []))) (.loop (rec .ready none))
  simpa using this
 have hK1 : W1.heap[w.heap.size]? = some (.deferred (some [])) := by
  rw [← hW1]; exact (Below.heap_alloc _ _ _ (by simp)).trans (heap_alloc_new w _)
 refine ⟨w.heap.size + 1, [mark w.heap.size], W1, { target := .fn (.func 77) #[], args := #[.pointer (some ⟨X, 0, none⟩), .func (.yield (w.heap.size + 1)) #[] #[]] }, W1, 77,
  #[.pointer (some ⟨X, 0, none⟩), .func (.yield (w.heap.size + 1)) #[] #[]], W1, ?_, ?_, ?_, ?_, (fun h => by cases h), ?_⟩
 ·rw [← hW1, hrec]; exact run_enterLoop_outer _ _ _ _ _
 ·simp only [resolve, hg]
  simp [go_sem]
 ·intro f' _; trivial
 ·simp [invoke, go_sem]
 ·refine (callsIn_wide.2 (goThrough_busy X (w.heap.size + 1) W1 ((hf1.cell hXl (fun x => x)).trans hcb) (Nat.lt_of_lt_of_le hXl hf1.size))).mono ?_
  rintro e W2 ⟨⟨v, rfl⟩, hf2⟩
  have hl2 : W2.heap[w.heap.size + 1]? = some (.loop (rec .ready none)) := (hf2.block _ (by omega) (fun x => x)).trans hL1
  have hk2 : W2.heap[w.heap.size]? = some (.deferred (some [])) := (hf2.block _ (by omega) (fun x => x)).trans hK1
  have hp : Fr (fun k => k = w.heap.size + 1) W2 (W2.putObj (w.heap.size + 1) (.loop { rec .ready none with state := .exhausted })) := (Fr.refl (fun k => k = w.heap.size + 1) W2).grown (grownBy_putObj' W2 _ _) (fun k hk => by cases hk; exact .inl rfl)
  refine ⟨none, _, ?_, hdone w.heap.size _ (Nat.le_refl _) ((hf1.trans hf2 (fun _ x => x.elim)).trans hp (fun i h => .inr (by omega))) ((World.putObj_heap_other (by omega)).trans hk2)⟩
  have := run_endLoop (P := Tryz.prog) hl2 (by rw [hrec]; simp)
  rw [hrec] at this ⊢
  exact this
structure MarksEnd (w : World) (R : Value → World → Prop) (fn : Func) (a : Act) (W : World) : Prop where
 ex : ∃ Ds : List Nat, a.defers = Ds.map mark ∧ Ds.Nodup ∧ (∀ D ∈ Ds, W.heap[D]? = some (.deferred (some []))) ∧ ∀ W', Fr (fun k => k ∈ Ds) W W' → ∃ v, (results fn a.tmps).run Tryz.prog W' = .ok v W' ∧ R v W'
def marksPost (w : World) (R : Value → World → Prop) (fn : Func) : Exit → Act → World → Prop
 | .normal, a, W | .ret, a, W => MarksEnd w R fn a W
 | _, _, _ => False
theorem leaves_all {fn : Func} {tmps : Array Value} {R : Value → World → Prop} : ∀ (Ds : List Nat) (W : World), Ds.Nodup → (∀ D ∈ Ds, W.heap[D]? = some (.deferred (some []))) → (∀ W', Fr (fun k => k ∈ Ds) W W' → ∃ v, (results fn tmps).run Tryz.prog W' = .ok v W' ∧ R v W') → LeavesInM Fence.wide 9 Tryz.prog fn tmps (fun e w' => ∃ v, e = .returned v ∧ R v w') (Ds.map mark) .returning W
 | [], W, _, _, h => by
  obtain ⟨v, h1, h2⟩ := h W (Fr.refl _ _)
  exact ⟨_, h1, _, rfl, h2⟩
 | D :: Ds, W, hn, hk, h => by
  have hK := hk D (List.mem_cons_self ..)
  have hpD : Fr (fun k => k = D) W (W.putObj D (.deferred none)) := (Fr.refl (fun k => k = D) W).grown (grownBy_putObj' W D _) (fun k hk => by cases hk; exact .inl rfl)
  obtain ⟨hn1, hn2⟩ := List.nodup_cons.1 hn
  have ih := leaves_all (fn := fn) (tmps := tmps) (R := R) Ds (W.putObj D (.deferred none)) hn2 (fun E hE => (hpD.block E (lt_of_block (hk E (List.mem_cons_of_mem _ hE))) (fun e => hn1 (by rw [← e]; exact hE))).trans (hk E (List.mem_cons_of_mem _ hE))) (fun W' f => h W' ((hpD.mono (fun i hi => .inl (by rw [hi]; exact List.mem_cons_self ..))).trans f (fun i hi => .inl (List.mem_cons_of_mem _ hi))))
  exact ⟨by simp, .inl ⟨_, _, rfl, run_takeDeferred hK, ih⟩⟩
theorem calls_marksR {f : FuncId} {fn : Func} {c : Code} {args : Array Value} {w : World} {R : Value → World → Prop} (hf : Tryz.prog.funcs[f]? = some fn) (hb : fn.body = some c)
  (h : c.wp Tryz.prog (marksPost w R fn) { tmps := args ++ Array.replicate (fn.ntmps - args.size) undef, defers := [] } w) : Calls Tryz.prog f args w fun e w' => ∃ v, e = .returned v ∧ R v w' := by
 have key : ∀ (a : Act) (W : World), MarksEnd w R fn a W → LeavesInM Fence.wide 9 Tryz.prog fn a.tmps (fun e w' => ∃ v, e = .returned v ∧ R v w') a.defers .returning W := fun a W hm => by
  obtain ⟨Ds, hD, hn, hk, hr⟩ := hm.ex
  rw [hD]
  exact leaves_all Ds W hn hk hr
 refine (callsIn_wide (n := 9)).1 ?_
 refine callsIn_of_wp_marks hf hb trivial (wpIn_wide.2 (Code.wp_mono (fun e a W hq => ?_) h)) rfl
 cases e with
 | normal => exact key a W hq
 | ret => exact key a W hq
 | _ => exact False.elim hq
end Go.Proofs.YtkjfpdfkcfgfkaaGreat

namespace Go.Proofs.YtkjfpdfkcfgfkaaGreat
open Go.RowKit Go.Shelf

structure PlB (W w w' : World) (lo B : Nat) (L L' : LW) (d d' : Sd) (n : Nat) : Prop where
 bs : BS W w' lo B L' d'
 fr : Fr (fun k => L.own B k ∨ k = d.D) w w'
 growL : ∀ k, L'.own B k → L.own B k ∨ w.heap.size ≤ k
 same : ∃ lt, d' = { d with lt := lt } ∧ (lt = d.lt ∨ lt = .func (.func 77) #[.pointer (some ⟨d.X, 0, none⟩)] #[])
 ss : L'.ss = L.ss
 four : L'.nums.length % 4 = L.nums.length % 4
 cost : Cost L L' n
theorem PlB.nw {W w w' : World} {lo B : Nat} {L : LW} {d : Sd} (n : Nat) (h : BS W w lo B L d) (f : Nw w w') : PlB W w w' lo B L L d d n := ⟨h.nw f, f.mono (fun _ x => x.elim), fun _ h => .inl h, ⟨d.lt, rfl, .inl rfl⟩, rfl, rfl, by omega, by omega, by omega⟩
theorem PlB.set {W w w1 : World} {lo B rb : Nat} {L L' : LW} {d d' : Sd} {n : Nat} {cur : Array Value} {V : World} (hf : Nw w V) (hrb : w.heap.size ≤ rb) (hrV : rb < V.heap.size) (h0 : LS W w lo B L d) (hb : Blk w1 rb cur 4) (x : Value) (h : PlB W V w1 lo B L L' d d' n) : PlB W w (w1.setCell ⟨rb, 0, none⟩ x) lo B L L' d d' n := by
 have hfs : Fr (fun k => k = rb) w1 (w1.setCell ⟨rb, 0, none⟩ x) := (Fr.refl (fun k => k = rb) w1).setCell _ _ (.inl rfl)
 have hlw := h0.env.le
 have hlb := h0.env.base
 have hsz := hf.size
 obtain ⟨lt, hd', hlt⟩ := h.same
 have hL1 : ¬ L'.own B rb := fun ho => by
  rcases h.growL rb ho with h2 | h2
  ·have := h0.law.lt rb h2
   omega
  ·omega
 have hd1 : ¬ d'.own rb := fun ho => by
  have : d.own rb := by rw [hd'] at ho; exact ho
  have := h0.side.lt this
  omega
 refine ⟨⟨⟨⟨hlb, h.bs.ls.env.nw.trans hfs (fun i hi => .inr (by omega)), Nat.le_trans h.bs.ls.env.le hfs.size⟩, h.bs.ls.law.fr hfs (fun k hk e => hL1 (by rw [← e]; exact hk)), h.bs.ls.side.fr hfs (fun k hk e => hd1 (by rw [← e]; exact hk)) (Only.one hb) (by decide), h.bs.ls.apart⟩, h.bs.bz⟩, ((hf.mono (fun _ x => x.elim)).trans h.fr (fun i hi => .inl hi)).trans hfs (fun i hi => .inr (by omega)), fun k hk => ?_, h.same, h.ss, h.four, h.cost⟩
 rcases h.growL k hk with h2 | h2
 ·exact .inl h2
 ·exact .inr (by omega)
theorem PlB.blk {W w V w1 : World} {lo B rb : Nat} {L L' : LW} {d d' : Sd} {n : Nat} {cur : Array Value} (hrb : w.heap.size ≤ rb) (h0 : LS W w lo B L d) (hb : Blk V rb cur 4) (h : PlB W V w1 lo B L L' d d' n) : Blk w1 rb cur 4 := hb.fr h.fr (fun ho => by
 rcases ho with ho | ho
 ·have := h0.law.lt rb ho
  omega
 ·have := h0.side.blk.lt
  omega)
def PlainB (W w : World) (lo B : Nat) (L : LW) (d : Sd) (n : Nat) (e : Ending) (w' : World) : Prop := e = .returned (.bool true) ∧ ∃ L' d', PlB W w w' lo B L L' d d' n

theorem BS.late {W w : World} {lo B : Nat} {L : LW} {d : Sd} (h : BS W w lo B L d) (x : Value) : BS W (w.setCell ⟨d.D, 4, none⟩ x) lo B L { d with lt := x } := by
 have hfs : Fr (fun k => k = d.D) w (w.setCell ⟨d.D, 4, none⟩ x) := (Fr.refl (fun k => k = d.D) w).setCell _ _ (.inl rfl)
 have hl := h.ls.side.dlo
 have hbs := h.ls.env.base
 have hp := h.ls.side.pair
 have hDs : ¬ d.s.own d.X d.D := fun ho => by
  obtain ⟨cur, e, hb, he⟩ := hp.at_.mem.ty ho
  rw [(hb.inj h.ls.side.blk).2] at he
  exact absurd he (by decide)
 have hDr : ∀ k, d.R.own d.Y k → k ≠ d.D := fun k hk e => by
  rcases hp.ref.ty hk with h1 | ⟨cur, e', hb, he⟩
  ·obtain ⟨cur, hb, _⟩ := hp.ref.rin.sz.blk h1
   rw [e] at hb
   exact absurd (hb.inj h.ls.side.blk).2 (by decide)
  ·rw [e] at hb
   rw [(hb.inj h.ls.side.blk).2] at he
   exact absurd he (by decide)
 refine ⟨⟨⟨hbs, h.ls.env.nw.trans hfs (fun i hi => .inr (by omega)), Nat.le_trans h.ls.env.le hfs.size⟩, h.ls.law.fr hfs (fun k hk e => h.ls.apart k hk (.inl e)), ⟨?_, ⟨hp.at_.fr hfs (fun k hk e => hDs (by rw [← e]; exact hk)) (Only.one h.ls.side.blk) (by decide), hp.ref.fr hfs hDr, hp.busy, hp.now, hp.tabs, hp.levs, hp.szn, hp.xlo⟩, hl⟩, h.ls.apart⟩, h.bz⟩
 have := h.ls.side.blk.set 4 x
 simpa [Sd.cells] using this

set_option maxHeartbeats 1600000 in
set_option maxRecDepth 1000000 in
theorem plainB_going (W : World) (lo B : Nat) (L : LW) (d : Sd) (a b : Int) (vo : Option Addr) (vcap : Nat) (ro : Option Addr) (rcap : Nat) (vars : List Int) (rows : List (List Int)) (nt : Bool) (way : Int) (which : Bool) (fv mv : Value) (w : World) (h : BS W w lo B L d) (hsq : d.sq = .func (.func 77) #[.pointer (some ⟨d.X, 0, none⟩)] #[]) :
  Calls Tryz.prog 35 #[.pointer (some ⟨B, 0, none⟩), .pointer (some ⟨d.D, 0, none⟩), .agg #[.int .i64 9, .int .i64 a, .int .i64 b, .slice vo vars.length vcap, .slice ro rows.length rcap, .bool nt, .int .i64 way, .bool which, fv, mv]] w (PlainB W w lo B L d rows.length) := by
 refine (calls_marksR (R := fun v w' => v = .bool true ∧ ∃ L' d', PlB W w w' lo B L L' d d' rows.length) Tryz.func35 rfl ?_).mono (fun e w' ⟨v, he, hv, hp⟩ => ⟨by rw [he, hv], hp⟩)
 simp only [Tryz.ntmps35, List.size_toArray, List.length_cons, List.length_nil, Nat.reduceAdd, Nat.reduceSub, Array.replicate_succ, Array.replicate_zero, List.push_toArray, List.append_toArray, List.nil_append, List.cons_append]
 obtain ⟨b0, hb0⟩ : ∃ b0, b0 = w.heap.size := ⟨_, rfl⟩
 obtain ⟨rb, hrb⟩ : ∃ rb, rb = w.heap.size + 1 := ⟨_, rfl⟩
 obtain ⟨V, hV⟩ : ∃ V, V = (w.alloc (.cells #[.int .i64 9, .int .i64 a, .int .i64 b, .slice vo vars.length vcap, .slice ro rows.length rcap, .bool nt, .int .i64 way, .bool which, fv, mv] 54)).alloc (.cells #[.bool false] 4) := ⟨_, rfl⟩
 have hP : PlAt w V b0 rb ⟨9, a, b, vo, vcap, ro, rcap, vars, rows, nt, way, which, fv, mv⟩ := by rw [hV, hb0, hrb]; exact PlAt.new w ⟨9, a, b, vo, vcap, ro, rcap, vars, rows, nt, way, which, fv, mv⟩
 have hBV := h.nw hP.nw
 have c0 : V.cell? ⟨b0, 0, none⟩ = some (.int .i64 9) := hP.k0.cell 0
 have hbl := hP.k0.lt
 obtain ⟨x0, hXl, d0, d2, hDl⟩ := hBV.cells
 have hDf := hBV.ls.side.blk.free 4
 have hD4 : V.cell? ⟨d.D, 4, none⟩ = some d.lt := hBV.ls.side.blk.cell 4
 have Hcall := hd (solutions_any d.X V)
 have heqn : ∀ w' : World, (binOp .eql 50 (.func (.func 77) #[.pointer (some ⟨d.X, 0, none⟩)] #[]) .nilFunc).run Tryz.prog w' = .ok (.bool false) w' := fun w' => by kernel_rfl
 have HP := hd hP
 have H := hd h
 have HV := hd hBV
 have Hsq := hd hsq
 have hst := store_func (w := V) (a := ⟨d.D, 4, none⟩) (.func 77) #[.pointer (some ⟨d.X, 0, none⟩)] #[] hD4 hDf
 have HB2 := hd (hBV.late (.func (.func 77) #[.pointer (some ⟨d.X, 0, none⟩)] #[]))
 clear h hP hBV hsq
 go_upto_region 1 with fail
 rw [← hV, ← hrb, ← hb0]
 clear hV hb0 hrb
 go_wp2_with (go_at_call 50; refine Hcall.out.mono ?_; rintro e w1 ⟨rfl, rfl⟩)
 obtain ⟨w2, hw2⟩ : ∃ w2, w1.setCell ⟨d.D, 4, none⟩ (.func (.func 77) #[.pointer (some ⟨d.X, 0, none⟩)] #[]) = w2 := ⟨_, rfl⟩
 rw [hw2] at HB2 ⊢
 have hf2 : Fr (fun k => k = d.D) w1 w2 := by rw [← hw2]; exact (Fr.refl (fun k => k = d.D) w1).setCell _ _ (.inl rfl)
 have HF2 := hd hf2
 obtain ⟨y0, yXl, _, _, _⟩ := HB2.out.cells
 have hrbD : rb ≠ d.D := fun e => by
  have := H.out.ls.side.blk.lt
  have := HP.out.lo
  omega
 have HrbD := hd hrbD
 have Hb2 := hd (HP.out.k1.fr hf2 hrbD)
 clear hw2 hst hD4 hDf d0 d2 c0 x0 hXl hf2 hrbD Hcall
 refine wp_sols_none (n := 9) rfl y0 yXl (fun D1 w3 hD1 hf3 hk3 => ?_)
 have HB3 := hd (HB2.out.nw hf3)
 have HF3 := hd hf3
 have HK3 := hd hk3
 have HD1 := hd hD1
 have s3 : w3.cell? ⟨d.D, 3, none⟩ = some (.func (.func 77) #[.pointer (some ⟨d.X, 0, none⟩)] #[]) := (HB3.out.ls.side.blk.cell 3).trans (by rw [← Hsq.out]; rfl)
 have hDl3 := HB3.out.ls.side.blk.lt
 clear hf3 hk3 hD1 y0 yXl
 go_wp2_with fail
 obtain ⟨y0, yXl, _, _, _⟩ := HB3.out.cells
 refine wp_sols_none (n := 9) rfl y0 yXl (fun D2 w4 hD2 hf4 hk4 => ?_)
 have hb4 := ((Hb2.out.nw HF3.out).nw hf4)
 have hb4f := hb4.free 0
 have hb4c : w4.cell? ⟨rb, 0, none⟩ = some (.bool false) := hb4.cell 0
 have hb4l := hb4.lt
 have HB4 := hd (HB3.out.nw hf4)
 have HF4 := hd hf4
 have HK4 := hd hk4
 have HD2 := hd hD2
 have Hb4 := hd hb4
 clear hf4 hk4 hD2 y0 yXl s3 hDl3 hb4
 go_wp2_with fail
 have hk1' : w4.heap[D1]? = some (.deferred (some [])) := (HF4.out.block _ (lt_of_block HK3.out) (fun x => x)).trans HK3.out
 have hne12 : D2 ≠ D1 := fun e => by
  have := lt_of_block HK3.out
  have := HD2.out
  omega
 have hrbk : ∀ D, w4.heap[D]? = some (.deferred (some [])) → D ≠ rb := fun D hD e => by
  rw [e] at hD
  have hb : w4.heap[rb]? = some (.cells #[.bool false] 4 (0, 0)) := Hb4.out
  rw [hb] at hD
  cases hD
 have hset : ∀ D, D ≠ rb → (w4.setCell ⟨rb, 0, none⟩ (.bool true)).heap[D]? = w4.heap[D]? := fun D hD => by
  have hfs : Fr (fun k => k = rb) w4 (w4.setCell ⟨rb, 0, none⟩ (.bool true)) := (Fr.refl (fun k => k = rb) w4).setCell _ _ (.inl rfl)
  by_cases hl : D < w4.heap.size
  ·exact hfs.block D hl hD
  ·rw [Array.getElem?_eq_none (by simp; omega), Array.getElem?_eq_none (by omega)]
 refine ⟨[D2, D1], rfl, by simp [hne12], fun D hD => ?_, fun W' hW' => ?_⟩
 ·simp only [List.mem_cons, List.not_mem_nil, or_false] at hD
  rcases hD with rfl | rfl
  ·exact (hset _ (hrbk _ HK4.out)).trans HK4.out
  ·exact (hset _ (hrbk _ hk1')).trans hk1'
 ·have hfs : Fr (fun k => k = rb) w4 (w4.setCell ⟨rb, 0, none⟩ (.bool true)) := (Fr.refl (fun k => k = rb) w4).setCell _ _ (.inl rfl)
  have hS : Fr (fun k => k = rb ∨ k = D2 ∨ k = D1) w4 W' := (hfs.mono (fun k hk => .inl (.inl hk))).trans hW' (fun k hk => .inl (by
   simp only [List.mem_cons, List.not_mem_nil, or_false] at hk
   exact .inr hk))
  have hrlo := HP.out.lo
  have hs1 := HP.out.nw.size
  have hs2 := HF2.out.size
  have hs3 := HF3.out.size
  have hD1' := HD1.out
  have hD2' := HD2.out
  have hSlo : ∀ k, (k = rb ∨ k = D2 ∨ k = D1) → w.heap.size ≤ k := fun k hk => by
   rcases hk with hk | hk | hk <;> omega
  have hcell : W'.cell? ⟨rb, 0, none⟩ = some (.bool true) := by
   have hb : Blk (w4.setCell ⟨rb, 0, none⟩ (.bool true)) rb #[.bool true] 4 := Hb4.out.set 0 (.bool true)
   refine (hb.fr hW' (fun hk => ?_)).cell 0
   simp only [List.mem_cons, List.not_mem_nil, or_false] at hk
   rcases hk with hk | hk
   ·exact hrbk _ HK4.out hk.symm
   ·exact hrbk _ hk1' hk.symm
  refine ⟨.bool true, results_cellK (b := rb) (off := 0) rfl rfl (by kernel_rfl) hcell, rfl, L, { d with lt := .func (.func 77) #[.pointer (some ⟨d.X, 0, none⟩)] #[] }, ?_⟩
  have h4 := HB4.out
  have hlb := H.out.ls.env.base
  have hle := H.out.ls.env.le
  have hon : Only w4 (fun k => k = rb ∨ k = D2 ∨ k = D1) [4] := fun k cur e hk hb => by
   rcases hk with rfl | rfl | rfl
   ·rw [(hb.inj Hb4.out).2]
    decide
   ·have hb' : w4.heap[k]? = some (.cells cur e (0, 0)) := hb
    rw [HK4.out] at hb'
    cases hb'
   ·have hb' : w4.heap[k]? = some (.cells cur e (0, 0)) := hb
    rw [hk1'] at hb'
    cases hb'
  refine ⟨⟨⟨⟨hlb, h4.ls.env.nw.trans hS (fun k hk => .inr (by have := hSlo k hk; omega)), Nat.le_trans h4.ls.env.le hS.size⟩, h4.ls.law.fr hS (fun k hk hs => ?_), h4.ls.side.fr hS (fun k hk hs => ?_) hon (by decide), h4.ls.apart⟩, h4.bz⟩, ?_, fun k hk => .inl hk, ⟨_, rfl, .inr rfl⟩, rfl, rfl, by omega, by omega, by omega⟩
  ·have := H.out.ls.law.lt k hk
   have := hSlo k hs
   omega
  ·have := H.out.ls.side.lt (show d.own k from hk)
   have := hSlo k hs
   omega
  ·refine ((((HP.out.nw.mono (fun _ x => x.elim)).trans HF2.out (fun k hk => .inl (.inr hk))).trans HF3.out (fun _ x => x.elim)).trans HF4.out (fun _ x => x.elim)).trans hS (fun k hk => .inr (hSlo k hk))

theorem plainB_any (W : World) (lo B : Nat) (L : LW) (d : Sd) (o : OpV) (w : World) (h : BS W w lo B L d) (hsq : d.sq = .func (.func 77) #[.pointer (some ⟨d.X, 0, none⟩)] #[]) (ho : OpOk W o) (hr : LRoom L) :
  Calls Tryz.prog 35 #[.pointer (some ⟨B, 0, none⟩), .pointer (some ⟨d.D, 0, none⟩), .agg o.cells] w (PlainB W w lo B L d o.rows.length) := by
 by_cases hk : 1 ≤ o.kind ∧ o.kind ≤ 8
 ·refine (plain_by B d.D o w (fun V w1 => ∃ L' d', PlB W V w1 lo B L L' d d' o.rows.length) hk.1 hk.2 (fun V hf => ?_) (fun V w1 rb cur hf ⟨L', d', h1⟩ hrb hb => h1.blk hrb h.ls hb)).mono ?_
  ·have hV := h.nw hf
   have hch : ∀ {e : Ending} {w1 : World}, (e = .returned (.bool true) ∧ Nw V w1) → e = .returned (.bool true) ∧ ∃ L' d', PlB W V w1 lo B L L' d d' o.rows.length := fun ⟨h1, h2⟩ => ⟨h1, L, d, PlB.nw _ hV h2⟩
   by_cases k1 : o.kind = 1
   ·rw [plCall, if_pos k1]
    refine (posts_all W lo B L d o.vo o.ro o.vcap o.rcap o.vars o.rows o.nt o.way V hV.ls ho.vs ho.rs ho.vl ho.rl ho.rr hr.t hr.r).mono ?_
    rintro e w1 ⟨rfl, L', d', h1, h2, h3, h4, h5, h6⟩
    exact ⟨rfl, L', d', ⟨h1, by rw [(h6 h.bz).1]; exact h.bz⟩, (h6 h.bz).2.mono (fun k hk => .inl (.inl hk)), h2.growL, ⟨d.lt, (h6 h.bz).1, .inl rfl⟩, h2.ss, h2.four, by rw [h3]; omega, by omega, by omega⟩
   rw [plCall, if_neg k1]
   by_cases k4 : o.kind = 4
   ·rw [if_pos k4]
    exact (domains_busy W lo B L d o.a V hV).mono (fun e w1 => hch)
   rw [if_neg k4]
   by_cases k8 : o.kind = 8
   ·rw [if_pos k8]
    exact (counts_busy W lo B L d o.a V hV).mono (fun e w1 => hch)
   rw [if_neg k8]
   have hc5 : o.kind = 2 ∨ o.kind = 3 ∨ o.kind = 5 ∨ o.kind = 6 ∨ o.kind = 7 := by omega
   rcases hc5 with k | k | k | k | k
   ·exact (changes_fixB W lo B L d o V hV k).mono (fun e w1 => hch)
   ·exact (changes_removeB W lo B L d o V hV k).mono (fun e w1 => hch)
   ·exact (changes_lookB W lo B L d o V hV k).mono (fun e w1 => hch)
   ·exact (changes_pushB W lo B L d o V hV k).mono (fun e w1 => hch)
   ·exact (changes_popB W lo B L d o V hV k).mono (fun e w1 => hch)
  ·rintro e w' ⟨rfl, V, b0, rb, w1, hP, ⟨L', d', h1⟩, hb, rfl⟩
   exact ⟨rfl, L', d', h1.set hP.nw hP.lo hP.k1.lt h.ls hb _⟩
 ·by_cases k9 : o.kind = 9
  ·obtain ⟨kind, a, b, vo, vcap, ro, rcap, vars, rows, nt, way, which, fv, mv⟩ := o
   dsimp only at k9
   subst k9
   exact plainB_going W lo B L d a b vo vcap ro rcap vars rows nt way which fv mv w h hsq
  ·refine (plain_no B d.D o w (by omega)).mono ?_
   rintro e w' ⟨rfl, V, b0, rb, w1, hP, rfl, hb, rfl⟩
   exact ⟨rfl, L, d, (PlB.nw _ (h.nw hP.nw) (Fr.refl _ _)).set hP.nw hP.lo hP.k1.lt h.ls hb _⟩
end Go.Proofs.YtkjfpdfkcfgfkaaGreat

namespace Go.Proofs.YtkjfpdfkcfgfkaaGreat
open Go.RowKit

theorem SideAt.frN {S : Nat → Prop} {W w w' : World} {lo : Nat} {d : Sd} (h : SideAt W w lo d) (f : Fr S w w') (hn : ∀ k, d.own k → ¬ S k) (ho : ∀ k cur, S k → ¬ Blk w k cur 151) : SideAt W w' lo d := by
 obtain ⟨es, h1, h2⟩ := Only.ofNot ho
 exact h.fr f hn h1 h2
theorem law_node {e : TypeId} (h : e ∈ lawTys) : e ≠ 151 := fun he => absurd (he ▸ h) (by decide)
def OO (B : Nat) (L : LW) (ds : List Sd) (i k : Nat) : Prop := L.own B k ∨ ∃ j, ∃ hj : j < ds.length, j ≠ i ∧ ds[j].own k
structure GS (W w : World) (lo B : Nat) (L : LW) (ds : List Sd) (i : Nat) (d : Sd) : Prop where
 env : Env W w lo
 law : LawAt w lo B L
 ss : L.ss = ds.map (fun d => Value.pointer (some ⟨d.D, 0, none⟩))
 get : ∃ hi : i < ds.length, ds[i] = d
 sides : ∀ j (hj : j < ds.length), j ≠ i → SideAt W w lo ds[j]
 blk : Blk w d.D d.cells 52
 apart : ∀ d ∈ ds, ∀ k, L.own B k → ¬ d.own k
 dist : ∀ i j (hi : i < ds.length) (hj : j < ds.length), i ≠ j → ∀ k, ds[i].own k → ¬ ds[j].own k
 lts : ∀ d ∈ ds, d.lt = .nilFunc ∨ Clo d.lt d.X
theorem LJ.out {W w : World} {lo B : Nat} {L : LW} {ds : List Sd} {i : Nat} {d : Sd} (h : LJ W w lo B L ds) (hi : i < ds.length) (hd : ds[i] = d) : GS W w lo B L ds i d :=
 ⟨h.env, h.law, h.ss, ⟨hi, hd⟩, fun _ hj _ => h.sides _ (List.getElem_mem hj), (hd ▸ h.sides _ (List.getElem_mem hi)).blk, h.apart, h.dist, h.lts⟩
theorem GS.back {W w : World} {lo B : Nat} {L : LW} {ds : List Sd} {i : Nat} {d : Sd} (h : GS W w lo B L ds i d) (hp : Pair d.bz W w lo d.X d.Y d.zs d.s d.R) (hlo : lo ≤ d.D) : LJ W w lo B L ds := by
 refine ⟨h.env, h.law, h.ss, fun e he => ?_, h.apart, h.dist, h.lts⟩
 obtain ⟨j, hj, rfl⟩ := List.getElem_of_mem he
 by_cases e : j = i
 ·subst e
  obtain ⟨_, hd⟩ := h.get
  rw [hd]
  exact ⟨h.blk, hp, hlo⟩
 ·exact h.sides j hj e
theorem GS.off {W w : World} {lo B : Nat} {L : LW} {ds : List Sd} {i : Nat} {d : Sd} (h : GS W w lo B L ds i d) {k : Nat} (hk : OO B L ds i k) : ¬ d.own k := by
 obtain ⟨hi, rfl⟩ := h.get
 rcases hk with hk | ⟨j, hj, hne, hk⟩
 ·exact h.apart _ (List.getElem_mem hi) k hk
 ·exact h.dist j i hj hi hne k hk
theorem GS.lt {W w : World} {lo B : Nat} {L : LW} {ds : List Sd} {i : Nat} {d : Sd} (h : GS W w lo B L ds i d) {k : Nat} (hk : OO B L ds i k) : k < w.heap.size ∧ lo ≤ k ∧ ∃ cur e, Blk w k cur e ∧ e ∈ lawTys := by
 rcases hk with hk | ⟨j, hj, hne, hk⟩
 ·exact ⟨h.law.lt k hk, h.law.lo k hk, h.law.ty hk⟩
 ·exact ⟨(h.sides j hj hne).lt hk, (h.sides j hj hne).lo hk, (h.sides j hj hne).ty hk⟩
theorem GS.fr {S : Nat → Prop} {W w w' : World} {lo B : Nat} {L : LW} {ds : List Sd} {i : Nat} {d : Sd} (h : GS W w lo B L ds i d) (f : Fr S w w') (hn : ∀ k, S k → lo ≤ k ∧ ¬ OO B L ds i k ∧ k ≠ d.D) (ho : ∀ k cur, S k → ¬ Blk w k cur 151) : GS W w' lo B L ds i d :=
 ⟨⟨h.env.base, h.env.nw.trans f (fun k hk => .inr (Nat.le_trans h.env.base (hn k hk).1)), Nat.le_trans h.env.le f.size⟩, h.law.fr f (fun k hk hs => (hn k hs).2.1 (.inl hk)), h.ss, h.get,
  fun j hj hne => (h.sides j hj hne).frN f (fun k hk hs => (hn k hs).2.1 (.inr ⟨j, hj, hne, hk⟩)) ho, h.blk.fr f (fun hs => (hn _ hs).2.2 rfl), h.apart, h.dist, h.lts⟩
structure Stay (W w : World) (lo : Nat) (d : Sd) (O0 : Nat → Prop) (ba bk : Nat) : Prop where
 ref : RAt W w lo d.Y d.zs d.R
 busy : d.s.l.busy = d.bz
 now : LinkD d.zs.length d.R.now d.s.d
 tabs : d.s.bs = d.R.ts.map TbW.tb
 levs : LinkL d.zs.length d.R.ls d.s.sk
 szn : ∀ k, d.R.szv.ownBlock = some k → ¬ d.s.own d.X k
 xlo : ∀ k, d.s.own d.X k → lo ≤ k
 dlo : lo ≤ d.D
 off : ∀ k, d.own k → ¬ O0 k ∧ k < ba ∧ k < bk
 old : ∀ k, O0 k → k < ba ∧ k < bk
 rD : ∀ k, d.R.own d.Y k → k ≠ d.D ∧ k ≠ d.X
 sD : ¬ d.s.own d.X d.D
 blo : lo ≤ ba ∧ lo ≤ bk ∧ ba < w.heap.size ∧ bk < w.heap.size ∧ ba ≠ bk
structure GP (W w : World) (lo B i n : Nat) (d : Sd) (O0 : Nat → Prop) (ba bk : Nat) (cn ct cr : Nat) (a : Nat) (C : Nat → Prop) (A : World) (L : LW) (ds : List Sd) (lt : Value) : Prop where
 gs : GS W A lo B L ds i { d with lt := lt }
 grow : ∀ k, OO B L ds i k → O0 k ∨ w.heap.size ≤ k
 c : ∀ k, C k ↔ OO B L ds i k ∨ k = d.D ∨ k = ba ∨ k = bk
 at_ : Blk A ba #[.int .i64 (a : Int)] 3
 ok : Blk A bk #[.bool true] 4
 fr : Fr (fun k => O0 k ∨ k = d.D ∨ k = ba ∨ k = bk ∨ k = d.X) w A
 len : ds.length = n
 free : ∀ j (hj : j < ds.length), j ≠ i → ds[j].bz = false
 cost : L.nums.length ≤ cn ∧ L.turned.length ≤ ct ∧ L.rows.length ≤ cr ∧ L.nums.length % 4 = 0
theorem Stay.pair {W w A : World} {lo ba bk : Nat} {d : Sd} {O0 : Nat → Prop} (h : Stay W w lo d O0 ba bk) (f : Fr (fun k => O0 k ∨ k = d.D ∨ k = ba ∨ k = bk ∨ k = d.X) w A) (hA : WAt A d.X d.zs d.s) : Pair d.bz W A lo d.X d.Y d.zs d.s d.R :=
 ⟨hA, h.ref.fr f (fun k hk hs => by
  have h1 := h.off k (.inr (.inr hk))
  have h2 := h.rD k hk
  rcases hs with hs | hs | hs | hs | hs
  ·exact h1.1 hs
  ·exact h2.1 hs
  ·omega
  ·omega
  ·exact h2.2 hs), h.busy, h.now, h.tabs, h.levs, h.szn, h.xlo⟩
theorem GP.lj {W w A : World} {lo B i n ba bk cn ct cr a : Nat} {d : Sd} {O0 C : Nat → Prop} {L : LW} {ds : List Sd} {lt : Value} (h : GP W w lo B i n d O0 ba bk cn ct cr a C A L ds lt) (hs : Stay W w lo d O0 ba bk) (hA : WAt A d.X d.zs d.s) : LJ W A lo B L ds :=
 h.gs.back (hs.pair h.fr hA) hs.dlo
theorem GP.st {S : Nat → Prop} {W w A A' : World} {lo B i n ba bk cn ct cr a : Nat} {d : Sd} {O0 C : Nat → Prop} {L : LW} {ds : List Sd} {lt : Value} (h : GP W w lo B i n d O0 ba bk cn ct cr a C A L ds lt) (hs : Stay W w lo d O0 ba bk) (f : Fr S A A') (hS : ∀ k, S k → ((w.heap.size ≤ k ∧ ¬ C k) ∨ k = d.X) ∧ ∀ cur, ¬ Blk A k cur 151) : GP W w lo B i n d O0 ba bk cn ct cr a C A' L ds lt := by
 have hX : ∀ k, S k → lo ≤ k ∧ ¬ OO B L ds i k ∧ k ≠ d.D ∧ k ≠ ba ∧ k ≠ bk := fun k hk => by
  have hb := hs.blo
  have hXo : d.own d.X := .inr (.inl (.inl rfl))
  rcases (hS k hk).1 with ⟨h1, h2⟩ | h1
  ·refine ⟨by omega, fun ho => h2 ((h.c k).2 (.inl ho)), fun e => h2 ((h.c k).2 (.inr (.inl e))), by omega, by omega⟩
  ·have h3 := hs.off _ hXo
   rw [← h1] at h3
   refine ⟨h1 ▸ hs.xlo _ (.inl rfl), fun ho => h.gs.off ho (by rw [h1]; exact .inr (.inl (.inl rfl))), fun e => hs.sD (.inl (by rw [← e, h1])), by omega, by omega⟩
 exact ⟨h.gs.fr f (fun k hk => ⟨(hX k hk).1, (hX k hk).2.1, (hX k hk).2.2.1⟩) (fun k cur hk => (hS k hk).2 cur), h.grow, h.c, h.at_.fr f (fun hk => (hX _ hk).2.2.2.1 rfl), h.ok.fr f (fun hk => (hX _ hk).2.2.2.2 rfl), h.fr.trans f (fun k hk => by
  rcases (hS k hk).1 with ⟨h1, h2⟩ | h1
  ·exact .inr h1
  ·exact .inl (.inr (.inr (.inr (.inr h1))))), h.len, h.free, h.cost⟩
theorem GP.cells {W w A : World} {lo B i n ba bk cn ct cr a : Nat} {d : Sd} {O0 C : Nat → Prop} {L : LW} {ds : List Sd} {lt : Value} (h : GP W w lo B i n d O0 ba bk cn ct cr a C A L ds lt) {k : Nat} (hk : C k) : ∃ cur e, Blk A k cur e ∧ e ≠ 151 := by
 rcases (h.c k).1 hk with h1 | h1 | h1 | h1
 ·obtain ⟨_, _, cur, e, hb, he⟩ := h.gs.lt h1
  exact ⟨cur, e, hb, law_node he⟩
 ·subst h1
  exact ⟨_, _, h.gs.blk, by decide⟩
 ·subst h1
  exact ⟨_, _, h.at_, by decide⟩
 ·subst h1
  exact ⟨_, _, h.ok, by decide⟩
def GI (W w : World) (lo B i n : Nat) (d : Sd) (O0 : Nat → Prop) (ba bk : Nat) (cn ct cr a : Nat) (C : Nat → Prop) (A : World) : Prop := ∃ L ds lt, GP W w lo B i n d O0 ba bk cn ct cr a C A L ds lt
theorem GI.inv {W w : World} {lo B i n ba bk : Nat} {d : Sd} {O0 : Nat → Prop} (hs : Stay W w lo d O0 ba bk) (cn ct cr a : List (List Nat) → Nat) (R : List (List Nat) → Prop) : SolInv d.X w.heap.size (fun done C A => GI W w lo B i n d O0 ba bk (cn done) (ct done) (cr done) (a done) C A ∧ R done) :=
 ⟨fun _ _ _ _ _ ⟨⟨L, ds, lt, h⟩, hr⟩ f hS => ⟨⟨L, ds, lt, h.st hs f hS⟩, hr⟩, fun _ _ _ _ ⟨⟨_, _, _, h⟩, _⟩ hk => h.cells hk⟩
end Go.Proofs.YtkjfpdfkcfgfkaaGreat

namespace Go.Proofs.YtkjfpdfkcfgfkaaGreat
open Go.RowKit

theorem LJ.fr {S : Nat → Prop} {W w w' : World} {lo B : Nat} {L : LW} {ds : List Sd} (h : LJ W w lo B L ds) (f : Fr S w w') (hS : ∀ k, S k → lo ≤ k ∧ ¬ L.own B k ∧ ∀ d ∈ ds, ¬ d.own k) (ho : ∀ k cur, S k → ¬ Blk w k cur 151) : LJ W w' lo B L ds :=
 ⟨⟨h.env.base, h.env.nw.trans f (fun k hk => .inr (Nat.le_trans h.env.base (hS k hk).1)), Nat.le_trans h.env.le f.size⟩, h.law.fr f (fun k hk hs => (hS k hs).2.1 hk), h.ss, fun d hd => (h.sides d hd).frN f (fun k hk hs => (hS k hs).2.2 d hd hk) ho, h.apart, h.dist, h.lts⟩
theorem LJ.kept {W w w' : World} {lo B g : Nat} {L L' : LW} {ds : List Sd} {cur : Array Value} (h : LJ W w lo B L ds) (hg : ∀ d ∈ ds, ¬ d.own g) (hgl : lo ≤ g) (hgb : Blk w g cur 3) (hL : LawAt w' lo B L') (f : Fr (fun k => k = B ∨ L.nv.ownBlock = some k ∨ k = g) w w') (hgr : ∀ k, L'.own B k → L.own B k ∨ k = g ∨ w.heap.size ≤ k) (hss : L'.ss = L.ss) : LJ W w' lo B L' ds := by
 have hin : ∀ k, (k = B ∨ L.nv.ownBlock = some k ∨ k = g) → lo ≤ k ∧ (L.own B k ∨ k = g) := fun k hk => by
  rcases hk with hk | hk | hk
  ·exact ⟨h.law.lo k (.inl hk), .inl (.inl hk)⟩
  ·exact ⟨h.law.lo k (.inr (.inr (.inl hk))), .inl (.inr (.inr (.inl hk)))⟩
  ·exact ⟨by omega, .inr hk⟩
 refine ⟨⟨h.env.base, h.env.nw.trans f (fun k hk => .inr (Nat.le_trans h.env.base (hin k hk).1)), Nat.le_trans h.env.le f.size⟩, hL, hss.trans h.ss, fun d hd => (h.sides d hd).frN f (fun k hk hs => ?_) (fun k cur' hs hb => ?_), fun d hd k hk hdk => ?_, h.dist, h.lts⟩
 ·rcases (hin k hs).2 with h1 | h1
  ·exact h.apart d hd k h1 hk
  ·exact hg d hd (by rw [← h1]; exact hk)
 ·rcases (hin k hs).2 with h1 | h1
  ·obtain ⟨c, e, hb', he⟩ := h.law.ty h1
   exact law_node he (hb'.inj hb).2
  ·subst h1
   exact absurd (hb.inj hgb).2 (by decide)
 ·rcases hgr k hk with h1 | h1 | h1
  ·exact h.apart d hd k h1 hdk
  ·exact hg d hd (by rw [← h1]; exact hdk)
  ·have := (h.sides d hd).lt hdk
   omega
structure PlG (W w w' : World) (lo B i : Nat) (L L' : LW) (ds ds' : List Sd) (d : Sd) (lt : Value) (n : Nat) : Prop where
 lj : LJ W w' lo B L' ds'
 len : ds'.length = ds.length
 get : ∃ hi : i < ds'.length, ds'[i] = { d with lt := lt }
 free : ∀ j (hj : j < ds'.length), j ≠ i → ds'[j].bz = false
 fr : Fr (fun k => OO B L ds i k ∨ k = d.D) w w'
 grow : ∀ k, OO B L' ds' i k → OO B L ds i k ∨ w.heap.size ≤ k
 cost : Cost L L' n
 four : L'.nums.length % 4 = L.nums.length % 4
theorem plain_go (W : World) (lo B i : Nat) (L : LW) (ds : List Sd) (d : Sd) (o : OpV) (w : World) (h : LJ W w lo B L ds) (hi : i < ds.length) (hd : ds[i] = d) (hbz : d.bz = true) (hsq : Clo d.sq d.X) (hfree : ∀ j (hj : j < ds.length), j ≠ i → ds[j].bz = false) (ix : Nat) (hx : ix < ds.length) (ho : OpOk W o) (hr : LRoom L) :
  Calls Tryz.prog 35 #[.pointer (some ⟨B, 0, none⟩), .pointer (some ⟨ds[ix].D, 0, none⟩), .agg o.cells] w fun e w' => e = .returned (.bool true) ∧ ∃ L' ds' lt, PlG W w w' lo B i L L' ds ds' d lt o.rows.length := by
 by_cases e : ix = i
 ·subst e
  rw [hd]
  refine (plainB_any W lo B L d o w ⟨hd ▸ h.one ix hi, hbz⟩ hsq ho hr).mono ?_
  rintro e w' ⟨rfl, L', d', hp⟩
  obtain ⟨lt, rfl, hlt⟩ := hp.same
  have hl1 : lt = .nilFunc ∨ Clo lt d.X := by
   rcases hlt with rfl | rfl
   ·exact hd ▸ h.lts _ (List.getElem_mem hi)
   ·exact .inr rfl
  have hnj : ∀ k, OO B L' (ds.set ix { d with lt := lt }) ix k → OO B L ds ix k ∨ w.heap.size ≤ k := fun k hk => by
   rcases hk with hk | ⟨j, hj, hne, hk⟩
   ·exact (hp.growL k hk).imp .inl id
   ·rw [List.length_set] at hj
    rw [List.getElem_set_ne (fun e => hne e.symm)] at hk
    exact .inl (.inr ⟨j, hj, hne, hk⟩)
  refine ⟨rfl, L', ds.set ix { d with lt := lt }, lt, h.put ix hi hp.bs.ls hp.fr (fun k hk => by
   rcases hk with hk | hk
   ·exact .inl hk
   ·exact .inr (hd ▸ .inl hk)) hp.growL (fun k hk => .inl (hd ▸ hk)) hp.ss (by rw [hd]) hl1, by rw [List.length_set], ⟨by rw [List.length_set]; exact hi, by rw [List.getElem_set_self]⟩, fun j hj hne => ?_, hp.fr.mono (fun k hk => .inl (hk.imp .inl id)), hnj, hp.cost, hp.four⟩
  rw [List.getElem_set_ne (fun e => hne e.symm)]
  exact hfree j (by rw [List.length_set] at hj; exact hj) hne
 ·refine (plain_any W lo B L ds[ix] o w (h.one ix hx) (hfree ix hx e) ho hr).mono ?_
  rintro e' w' ⟨rfl, L', d', h1, h2, h3⟩
  refine ⟨rfl, L', ds.set ix d', d.lt, h.step ix hx h1 h2, by rw [List.length_set], ⟨by rw [List.length_set]; exact hi, by rw [List.getElem_set_ne e, hd]⟩, fun j hj hne => ?_, h2.fr.mono (fun k hk => .inl (.inl (hk.imp id (fun h => ⟨ix, hx, e, h⟩)))), fun k hk => ?_, h3, h2.four⟩
  ·by_cases e2 : ix = j
   ·subst e2
    rw [List.getElem_set_self, h2.bz]
    exact hfree ix hx e
   ·rw [List.getElem_set_ne e2]
    exact hfree j (by rw [List.length_set] at hj; exact hj) hne
  ·rcases hk with hk | ⟨j, hj, hne, hk⟩
   ·exact (h2.growL k hk).imp .inl id
   ·rw [List.length_set] at hj
    by_cases e2 : ix = j
    ·subst e2
     rw [List.getElem_set_self] at hk
     exact (h2.growD k hk).imp (fun h => .inr ⟨ix, hx, e, h⟩) id
    ·rw [List.getElem_set_ne e2] at hk
     exact .inl (.inr ⟨j, hj, hne, hk⟩)
theorem GS.put {W w w' : World} {lo B : Nat} {L : LW} {ds : List Sd} {i : Nat} {d d' : Sd} (h : GS W w lo B L ds i d) (hD : d'.D = d.D) (ho : ∀ k, d'.own k ↔ d.own k) (hl : d'.lt = .nilFunc ∨ Clo d'.lt d'.X) (hlo : lo ≤ d.D) (f : Fr (fun k => k = d.D) w w') (hb : Blk w' d.D d'.cells 52) : GS W w' lo B L (ds.set i d') i d' := by
 obtain ⟨hi, hd⟩ := h.get
 have hDo : ∀ k, OO B L ds i k → k ≠ d.D := fun k hk e => h.off hk (.inl e)
 have hno : ∀ k cur, k = d.D → ¬ Blk w k cur 151 := fun k cur e hb => by
  subst e
  exact absurd (hb.inj h.blk).2 (by decide)
 have hg : ∀ a (ha : a < (ds.set i d').length) k, (ds.set i d')[a].own k → ∃ ha' : a < ds.length, ds[a].own k := fun a ha k hk => by
  rw [List.length_set] at ha
  by_cases e : i = a
  ·subst e
   rw [List.getElem_set_self] at hk
   exact ⟨ha, by rw [hd]; exact (ho k).1 hk⟩
  ·rw [List.getElem_set_ne e] at hk
   exact ⟨ha, hk⟩
 refine ⟨⟨h.env.base, h.env.nw.trans f (fun k hk => .inr (by have := h.env.base; omega)), Nat.le_trans h.env.le f.size⟩, h.law.fr f (fun k hk => hDo k (.inl hk)), ?_, ⟨by rw [List.length_set]; exact hi, by rw [List.getElem_set_self]⟩, fun j hj hne => ?_, by rw [hD]; exact hb, fun e he k hk hek => ?_, fun a b ha hb hab k h1 h2 => ?_, fun e he => ?_⟩
 ·rw [h.ss, List.map_set, hD, ← hd]
  refine List.ext_getElem? fun j => ?_
  by_cases e : i = j
  ·subst e
   rw [List.getElem?_set_self (by simpa using hi)]
   simp [hi]
  ·rw [List.getElem?_set_ne e]
 ·rw [List.length_set] at hj
  rw [List.getElem_set_ne (fun e => hne e.symm)]
  exact (h.sides j hj hne).frN f (fun k hk => hDo k (.inr ⟨j, hj, hne, hk⟩)) hno
 ·obtain ⟨a, ha, rfl⟩ := List.getElem_of_mem he
  obtain ⟨ha', h2⟩ := hg a ha k hek
  exact h.apart _ (List.getElem_mem ha') k hk h2
 ·obtain ⟨ha', h3⟩ := hg a ha k h1
  obtain ⟨hb', h4⟩ := hg b hb k h2
  exact h.dist a b ha' hb' hab k h3 h4
 ·rcases mem_set e he with rfl | ⟨j, hj, hne, rfl⟩
  ·exact hl
  ·exact h.lts _ (List.getElem_mem hj)
theorem OO.set {B : Nat} {L : LW} {ds : List Sd} {i k : Nat} {d' : Sd} : OO B L (ds.set i d') i k ↔ OO B L ds i k := by
 constructor
 ·rintro (h | ⟨j, hj, hne, h⟩)
  ·exact .inl h
  ·rw [List.length_set] at hj
   rw [List.getElem_set_ne (fun e => hne e.symm)] at h
   exact .inr ⟨j, hj, hne, h⟩
 ·rintro (h | ⟨j, hj, hne, h⟩)
  ·exact .inl h
  ·exact .inr ⟨j, by rw [List.length_set]; exact hj, hne, by rw [List.getElem_set_ne (fun e => hne e.symm)]; exact h⟩
theorem GP.next {W w A A' : World} {lo B i n ba bk cn ct cr a cn' ct' cr' a' g : Nat} {d : Sd} {O0 C : Nat → Prop} {L L' : LW} {ds ds' : List Sd} {lt lt' : Value} (h : GP W w lo B i n d O0 ba bk cn ct cr a C A L ds lt) (hg : w.heap.size ≤ g) (hj : LJ W A' lo B L' ds') (hget : ∃ hi : i < ds'.length, ds'[i] = { d with lt := lt' }) (fr : Fr (fun k => C k ∨ k = g) A A') (grow : ∀ k, OO B L' ds' i k → OO B L ds i k ∨ k = g ∨ A.heap.size ≤ k)
  (hat : Blk A' ba #[.int .i64 (a' : Int)] 3) (hok : Blk A' bk #[.bool true] 4) (hlen : ds'.length = n) (hfree : ∀ j (hj : j < ds'.length), j ≠ i → ds'[j].bz = false) (hc : L'.nums.length ≤ cn' ∧ L'.turned.length ≤ ct' ∧ L'.rows.length ≤ cr' ∧ L'.nums.length % 4 = 0) :
  ∃ C' : Nat → Prop, (∀ k, C' k → C k ∨ k = g ∨ A.heap.size ≤ k) ∧ GP W w lo B i n d O0 ba bk cn' ct' cr' a' C' A' L' ds' lt' := by
 obtain ⟨hi, hd⟩ := hget
 have hAs := h.fr.size
 refine ⟨fun k => OO B L' ds' i k ∨ k = d.D ∨ k = ba ∨ k = bk, fun k hk => ?_, hj.out hi hd, fun k hk => ?_, fun k => Iff.rfl, hat, hok, h.fr.trans fr (fun k hk => ?_), hlen, hfree, hc⟩
 ·rcases hk with hk | hk
  ·exact (grow k hk).imp (fun h1 => (h.c k).2 (.inl h1)) id
  ·exact .inl ((h.c k).2 (.inr hk))
 ·rcases grow k hk with h1 | h1 | h1
  ·exact h.grow k h1
  ·exact .inr (by omega)
  ·exact .inr (by omega)
 ·rcases hk with hk | hk
  ·rcases (h.c k).1 hk with h1 | h1 | h1 | h1
   ·exact (h.grow k h1).imp .inl id
   ·exact .inl (.inr (.inl h1))
   ·exact .inl (.inr (.inr (.inl h1)))
   ·exact .inl (.inr (.inr (.inr (.inl h1))))
  ·exact .inr (by omega)
end Go.Proofs.YtkjfpdfkcfgfkaaGreat
