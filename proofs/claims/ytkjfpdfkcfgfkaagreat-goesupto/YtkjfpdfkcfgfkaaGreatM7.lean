/- Parts of the proof, number 7: contracts of the functions that the statement calls. -/
import Derived.Test.YtkjfpdfkcfgfkaaGreatM6
import Derived.Test.YtkjfpdfkcfgfkaaGreatM5
import Derived.Test.YtkjfpdfkcfgfkaaGreatM3
import Derived.Test.YtkjfpdfkcfgfkaaGreatM0
import Derived.Laws.AppendOwnNone
import Derived.Test.YtkjfpdfkcfgfkaaGreatM1
import Derived.Deep.RegionHeld3

namespace Go.Proofs.YtkjfpdfkcfgfkaaGreat
open Go.RowKit

def picks (vars : List Int) (l : List Nat) : List Nat := vars.map (fun v => l.getD v.toNat 0)
theorem picks_get (vars : List Int) (l : List Nat) (i : Nat) (h : i < vars.length) : (picks vars l).getD i 0 = l.getD (vars.getD i 0).toNat 0 := by
 simp [picks, List.getD, h]
def fitsB (bs : List Tb) (l : List Nat) : Bool := bs.all (fun b => decide (lastOf b.vars ≠ (l.length : Int) - 1) || allowB b.rows b.nt (picks b.vars l))
def solN (d : List Nat) (bs : List Tb) : Nat → List Nat → List (List Nat)
 | 0, l => [l]
 | m + 1, l => (vals (d.getD l.length 0)).flatMap (fun v => if fitsB bs (l ++ [v]) then solN d bs m (l ++ [v]) else [])
def readyOf (ts : List Tab) (i : Nat) : List Tab := ts.filter (fun x => decide (lastOf x.vars = (i : Int)))
def goCells (X : Nat) (rdy : List Value) (lv yv : Value) : Array Value := (.pointer (some ⟨X, 0, none⟩) :: (rdy ++ [lv, yv])).toArray
theorem goCells_rdy (X : Nat) (rdy : List Value) (lv yv : Value) (i : Nat) (h : i < rdy.length) : (goCells X rdy lv yv)[1 + i]? = some (rdy.getD i undef) := by
 rw [Nat.add_comm]
 simp [goCells, List.getElem?_append_left, h, List.getD]
theorem goCells_list (X : Nat) (rdy : List Value) (lv yv : Value) (h : rdy.length = 8) : (goCells X rdy lv yv)[9]? = some lv := by
 simp [goCells, h]
theorem goCells_yield (X : Nat) (rdy : List Value) (lv yv : Value) (h : rdy.length = 8) : (goCells X rdy lv yv)[10]? = some yv := by
 simp [goCells, h]
theorem goCells_setList (X : Nat) (rdy : List Value) (lv yv v : Value) (h : rdy.length = 8) : (goCells X rdy lv yv).setIfInBounds 9 v = goCells X rdy v yv := by
 match rdy, h with
 | [a0, a1, a2, a3, a4, a5, a6, a7], _ => rfl
theorem ints_eq (l : List Nat) : ints l = (l.map (fun (x : Nat) => (x : Int))).map (Value.int .i64) := by simp [ints]
theorem natI_get (l : List Nat) (k : Nat) : (l.map (fun (x : Nat) => (x : Int))).getD k 0 = ((l.getD k 0 : Nat) : Int) := by
 simp only [List.getD, List.getElem?_map]
 cases l[k]? <;> rfl
structure GoAt (W : World) (G X : Nat) (ts : List Tab) (rdy : List Value) (lv yv : Value) (l : List Nat) : Prop where
 blk : Blk W G (goCells X rdy lv yv) 158
 len : rdy.length = 8
 rdy : ∀ i, i < 8 → Row W (rdy.getD i undef) 73 ((readyOf ts i).map Tab.val)
 list : Row W lv 3 (ints l)
noncomputable def fitsReg : Array Oper := regOps Tryz.f97 4
theorem outOf_picks {b : Tb} {d : List Nat} {l : List Nat} (hv : ∀ i, i < b.vars.length → 0 ≤ b.vars.getD i 0) (hl : lastOf b.vars = (l.length : Int) - 1) (hin : ∀ q, q < l.length → (d.getD q 0).testBit (l.getD q 0) = true) : OutOf b.vars d (picks b.vars l) := by
 refine ⟨by simp [picks], fun i hi => ?_⟩
 rw [picks_get _ _ _ hi]
 have h1 := maxTo_ge b.vars b.vars.length i hi
 have h2 := hv i hi
 unfold lastOf at hl
 exact hin _ (by omega)

set_option maxHeartbeats 3200000 in
set_option maxRecDepth 1000000 in
theorem fits_any (G X : Nat) (zs : List Int) (s : WS) (rdy : List Value) (lv yv : Value) (l : List Nat) (W : World) (hA : WAt W X zs s) (hG : GoAt W G X s.ts rdy lv yv l) (hl1 : 1 ≤ l.length) (hl8 : l.length ≤ 8) (hin : ∀ q, q < l.length → (s.d.getD q 0).testBit (l.getD q 0) = true) :
  Calls Tryz.prog 97 #[.pointer (some ⟨G, 0, none⟩)] W fun e w' => e = .returned (.bool (fitsB s.bs l)) ∧ ∃ m, w' = W.drewN m := by
 obtain ⟨lo, lc, hlf, _⟩ := hG.list.form
 have hll : (ints l).length = l.length := by simp [ints]
 rw [hll] at hlf
 subst hlf
 obtain ⟨v, hv⟩ : ∃ v : Nat, l.length = v + 1 := ⟨l.length - 1, by omega⟩
 obtain ⟨rv, hrv⟩ : ∃ rv, rdy.getD v undef = rv := ⟨_, rfl⟩
 have hrow := hG.rdy v (by omega)
 rw [hrv] at hrow
 obtain ⟨ro, rc, hrf, _⟩ := hrow.form
 rw [List.length_map] at hrf
 subst hrf
 have c9 : W.cell? ⟨G, 9, none⟩ = some (.slice lo (v + 1) lc) := by
  rw [← hv]
  exact (hG.blk.cell 9).trans (goCells_list _ _ _ _ hG.len)
 have cr : W.cell? ⟨G, 1 + v, none⟩ = some (.slice ro (readyOf s.ts v).length rc) := by
  rw [← hrv]
  exact (hG.blk.cell _).trans (goCells_rdy _ _ _ _ _ (by rw [hG.len]; omega))
 have hGl := hG.blk.lt
 have hv8 : (v : Int) < 8 := by omega
 have HA := hd hA
 have HG := hd hG
 have Hrow := hd hrow
 have Hv := hd hv
 have Hin := hd hin
 clear hA hG hrow hv hin hll hrv
 have hmf : ∀ (fn : Fn) (first cap : Array Value) (w : World), (Instr.makeFunc fn first cap).run Tryz.prog w = .ok (.func fn first cap) w := fun _ _ _ _ => rfl
 go_enter Tryz.func97, Tryz.ntmps97
 go_wp2_with fail
 go_quiet (fail)
 go_wp2_with fail
 have hready : ∀ j, j < (readyOf s.ts v).length → ∃ q, q < s.ts.length ∧ s.ts.getD q tab0 = (readyOf s.ts v).getD j tab0 ∧ lastOf (s.ts.getD q tab0).vars = (v : Int) := fun j hj => by
  have hm : (readyOf s.ts v).getD j tab0 ∈ readyOf s.ts v := by
   simp only [List.getD, List.getElem?_eq_getElem hj, Option.getD_some]
   exact List.getElem_mem hj
  obtain ⟨h1, h2⟩ := List.mem_filter.1 hm
  obtain ⟨q, hq, he⟩ := List.getElem_of_mem h1
  have e2 : s.ts.getD q tab0 = (readyOf s.ts v).getD j tab0 := by rw [← he]; simp [List.getD, hq]
  exact ⟨q, hq, e2, by rw [e2]; simpa using h2⟩
 have Hready := hd hready
 clear hready
 go_loopw [4, 17] (fun _ i wr => ∃ (k m : Nat), k ≤ (readyOf s.ts v).length ∧ i = .int .i64 (k : Int) ∧ wr = W.drewN m ∧ Hid (∀ j, j < k → ∀ q, q < s.ts.length → s.ts.getD q tab0 = (readyOf s.ts v).getD j tab0 → Allow (s.bs.getD q tb0).rows (s.bs.getD q tb0).nt (picks (s.bs.getD q tb0).vars l))) (fun _ i _ => (readyOf s.ts v).length - (intOf i).toNat)
 case atStart => exact ⟨0, nq, by omega, rfl, rfl, fun j hj => absurd hj (Nat.not_lt_zero _)⟩
 case round =>
  obtain ⟨k, m, hk, rfl, rfl, HP⟩ := hrel
  have h12 : (readyOf s.ts v).length ≤ 12 := Nat.le_trans (List.length_filter_le _ _) HA.out.mem.t12
  have HFm : Hid (Nw W (W.drewN m)) := (Fr.refl _ W).drewN m
  by_cases hlt : k < (readyOf s.ts v).length
  ·have hdk : (k : Int) < ((readyOf s.ts v).length : Int) := by omega
   obtain ⟨q, hq, hqe, hql⟩ := Hready.out k hlt
   obtain ⟨rg, rcap, hre, hrgo, hrc, _⟩ := (Hrow.out.nw HFm.out).cell k (by simpa using hlt)
   simp only [List.length_map, Value.slice.injEq] at hre
   obtain ⟨rfl, _, rfl⟩ := hre
   have hrgl := (Hrow.out.nw HFm.out).lt hrgo
   simp only [List.getElem_map] at hrc
   have hxk : (readyOf s.ts v)[k] = s.ts.getD q tab0 := by rw [hqe]; simp [List.getD, hlt]
   rw [hxk] at hrc
   have hqb : q < s.bs.length := by rw [← HA.out.mem.fits.1]; exact hq
   have hTb := HA.out.mem.tbok q hqb
   have hT := HA.out.mem.tabs.at_ q hq
   have hRep := HA.out.good.rep q hqb
   rw [mapT_getD] at hRep
   have hvars := HA.out.mem.fits.2 q hqb
   rw [hvars] at hT hql
   obtain ⟨b, hb⟩ : ∃ b, s.bs.getD q tb0 = b := ⟨_, rfl⟩
   obtain ⟨⟨xG, xg, xcap, xvars, xt⟩, hx⟩ : ∃ x, s.ts.getD q tab0 = x := ⟨_, rfl⟩
   rw [hb] at hTb hT hRep hql
   rw [hx] at hT hRep hrc
   dsimp only [Tab.val] at hT hRep hrc
   have hO : OutOf b.vars s.d (picks b.vars l) := outOf_picks (fun i hi => (hTb.1.vars.ok i hi).1) (by rw [hql, Hv.out]; omega) Hin.out
   have hL : ListAt W lo (l.map (fun (x : Nat) => (x : Int))) b.vars (picks b.vars l) := by
    refine ⟨?_, by simp [picks], fun i hi => ?_⟩
    ·have h9 := HG.out.list
     rw [ints_eq, ← List.length_map (f := fun (x : Nat) => (x : Int))] at h9
     exact h9.ints'
    ·have g1 := maxTo_ge b.vars b.vars.length i hi
     have g2 := (hTb.1.vars.ok i hi).1
     have g3 : (b.vars.getD i 0).toNat < l.length := by
      have := Hv.out
      unfold lastOf at hql
      omega
     refine ⟨by rw [List.length_map]; exact g3, g2, ?_, ?_⟩
     ·rw [picks_get _ _ _ hi]
      exact natI_get _ _
     ·rw [picks_get _ _ _ hi]
      exact bit_lt6 (HA.out.good.dm.lt _) (Hin.out _ g3)
   have hcall := fun m' => allowsT_any xG xg xcap b xt lo lc (l.map (fun (x : Nat) => (x : Int))) (picks b.vars l) s.d (W.drewN m') hTb.1 HA.out.good.dm (by
    have := hT
    cases xt with
    | rs nt br live => exact this
    | dg nv os root => exact ⟨⟨this.1.blk, this.1.rv, this.1.row, this.1.ok, this.1.two⟩, this.2⟩) hRep (hL.nw ((Fr.refl _ W).drewN m')) hO
   have e9 : (l.map (fun (x : Nat) => (x : Int))).length = v + 1 := by rw [List.length_map]; exact Hv.out
   rw [e9] at hcall
   have Hcall : Hid (∀ m', Calls Tryz.prog xt.fnAllows #[.pointer (some ⟨xG, 0, none⟩), .slice lo (v + 1) lc] (W.drewN m') fun e w' => e = .returned (.bool (allowB b.rows b.nt (picks b.vars l))) ∧ ∃ m, w' = (W.drewN m').drewN m) := hcall
   have Hx := hd hx
   have Hb := hd hb
   have Hqe := hd hqe
   have Hql := hd hql
   clear hcall hL hO hRep hT hTb hvars hqe hxk hx hb hql hrgo
   cases xt with
   | rs nt br live =>
    have hm := fun W' => meth_allows xG W'
    have hna : ∀ W', (nilAhead 292 91 (.pointer (some ⟨xG, 0, none⟩)) "Allows").run Tryz.prog W' = .ok (some false) W' := fun W' => by kernel_rfl
    have Hq : Hid (∀ n', Calls Tryz.prog 123 #[.pointer (some ⟨xG, 0, none⟩), .slice lo (v + 1) lc] ((W.drewN m).drewN n') fun e w' => e = .returned (.bool (allowB b.rows b.nt (picks b.vars l))) ∧ ∃ k, w' = ((W.drewN m).drewN n').drewN k) := fun n' => by
     rw [World.drewN_drewN]
     exact Hcall.out (m + n')
    obtain ⟨ab, hab⟩ : ∃ ab, allowB b.rows b.nt (picks b.vars l) = ab := ⟨_, rfl⟩
    rw [hab] at Hq
    have Hab := hd hab
    clear hab
    go_wp2_with fail
    have hK0 : ∃ n', (W.drewN m).drew = (W.drewN m).drewN n' := ⟨1, rfl⟩
    refine region_H fitsReg 10 (fun w'' => ∃ n', w'' = (W.drewN m).drewN n') (by kernel_rfl) (by kernel_rfl) (by kernel_rfl) ?_
    refine take_at (i := 0) (d := some 21) (v := .iface 91 (.pointer (some ⟨xG, 0, none⟩))) (by kernel_rfl) (by kernel_rfl) (fun _ _ _ h => h) (fun w'' hS => by kernel_rfl) hK0 ?_
    refine take_at (i := 1) (d := some 22) (v := .pointer (some ⟨G, 0, none⟩)) (by kernel_rfl) (by kernel_rfl) (fun _ _ _ h => h) (fun w'' hS => by kernel_rfl) hK0 ?_
    refine take_at (i := 2) (d := some 23) (v := .pointer (some ⟨G, 0, none⟩)) (by kernel_rfl) (by kernel_rfl) (fun _ _ _ h => h) (fun w'' hS => by kernel_rfl) hK0 ?_
    refine take_at (i := 3) (d := some 24) (v := .pointer (some ⟨G, 9, none⟩)) (by kernel_rfl) (by kernel_rfl) (fun _ _ _ h => h) (fun w'' hS => by kernel_rfl) hK0 ?_
    refine take_at (i := 4) (d := some 25) (v := .slice lo (v + 1) lc) (by kernel_rfl) (by kernel_rfl) (fun _ _ _ h => h) (fun w'' hS => exec_load 22 (.tmp 24) (by kernel_rfl) (by kernel_rfl) (by kernel_rfl) (by obtain ⟨n', rfl⟩ := hS; exact c9)) hK0 ?_
    refine take_at (i := 5) (d := some 26) (v := .func (.method "Allows") #[.iface 91 (.pointer (some ⟨xG, 0, none⟩))] #[]) (by kernel_rfl) (by kernel_rfl) (fun _ _ _ h => h) (fun w'' hS => by kernel_rfl) hK0 ?_
    refine take_at (i := 6) (d := some 27) (v := .func (.method "Allows") #[.iface 91 (.pointer (some ⟨xG, 0, none⟩))] #[]) (by kernel_rfl) (by kernel_rfl) (fun _ _ _ h => h) (fun w'' hS => by kernel_rfl) hK0 ?_
    refine take_at (i := 7) (d := some 28) (v := .iface 91 (.pointer (some ⟨xG, 0, none⟩))) (by kernel_rfl) (by kernel_rfl) (fun _ _ _ h => h) (fun w'' hS => by kernel_rfl) hK0 ?_
    refine enter_at (i := 8) (d := some 29) (f := 123) (args := #[.pointer (some ⟨xG, 0, none⟩), .slice lo (v + 1) lc]) (w' := (W.drewN m).drew) (by kernel_rfl) (by kernel_rfl) (by kernel_rfl) ?_
    refine (Hq.out 1).mono ?_
    rintro e w2 ⟨rfl, n2, rfl⟩
    have hK2 : ∃ n', ((W.drewN m).drewN 1).drewN n2 = (W.drewN m).drewN n' := ⟨1 + n2, by simp only [World.drewN_drewN, Nat.add_assoc]⟩
    refine ⟨_, rfl, hK2, ?_⟩
    refine value_at (i := 9) (d := some 30) (v := .bool (!ab)) (w' := ((W.drewN m).drewN 1).drewN n2) (by kernel_rfl) (by kernel_rfl) (by kernel_rfl) hK2 ?_
    refine wpAnyH_done (by kernel_rfl) ?_ _
    simp only [Act.put, List.setIfInBounds_toArray, List.set_cons_zero, List.set_cons_succ]
    cases ab with
    | true =>
     go_wp2_with fail
     refine ⟨⟨k + 1, m + 1 + n2, by omega, by simp, rfl, fun j hj q' hq' he => ?_⟩, by simp [intOf]; omega⟩
     rcases Nat.lt_succ_iff_lt_or_eq.1 hj with h | h
     ·exact HP.out j h q' hq' he
     ·subst h
      obtain rfl : q' = q := HA.out.mem.inj q' q hq' hq (by rw [he, ← Hqe.out])
      rw [Hb.out]
      exact (allowB_iff _ _ _).1 Hab.out
    | false =>
     go_wp2_with fail
     go_ret
     refine ⟨?_, m + 1 + n2, by simp only [World.drewN_drewN]⟩
     have hfb : fitsB s.bs l = false := by
      rw [← Bool.not_eq_true]
      intro hall
      have h1 := List.all_eq_true.1 hall b (by
       rw [← Hb.out]
       simp only [List.getD, List.getElem?_eq_getElem hqb, Option.getD_some]
       exact List.getElem_mem hqb)
      rw [Hab.out, Bool.or_false, decide_eq_true_eq] at h1
      exact h1 (by rw [Hql.out, Hv.out]; omega)
     rw [hfb]
     rfl
   | dg nv os root =>
    have hm := fun W' => meth_dallows xG W'
    have hna : ∀ W', (nilAhead 292 89 (.pointer (some ⟨xG, 0, none⟩)) "Allows").run Tryz.prog W' = .ok (some false) W' := fun W' => by kernel_rfl
    have Hq : Hid (∀ n', Calls Tryz.prog 115 #[.pointer (some ⟨xG, 0, none⟩), .slice lo (v + 1) lc] ((W.drewN m).drewN n') fun e w' => e = .returned (.bool (allowB b.rows b.nt (picks b.vars l))) ∧ ∃ k, w' = ((W.drewN m).drewN n').drewN k) := fun n' => by
     rw [World.drewN_drewN]
     exact Hcall.out (m + n')
    obtain ⟨ab, hab⟩ : ∃ ab, allowB b.rows b.nt (picks b.vars l) = ab := ⟨_, rfl⟩
    rw [hab] at Hq
    have Hab := hd hab
    clear hab
    go_wp2_with fail
    have hK0 : ∃ n', (W.drewN m).drew = (W.drewN m).drewN n' := ⟨1, rfl⟩
    refine region_H fitsReg 10 (fun w'' => ∃ n', w'' = (W.drewN m).drewN n') (by kernel_rfl) (by kernel_rfl) (by kernel_rfl) ?_
    refine take_at (i := 0) (d := some 21) (v := .iface 89 (.pointer (some ⟨xG, 0, none⟩))) (by kernel_rfl) (by kernel_rfl) (fun _ _ _ h => h) (fun w'' hS => by kernel_rfl) hK0 ?_
    refine take_at (i := 1) (d := some 22) (v := .pointer (some ⟨G, 0, none⟩)) (by kernel_rfl) (by kernel_rfl) (fun _ _ _ h => h) (fun w'' hS => by kernel_rfl) hK0 ?_
    refine take_at (i := 2) (d := some 23) (v := .pointer (some ⟨G, 0, none⟩)) (by kernel_rfl) (by kernel_rfl) (fun _ _ _ h => h) (fun w'' hS => by kernel_rfl) hK0 ?_
    refine take_at (i := 3) (d := some 24) (v := .pointer (some ⟨G, 9, none⟩)) (by kernel_rfl) (by kernel_rfl) (fun _ _ _ h => h) (fun w'' hS => by kernel_rfl) hK0 ?_
    refine take_at (i := 4) (d := some 25) (v := .slice lo (v + 1) lc) (by kernel_rfl) (by kernel_rfl) (fun _ _ _ h => h) (fun w'' hS => exec_load 22 (.tmp 24) (by kernel_rfl) (by kernel_rfl) (by kernel_rfl) (by obtain ⟨n', rfl⟩ := hS; exact c9)) hK0 ?_
    refine take_at (i := 5) (d := some 26) (v := .func (.method "Allows") #[.iface 89 (.pointer (some ⟨xG, 0, none⟩))] #[]) (by kernel_rfl) (by kernel_rfl) (fun _ _ _ h => h) (fun w'' hS => by kernel_rfl) hK0 ?_
    refine take_at (i := 6) (d := some 27) (v := .func (.method "Allows") #[.iface 89 (.pointer (some ⟨xG, 0, none⟩))] #[]) (by kernel_rfl) (by kernel_rfl) (fun _ _ _ h => h) (fun w'' hS => by kernel_rfl) hK0 ?_
    refine take_at (i := 7) (d := some 28) (v := .iface 89 (.pointer (some ⟨xG, 0, none⟩))) (by kernel_rfl) (by kernel_rfl) (fun _ _ _ h => h) (fun w'' hS => by kernel_rfl) hK0 ?_
    refine enter_at (i := 8) (d := some 29) (f := 115) (args := #[.pointer (some ⟨xG, 0, none⟩), .slice lo (v + 1) lc]) (w' := (W.drewN m).drew) (by kernel_rfl) (by kernel_rfl) (by kernel_rfl) ?_
    refine (Hq.out 1).mono ?_
    rintro e w2 ⟨rfl, n2, rfl⟩
    have hK2 : ∃ n', ((W.drewN m).drewN 1).drewN n2 = (W.drewN m).drewN n' := ⟨1 + n2, by simp only [World.drewN_drewN, Nat.add_assoc]⟩
    refine ⟨_, rfl, hK2, ?_⟩
    refine value_at (i := 9) (d := some 30) (v := .bool (!ab)) (w' := ((W.drewN m).drewN 1).drewN n2) (by kernel_rfl) (by kernel_rfl) (by kernel_rfl) hK2 ?_
    refine wpAnyH_done (by kernel_rfl) ?_ _
    simp only [Act.put, List.setIfInBounds_toArray, List.set_cons_zero, List.set_cons_succ]
    cases ab with
    | true =>
     go_wp2_with fail
     refine ⟨⟨k + 1, m + 1 + n2, by omega, by simp, rfl, fun j hj q' hq' he => ?_⟩, by simp [intOf]; omega⟩
     rcases Nat.lt_succ_iff_lt_or_eq.1 hj with h | h
     ·exact HP.out j h q' hq' he
     ·subst h
      obtain rfl : q' = q := HA.out.mem.inj q' q hq' hq (by rw [he, ← Hqe.out])
      rw [Hb.out]
      exact (allowB_iff _ _ _).1 Hab.out
    | false =>
     go_wp2_with fail
     go_ret
     refine ⟨?_, m + 1 + n2, by simp only [World.drewN_drewN]⟩
     have hfb : fitsB s.bs l = false := by
      rw [← Bool.not_eq_true]
      intro hall
      have h1 := List.all_eq_true.1 hall b (by
       rw [← Hb.out]
       simp only [List.getD, List.getElem?_eq_getElem hqb, Option.getD_some]
       exact List.getElem_mem hqb)
      rw [Hab.out, Bool.or_false, decide_eq_true_eq] at h1
      exact h1 (by rw [Hql.out, Hv.out]; omega)
     rw [hfb]
     rfl
  ·obtain ⟨R, hR⟩ : ∃ R, (readyOf s.ts v).length = R := ⟨_, rfl⟩
   have hkR : k = (readyOf s.ts v).length := by omega
   have hfb : fitsB s.bs l = true := by
    unfold fitsB
    rw [List.all_eq_true]
    intro b hb
    obtain ⟨q, hq, he⟩ := List.getElem_of_mem hb
    have hgb : s.bs.getD q tb0 = b := by rw [← he]; simp [List.getD, hq]
    by_cases hlast : lastOf b.vars = (l.length : Int) - 1
    ·have hqt : q < s.ts.length := by rw [HA.out.mem.fits.1]; exact hq
     have hmem : s.ts.getD q tab0 ∈ readyOf s.ts v := by
      unfold readyOf
      rw [List.mem_filter]
      refine ⟨?_, ?_⟩
      ·simp only [List.getD, List.getElem?_eq_getElem hqt, Option.getD_some]
       exact List.getElem_mem hqt
      ·rw [HA.out.mem.fits.2 q hq, hgb, decide_eq_true_eq, hlast, Hv.out]
       omega
     obtain ⟨j, hj, hje⟩ := List.getElem_of_mem hmem
     have hall := HP.out j (by omega) q hqt (by rw [← hje]; simp [List.getD, hj])
     rw [hgb] at hall
     rw [(allowB_iff _ _ _).2 hall, Bool.or_true]
    ·rw [decide_eq_true hlast, Bool.true_or]
   have Hfb := hd hfb
   rw [hR] at hkR hlt hk ⊢
   subst hkR
   have hdk : ¬ ((k : Int) < (k : Int)) := by omega
   clear hfb hlt hk hR
   go_wp2_with fail
   go_ret
   exact ⟨by rw [Hfb.out]; rfl, m, rfl⟩
end Go.Proofs.YtkjfpdfkcfgfkaaGreat

namespace Go.Proofs.YtkjfpdfkcfgfkaaGreat
open Go.RowKit

def mxR (l : List Int) : Nat → Int
 | 0 => -1
 | k + 1 => max (mxR l k) (l.getD k 0)
theorem mxR_eq (l : List Int) (h : ∀ i, i < l.length → 0 ≤ l.getD i 0) : ∀ k, k < l.length → mxR l (k + 1) = maxTo l (k + 1)
 | 0, hk => by
  have := h 0 hk
  simp only [mxR, maxTo]
  omega
 | k + 1, hk => by
  have ih := mxR_eq l h k (by omega)
  have e1 : mxR l (k + 1 + 1) = max (mxR l (k + 1)) (l.getD (k + 1) 0) := rfl
  have e2 : maxTo l (k + 1 + 1) = max (maxTo l (k + 1)) (l.getD (k + 1) 0) := rfl
  rw [e1, e2, ih]
theorem mxR_last (l : List Int) (h : ∀ i, i < l.length → 0 ≤ l.getD i 0) (h1 : 1 ≤ l.length) : mxR l l.length = lastOf l := by
 obtain ⟨k, hk⟩ : ∃ k, l.length = k + 1 := ⟨l.length - 1, by omega⟩
 have := mxR_eq l h k (by omega)
 unfold lastOf
 rw [hk]
 exact this
theorem mxR_ge (l : List Int) : ∀ k i, i < k → l.getD i 0 ≤ mxR l k
 | 0, i, h => absurd h (Nat.not_lt_zero _)
 | k + 1, i, h => by
  have e1 : mxR l (k + 1) = max (mxR l k) (l.getD k 0) := rfl
  rw [e1]
  by_cases he : i = k
  ·subst he
   omega
  ·have := mxR_ge l k i (by omega)
   omega
theorem picks_take (vars : List Int) (l : List Nat) (k : Nat) (hk : k < vars.length) : picks (vars.take (k + 1)) l = picks (vars.take k) l ++ [l.getD (vars.getD k 0).toNat 0] := by
 unfold picks
 rw [List.take_succ_eq_append_getElem hk, List.map_append, getD_of_lt vars k 0 hk]
 rfl
theorem app1g {w w1 : World} {e : TypeId} {v v' x : Value} {xs : List Value} {n : Nat} (hn : xs.length = n) (h1 : w1.ownsRow 0 e 1 v' (n + 1) (xs ++ [x])) (hg : (w.alloc (.cells #[x] e)).grownBy w1 v.ownBlock) (hat : v'.ownBlock = v.ownBlock ∨ v'.ownBlock = some (w.alloc (.cells #[x] e)).heap.size) :
  ∃ g cap, v' = .slice (some ⟨g, 0, none⟩) (n + 1) cap ∧ Row w1 v' e (xs ++ [x]) ∧ Fr (fun k => v.ownBlock = some k) w w1 ∧ (v.ownBlock = some g ∨ g = w.heap.size + 1) ∧ g < w1.heap.size := by
 subst hn
 exact app1 h1 hg hat
def fitT (l : List Nat) (b : Tb) : Bool := decide (lastOf b.vars ≠ (l.length : Int) - 1) || allowB b.rows b.nt (picks b.vars l)

set_option maxHeartbeats 1600000 in
set_option maxRecDepth 1000000 in
theorem refFits_any (W : World) (lo Y : Nat) (zs : List Int) (R : RS) (ao : Option Addr) (acap : Nat) (l : List Nat) (w : World) (hW : Nw W w) (hR : RAt W w lo Y zs R) (hl : l.length ≤ 8) (ha : IntsAt w ao (natZ l)) :
  Calls Tryz.prog 78 #[.pointer (some ⟨Y, 0, none⟩), .slice ao l.length acap] w fun e w' => e = .returned (.bool (fitsB (R.ts.map TbW.tb) l)) ∧ Nw w w' := by
 obtain ⟨i0, hi0, hz0, hz1, hz2⟩ := info_parts Tryz.infoInt
 obtain ⟨cells, t1, _⟩ := hR.tabs
 obtain ⟨tto, tcap, htv⟩ := owns_form t1
 have ht12 := hR.t12
 have HR := hd hR
 have HW := hd hW
 have HA := hd ha
 have Htv := hd htv
 obtain ⟨tn, htn⟩ : ∃ tn, R.ts.length = tn := ⟨_, rfl⟩
 have Htn := hd htn
 rw [htn] at ht12
 obtain ⟨res, hres⟩ : ∃ res, fitsB (R.ts.map TbW.tb) l = res := ⟨_, rfl⟩
 rw [hres]
 have Hres := hd (show (R.ts.map TbW.tb).all (fitT l) = res from hres)
 clear hW hR ha htv htn hres t1
 go_enter Tryz.func78, Tryz.ntmps78
 go_wp2_with fail
 go_loopw [5, 6, 7, 8, 9, 10] (fun k _ _ _ _ _ wr => ∃ i : Nat, i ≤ tn ∧ k = .int .i64 (i : Int) ∧ Hid (Nw w wr) ∧ Hid ((R.ts.take i).all (fun t => fitT l t.tb) = true)) (fun k _ _ _ _ _ _ => tn - (intOf k).toNat)
 case atStart => exact ⟨0, Nat.zero_le _, rfl, Fr.refl _ _, rfl⟩
 case round =>
  obtain ⟨i, hi, rfl, HF, HA1⟩ := hrel
  have d3 : wr.cell? ⟨Y, 3, none⟩ = some (.slice tto tn tcap) := by
   have := (HR.out.nw HF.out).rin.blk.cell 3
   rw [Htv.out, Htn.out] at this
   exact this
  have hYl := (HR.out.nw HF.out).rin.blk.lt
  by_cases hlt : i < tn
  ·have hdk : (i : Int) < (tn : Int) := by omega
   obtain ⟨g, cap, vo, vcap, ro, rcap, he, hgl, c0, c1, c2, c3, hIv, hRr⟩ := (HR.out.nw HF.out).rtabs.cell i (by rw [Htn.out]; exact hlt)
   have hok := HR.out.tok i (by rw [Htn.out]; exact hlt)
   have htk : R.ts.take (i + 1) = R.ts.take i ++ [R.ts.getD i tbw0] := by
    rw [List.take_succ_eq_append_getElem (by rw [Htn.out]; exact hlt), getD_of_lt _ _ _ (by rw [Htn.out]; exact hlt)]
   have hmem : R.ts.getD i tbw0 ∈ R.ts := by
    rw [getD_of_lt _ _ _ (by rw [Htn.out]; exact hlt)]
    exact List.getElem_mem _
   obtain ⟨⟨⟨vars, rows, nt⟩, way⟩, htb⟩ : ∃ t, R.ts.getD i tbw0 = t := ⟨_, rfl⟩
   rw [htb] at c0 c1 c2 c3 hIv hRr hok htk hmem
   dsimp only at c0 c1 c2 c3 hIv hRr hok
   rw [Htv.out, Htn.out] at he
   simp only [Value.slice.injEq] at he
   obtain ⟨rfl, _, _⟩ := he
   obtain ⟨_, hv1, hr60, hVO, hvn, hrl⟩ := okTable_parts hok (okSizes_len HR.out.rin.zok).2
   have hv4 := hVO.four
   have Htk := hd htk
   have Hmem := hd hmem
   have HVO := hd hVO
   have Hrl := hd hrl
   have HIv := hd hIv
   have HRr := hd hRr
   obtain ⟨wt, hwt⟩ : ∃ wt, wr.alloc (.cells #[.slice vo vars.length vcap, .slice ro rows.length rcap, .bool nt, .int .i64 way] 41) = wt := ⟨_, rfl⟩
   clear htk hmem hVO hrl hIv hRr hok htb hvn
   have hfT : Nw wr wt := by rw [← hwt]; exact (Fr.refl _ wr).alloc _
   have hbT : Blk wt wr.heap.size #[.slice vo vars.length vcap, .slice ro rows.length rcap, .bool nt, .int .i64 way] 41 := by rw [← hwt]; exact Blk.new _ _ _
   have HfT := hd hfT
   have HbT := hd hbT
   have HWt := hd ((HW.out.trans HF.out (fun _ x => x.elim)).trans hfT (fun _ x => x.elim))
   have HAt := hd ((HA.out.nw HF.out).nw hfT)
   have hlZ := natZ_len l
   have HlZ := hd hlZ
   clear hfT hbT hlZ
   go_wp2_with fail
   clear hwt c0 c1 c2 c3 hgl d3 hYl
   go_loopw [7, 8, 9] (fun mn la j wq => ∃ (k : Nat) (xs : List Nat), k ≤ vars.length ∧ j = .int .i64 (k : Int) ∧ la = .int .i64 (mxR vars k) ∧ xs.length ≤ k ∧ Hid (Mine wt wq mn 3 (ints xs)) ∧ Hid ((∀ q, q < k → vars.getD q 0 < (l.length : Int)) → xs = picks (vars.take k) l)) (fun _ _ j _ => vars.length - (intOf j).toNat)
   case atStart => exact ⟨0, [], Nat.zero_le _, rfl, rfl, Nat.le_refl _, Mine.nil (Fr.refl _ _) _, hd (fun _ => rfl)⟩
   case round =>
    rename World => wq
    obtain ⟨k, xs, hk, rfl, rfl, hxl, HM, HX⟩ := hrel
    obtain ⟨mo, mc, hmf, _⟩ := HM.out.row.form
    rw [show (ints xs).length = xs.length from by simp [ints]] at hmf
    subst hmf
    have b0 : wq.cell? ⟨wr.heap.size, 0, none⟩ = some (.slice vo vars.length vcap) := (HbT.out.nw HM.out.nw).cell 0
    have hBl := (HbT.out.nw HM.out.nw).lt
    obtain ⟨mx, hmx⟩ : ∃ mx, mxR vars k = mx := ⟨_, rfl⟩
    by_cases hkl : k < vars.length
    ·have hdl : (k : Int) < (vars.length : Int) := by omega
     obtain ⟨vb, vof, hve, hvl, hvc⟩ := ((HIv.out.nw HWt.out).nw HM.out.nw) k hkl
     obtain ⟨hv0, hv8⟩ := HVO.out.ok k hkl
     obtain ⟨u, hu⟩ : ∃ u : Nat, vars.getD k 0 = (u : Int) := ⟨(vars.getD k 0).toNat, by omega⟩
     have hs : mxR vars (k + 1) = max (mxR vars k) (vars.getD k 0) := rfl
     have hpt := picks_take vars l k hkl
     rw [hu] at hvc hs hpt hv8
     rw [hmx] at hs ⊢
     rw [Int.toNat_natCast] at hpt
     have Hs := hd hs
     have Hpt := hd hpt
     have Hu := hd hu
     subst hve
     clear hs hpt hu hmx hv0
     by_cases hul : u < l.length
     ·have hdu : (u : Int) < (l.length : Int) := by omega
      obtain ⟨lb, lof, hle, hll, hlc⟩ := (HAt.out.nw HM.out.nw) u (by rw [HlZ.out]; exact hul)
      rw [natZ_get] at hlc
      obtain ⟨lv, hlv⟩ : ∃ lv, l.getD u 0 = lv := ⟨_, rfl⟩
      rw [hlv] at hlc
      have Hlv := hd hlv
      subst hle
      clear hlv
      go_wp2_with (at_builtin; refine wpList_append_own_at _ rfl _ _ 22 rfl 0 3 i0 (.int .i64 0) 1 8 Tryz.underlying22 hi0 hz0 hz1 hz2 rfl (by decide) (.slice mo xs.length mc) xs.length (ints xs) rfl (by have := HM.out.row.alloc (.cells #[.int .i64 (lv : Int)] 3); unfold Row at this; rw [show (ints xs).length = xs.length from by simp [ints]] at this; exact this) ⟨wq.heap.size, 0, none⟩ 1 1 [.int .i64 (lv : Int)] rfl rfl (cell_one_new _ _ _) (by simp [Value.oneCell']) (by unfold maxLen; omega) (by omega) (Nat.zero_le _) ?_; intro v' w3 hown' hgrow _ hat; obtain ⟨g3, cap3, rfl, hr3', hf3, ha3, hlt3⟩ := app1g (show (ints xs).length = xs.length from by simp [ints]) hown' hgrow hat; have hr3 : Row w3 (.slice (some ⟨g3, 0, none⟩) (xs.length + 1) cap3) 3 (ints (xs ++ [lv])) := (by have e : ints (xs ++ [lv]) = ints xs ++ [.int .i64 (lv : Int)] := (by simp [ints]); unfold Row; rw [e, List.length_append, show (ints xs).length = xs.length from by simp [ints]]; exact hown'); have HM3 := hd (HM.out.more (g := g3) hr3 hf3 rfl (ha3.imp (fun h => h) (fun h => by omega))); clear hown' hgrow hat hr3 hr3' hf3 ha3 hlt3)
      refine ⟨⟨k + 1, xs ++ [lv], by omega, by simp, ?_, by rw [List.length_append]; exact Nat.succ_le_succ hxl, HM3, hd (fun hall => ?_)⟩, by simp [intOf]; omega⟩
      ·rw [Hs.out]
       congr 1
       split <;> omega
      ·rw [Hpt.out, Hlv.out, ← HX.out (fun q hq => hall q (by omega))]
     ·have hdu : ¬ ((u : Int) < (l.length : Int)) := by omega
      go_wp2_with fail
      refine ⟨⟨k + 1, xs, by omega, by simp, ?_, by omega, HM, hd (fun hall => ?_)⟩, by simp [intOf]; omega⟩
      ·rw [Hs.out]
       congr 1
       split <;> omega
      ·have := hall k (by omega)
       rw [Hu.out] at this
       omega
    ·obtain rfl : vars.length = k := by omega
     have hdl : ¬ ((vars.length : Int) < (vars.length : Int)) := by omega
     have hlast : lastOf vars = mx := by rw [← mxR_last vars (fun i hi => (HVO.out.ok i hi).1) hv1]; exact hmx
     have hge := mxR_ge vars vars.length
     rw [hmx] at hge
     have Hlast := hd hlast
     have Hge := hd hge
     have hmx8 : -9223372036854775808 ≤ mx ∧ mx < 9223372036854775807 := by
      obtain ⟨q, hq, he⟩ := maxTo_mem vars vars.length (by omega)
      have h2 := HVO.out.ok q hq
      unfold lastOf at hlast
      omega
     rw [hmx]
     clear hmx hge hlast
     by_cases hm : mx = (l.length : Int) - 1
     ·have hmb : (mx == (l.length : Int) - 1) = true := by rw [hm]; simp
      have hxs := HX.out (fun q hq => by have := Hge.out q hq; omega)
      rw [List.take_length] at hxs
      have hxlen : xs.length = vars.length := by rw [hxs]; simp [picks]
      have b1 : wq.cell? ⟨wr.heap.size, 1, none⟩ = some (.slice ro rows.length rcap) := (HbT.out.nw HM.out.nw).cell 1
      have b2 : wq.cell? ⟨wr.heap.size, 2, none⟩ = some (.bool nt) := (HbT.out.nw HM.out.nw).cell 2
      have b3 : wq.cell? ⟨wr.heap.size, 3, none⟩ = some (.int .i64 way) := (HbT.out.nw HM.out.nw).cell 3
      have hIx : IntsAt wq mo (natZ xs) := by
       have hr := HM.out.row
       have e : ints xs = (natZ xs).map (Value.int .i64) := by simp [ints, natZ]
       rw [e, ← natZ_len xs] at hr
       exact hr.ints'
      have Hall := hd (refAllows_any vo ro mo vcap rcap mc vars.length (natZ xs) rows nt way wq hv4 (by rw [natZ_len]; exact hxlen) hr60 Hrl.out ((HRr.out.nw HWt.out).nw HM.out.nw) hIx)
      rw [allowR_eq (fun j hj => by rw [Hrl.out j hj, hxlen])] at Hall
      have Hxs := hd hxs
      have Hxlen := hd hxlen
      obtain ⟨al, hal⟩ : ∃ al, allowB rows nt xs = al := ⟨_, rfl⟩
      rw [hal] at Hall
      have Hal := hd hal
      have hfit : fitT l ⟨vars, rows, nt⟩ = al := by
       unfold fitT
       rw [show lastOf (Tb.vars ⟨vars, rows, nt⟩) = (l.length : Int) - 1 from by show lastOf vars = _; rw [Hlast.out, hm], ← hal, hxs]
       simp
      have Hfit := hd hfit
      rw [hxlen] at HM ⊢
      have HFq := hd ((HF.out.trans HfT.out (fun _ x => x.elim)).trans HM.out.nw (fun _ x => x.elim))
      clear hxs hxlen hIx hal hfit hm
      cases al with
      | true =>
       go_wp2_with (go_at_call 92; refine Hall.out.mono ?_; rintro e w5 ⟨rfl, hf5⟩; have Hf5 := hd hf5; clear hf5)
       refine ⟨⟨i + 1, by omega, by simp, hd (HFq.out.trans Hf5.out (fun _ x => x.elim)), hd ?_⟩, by simp [intOf]; omega⟩
       rw [Htk.out, List.all_append, HA1.out]
       simp [Hfit.out]
      | false =>
       have hrf : res = false := by
        rw [← Hres.out, Bool.eq_false_iff]
        intro h
        have := List.all_eq_true.1 h ⟨vars, rows, nt⟩ (List.mem_map.2 ⟨_, Hmem.out, rfl⟩)
        rw [Hfit.out] at this
        cases this
       have Hrf := hd hrf
       clear hrf
       go_wp2_with (go_at_call 92; refine Hall.out.mono ?_; rintro e w5 ⟨rfl, hf5⟩; have Hf5 := hd hf5; clear hf5)
       go_ret
       exact ⟨by rw [Hrf.out]; rfl, HFq.out.trans Hf5.out (fun _ x => x.elim)⟩
     ·have hmb : (mx == (l.length : Int) - 1) = false := by rw [beq_eq_false_iff_ne]; exact hm
      have hfit : fitT l ⟨vars, rows, nt⟩ = true := by
       unfold fitT
       rw [show lastOf (Tb.vars ⟨vars, rows, nt⟩) = mx from Hlast.out]
       simp [hm]
      have Hfit := hd hfit
      have HFq := hd ((HF.out.trans HfT.out (fun _ x => x.elim)).trans HM.out.nw (fun _ x => x.elim))
      clear hfit hm
      go_wp2_with fail
      refine ⟨⟨i + 1, by omega, by simp, HFq, hd ?_⟩, by simp [intOf]; omega⟩
      rw [Htk.out, List.all_append, HA1.out]
      simp [Hfit.out]
  ·obtain rfl : tn = i := by omega
   have hdk : ¬ ((tn : Int) < (tn : Int)) := by omega
   have hrt : res = true := by
    have h1 := HA1.out
    rw [← Htn.out, List.take_length] at h1
    rw [← Hres.out, List.all_map]
    exact h1
   have Hrt := hd hrt
   clear hrt
   go_wp2_with fail
   go_ret
   exact ⟨by rw [Hrt.out]; rfl, HF.out⟩
end Go.Proofs.YtkjfpdfkcfgfkaaGreat

namespace Go.Proofs.YtkjfpdfkcfgfkaaGreat
open Go.RowKit

theorem Tryz.infoInts : (Tryz.prog.info? 22).map (fun i => (i.zero, i.size, i.bytes)) = some (some (.slice none 0 0), 1, 24) := by kernel_rfl

def turnedTo (zs : List Int) (k : Nat) : Array Value := ((List.replicate k (-7) ++ (zs ++ [78]).drop k).map (Value.int .i64)).toArray
theorem turnedTo_zero (zs : List Int) : turnedTo zs 0 = ((zs ++ [78]).map (Value.int .i64)).toArray := by simp [turnedTo]
theorem turnedTo_size (zs : List Int) (k : Nat) (hk : k ≤ zs.length + 1) : (turnedTo zs k).size = zs.length + 1 := by simp [turnedTo]; omega
theorem turnedTo_succ (zs : List Int) (k : Nat) (hk : k < zs.length + 1) : (turnedTo zs k).setIfInBounds k (.int .i64 (-7)) = turnedTo zs (k + 1) := by
 apply Array.ext
 ·simp [turnedTo_size zs k (by omega), turnedTo_size zs (k + 1) (by omega)]
 ·intro i h1 h2
  simp only [turnedTo, List.setIfInBounds_toArray, List.getElem_toArray, List.getElem_set, List.getElem_map]
  by_cases h : k = i
  ·subst h; simp
  ·rw [if_neg h]
   congr 1
   simp only [List.getElem_append, List.length_replicate, List.getElem_replicate, List.getElem_drop]
   by_cases h3 : i < k
   ·simp [h3, show i < k + 1 by omega]
   ·simp only [h3, show ¬ i < k + 1 by omega, dite_false]
    have e1 : k + (i - k) = i := by omega
    have e2 : k + 1 + (i - (k + 1)) = i := by omega
    simp only [e1, e2]
theorem turnedTo_end (zs : List Int) : turnedTo zs (zs.length + 1) = (List.replicate (zs.length + 1) (Value.int .i64 (-7))).toArray := by
 simp [turnedTo]

set_option maxHeartbeats 800000 in
set_option maxRecDepth 1000000 in
theorem returned_any (B g : Nat) (ao : Option Addr) (cap : Nat) (zs : List Int) (s0 s1 tv s3 : Value) (xs : List Value) (w : World) (hz : zs.length * 8 ≤ 140737488355328)
  (hB : Blk w B #[s0, s1, tv, s3] 29) (htv : Row w tv 22 xs) (hxs : (xs.length + 1) * 24 ≤ 140737488355328)
  (hg : Blk w g ((zs ++ [78]).map (Value.int .i64)).toArray 3) (hl : IntsAt w ao zs) :
  Calls Tryz.prog 16 #[.pointer (some ⟨B, 0, none⟩), .slice (some ⟨g, 0, none⟩) (zs.length + 1) (zs.length + 1), .slice ao zs.length cap] w fun e w' =>
   e = .returned (.bool true) ∧ ∃ tv', Fr (fun k => k = B ∨ k = g ∨ tv.ownBlock = some k) w w' ∧ Blk w' B #[s0, s1, tv', s3] 29 ∧
    Row w' tv' 22 (xs ++ [.slice (some ⟨g, 0, none⟩) (zs.length + 1) (zs.length + 1)]) ∧ Blk w' g (turnedTo zs (zs.length + 1)) 3 ∧
    (∀ k, tv'.ownBlock = some k → tv.ownBlock = some k ∨ w.heap.size ≤ k) := by
 obtain ⟨i0, hi, hz0, hz1, hz2⟩ := info_parts Tryz.infoInts
 have hg78 : w.cell? ⟨g, zs.length, none⟩ = some (.int .i64 78) := by rw [hg.cell]; simp
 have hown : IntsAt w (some ⟨g, 0, none⟩) zs := IntsAt.of_blk hg 0 zs (fun i hi => by
  simp [List.getElem?_append_left, hi])
 go_enter Tryz.func16, Tryz.ntmps16
 go_wp2_with (go_at_call 33; refine (sameInts_eq _ _ _ _ zs _ hz hown hl).mono ?_; rintro e w' ⟨rfl, n, rfl⟩)
 have hgn : Blk (w.drewN n) g (turnedTo zs 0) 3 := by rw [turnedTo_zero]; exact hg
 have hFr0 : Fr (fun k => k = g) w (w.drewN n) := (Fr.refl _ w).drewN n
 clear hg78 hown hl
 go_loopw [10] (fun i wr => ∃ k : Nat, k ≤ zs.length + 1 ∧ i = .int .i64 k ∧ Hid (Blk wr g (turnedTo zs k) 3) ∧ Fr (fun k => k = g) w wr) (fun i _ => zs.length + 1 - (intOf i).toNat)
 case atStart => exact ⟨0, Nat.zero_le _, rfl, hgn, hFr0⟩
 case round =>
  obtain ⟨k, hk, rfl, hb, hf⟩ := hrel
  clear hgn hFr0
  by_cases hlt : k < zs.length + 1
  ·have hfz := hb.out.free k
   have hck : wr.cell? ⟨g, k, none⟩ = some _ := (hb.out.cell k).trans (Array.getElem?_eq_getElem (by rw [turnedTo_size zs k hk]; exact hlt))
   go_wp2
   go_roundw
   case rel => exact ⟨k + 1, by omega, by go_num, by rw [← turnedTo_succ zs k hlt]; exact hb.out.set k _, hf.setCell _ _ (.inl rfl)⟩
   case measure => simp [intOf]; omega
  ·obtain rfl : k = zs.length + 1 := by omega
   have hgB : g ≠ B := fun e => by subst e; have := (hg.inj hB).2; revert this; decide
   have hBr : Blk wr B #[s0, s1, tv, s3] 29 := hB.fr hf (fun e => hgB e.symm)
   have htr : Row wr tv 22 xs := htv.fr hf (fun k hk e => by subst e; exact htv.ne hg (by decide) hk)
   have hc2 : wr.cell? ⟨B, 2, none⟩ = some tv := hBr.cell 2
   go_wp2_with (at_builtin; refine wpList_append_own_at _ rfl _ _ 26 rfl 0 22 i0 (.slice none 0 0) 1 24 Tryz.underlying26 hi hz0 hz1 hz2 rfl (by decide) _ _ _ rfl (htr.alloc _) ⟨wr.heap.size, 0, none⟩ 1 1 [.slice (some ⟨g, 0, none⟩) (zs.length + 1) (zs.length + 1)] rfl rfl (cell_one_new _ _ _) (by simp [Value.oneCell']) (by unfold maxLen; omega) (by omega) (Nat.zero_le _) ?_; intro v' w1 hown' hgrow _ hat; obtain ⟨g', cap', rfl, hr1, hf1, ha1, hlt1⟩ := app1 hown' hgrow hat; have hB1 : Blk w1 B #[s0, s1, tv, s3] 29 := hBr.fr hf1 (fun e => htr.ne hBr (by decide) e); have hfzB := hB1.free 2; have hcB1 : w1.cell? ⟨B, 2, none⟩ = some tv := hB1.cell 2; clear hown' hgrow hat)
   have hb1 : Blk w1 g (turnedTo zs (zs.length + 1)) 3 := hb.out.fr hf1 (fun e => htr.ne hb.out (by decide) e)
   have hg'B : g' ≠ B := fun e => by
    subst e
    exact hr1.ne hB1 (by decide) rfl
   go_ret
   refine ⟨rfl, .slice (some ⟨g', 0, none⟩) (xs.length + 1) cap', ?_, ?_, ?_, hb1.other _ _ hgB, ?_⟩
   ·exact ((hf.mono (fun i e => .inl (.inr (.inl e)))).trans hf1 (fun i e => .inl (.inr (.inr e)))).setCell _ _ (.inl (.inl rfl))
   ·have := hB1.set 2 (.slice (some ⟨g', 0, none⟩) (xs.length + 1) cap')
    simpa using this
   ·exact hr1.fr ((Fr.refl (fun k => k = B) w1).setCell ⟨B, 2, none⟩ _ (.inl rfl)) (fun k hk e => hg'B (by cases hk; exact e))
   ·intro k hk
    cases hk
    rcases ha1 with h | h
    ·exact .inl h
    ·exact .inr (by have := hf.size; simp only [h]; omega)
end Go.Proofs.YtkjfpdfkcfgfkaaGreat

namespace Go.Proofs.YtkjfpdfkcfgfkaaGreat
open Go.RowKit

theorem wpList_append_may {P : Program} (w : World) {ops : Array Oper} {rest : List Oper} {o : Oper} {a : Act} {Q : Exit → Act → World → Prop} (hgd : o.guard = none) (s x : Operand) (t : TypeId)
  (ho : o.op = .call { callee := .builtin .append, args := #[s, x], argTypes := #[t, t] })
  (e : TypeId) (i : TypeInfo) (z : Value) (bytes : Nat) (ht : P.underlying t = some (.slice e)) (hi : P.info? e = some i) (hz : i.zero = some z)
  (hsize : i.size = 1) (hby : i.bytes = bytes) (hzs : z.cells.size = 1)
  (v : Value) (n : Nat) (xs : List Value) (hs : a.eval s = v) (hown : w.ownsRow 0 e 1 v n xs)
  (ao : Option Addr) (m c : Nat) (news : List Value) (hx : a.eval x = .slice ao m c) (hl : news.length = m) (hsrc : (ao = none ∧ m = 0 ∧ c = 0) ∨ ∃ ad, ao = some ad ∧ ∀ j u, news[j]? = some u → w.cell? (ad.add j) = some u) (h1 : ∀ u ∈ news, u.oneCell' = true)
  (h63 : n + m ≤ maxLen) (hbytes : (n + m) * bytes ≤ 140737488355328)
  (h : ∀ v' w', w'.ownsRow 0 e 1 v' (n + m) (xs ++ news) → w.grownBy w' v.ownBlock → (v'.ownBlock = v.ownBlock ∨ v'.ownBlock = some w.heap.size) → wpList P ops Q rest (a.put o.dst v') w') :
  wpList P ops Q (o :: rest) a w := by
 rcases hsrc with ⟨rfl, rfl, rfl⟩ | ⟨ad, rfl, hnews⟩
 ·have hn : news = [] := List.eq_nil_of_length_eq_zero hl
  subst hn
  refine wpList_append_own_none hgd s x t ho 0 e i 1 ht hi v n xs hs hown hx ?_
  exact h v w (by rw [Nat.add_zero, List.append_nil]; exact hown) ⟨rfl, rfl, rfl, Nat.le_refl _, fun _ _ _ => rfl⟩ (.inl rfl)
 ·exact wpList_append_own_at w hgd s x t ho 0 e i z 1 bytes ht hi hz hsize hby hzs (by decide) v n xs hs hown ad m c news hx (by rw [Nat.mul_one]; exact hl) hnews h1 h63 hbytes (Nat.zero_le _) (fun v' w' a1 a2 _ a3 => h v' w' a1 a2 a3)
theorem appM {w0 w w1 : World} {e : TypeId} {v v' : Value} {xs ys : List Value} {n : Nat} (hM : Mine w0 w v e xs) (hn : (xs ++ ys).length = n) (h1 : w1.ownsRow 0 e 1 v' n (xs ++ ys)) (hg : w.grownBy w1 v.ownBlock) (hat : v'.ownBlock = v.ownBlock ∨ v'.ownBlock = some w.heap.size) : Mine w0 w1 v' e (xs ++ ys) ∧ Fr (fun k => v.ownBlock = some k) w w1 := by
 have hr : Row w1 v' e (xs ++ ys) := by
  unfold Row
  rw [hn]
  exact h1
 have hfr : Fr (fun k => v.ownBlock = some k) w w1 := (Fr.refl (fun k => v.ownBlock = some k) w).grown hg (fun k hk => .inl hk)
 refine ⟨⟨hr, hM.nw.trans hfr (fun i hi => .inr (hM.since i hi)), fun q hq => ?_⟩, hfr⟩
 rcases hat with h | h
 ·exact hM.since q (by rw [← h]; exact hq)
 ·rw [h] at hq
  cases hq
  exact hM.nw.size
structure SolRow (w0 w : World) (v : Value) (vs : List Value) (xss : List (List Nat)) : Prop where
 mine : Mine w0 w v 22 vs
 len : vs.length = xss.length
 each : ∀ j, j < xss.length → Row w (vs.getD j undef) 3 (ints (xss.getD j []))
 new : ∀ j, j < xss.length → ∀ k, (vs.getD j undef).ownBlock = some k → w0.heap.size ≤ k
theorem SolRow.nil {w0 w : World} (h : Nw w0 w) : SolRow w0 w (.slice none 0 0) [] [] := ⟨Mine.nil h _, rfl, fun _ hj => absurd hj (Nat.not_lt_zero _), fun _ hj => absurd hj (Nat.not_lt_zero _)⟩
theorem SolRow.fr {S : Nat → Prop} {w0 w w' : World} {v : Value} {vs : List Value} {xss : List (List Nat)} (h : SolRow w0 w v vs xss) (f : Fr S w w') (hw : Nw w0 w') (hn : ∀ k cur e, Blk w k cur e → e = 3 ∨ v.ownBlock = some k → ¬ S k) : SolRow w0 w' v vs xss :=
 ⟨⟨h.mine.row.fr f (fun k hk => by
  obtain ⟨cur, hb, _⟩ := h.mine.row.blk hk
  exact hn k cur _ hb (.inr hk)), hw, h.mine.since⟩, h.len, fun j hj => (h.each j hj).fr f (fun k hk => by
  obtain ⟨cur, hb, _⟩ := (h.each j hj).blk hk
  exact hn k cur _ hb (.inl rfl)), h.new⟩
theorem SolRow.step {w0 w w' : World} {v : Value} {vs : List Value} {xss : List (List Nat)} (h : SolRow w0 w v vs xss) (f : Nw w w') : SolRow w0 w' v vs xss := h.fr f (h.mine.nw.trans f (fun _ x => x.elim)) (fun _ _ _ _ _ x => x)
theorem SolRow.lower {w0 w1 w : World} {v : Value} {vs : List Value} {xss : List (List Nat)} (h : SolRow w1 w v vs xss) (f : Nw w0 w1) : SolRow w0 w v vs xss := ⟨⟨h.mine.row, f.trans h.mine.nw (fun _ x => x.elim), fun q hq => Nat.le_trans f.size (h.mine.since q hq)⟩, h.len, h.each, fun j hj k hk => Nat.le_trans f.size (h.new j hj k hk)⟩
theorem getD_two {α : Type} (a b : List α) (d : α) (j : Nat) : (a ++ b).getD j d = if j < a.length then a.getD j d else b.getD (j - a.length) d := by
 simp only [List.getD]
 by_cases h : j < a.length
 ·rw [if_pos h, List.getElem?_append_left h]
 ·rw [if_neg h, List.getElem?_append_right (by omega)]
theorem SolRow.app {w0 w1 w w' : World} {v v1 v' : Value} {vs vs1 : List Value} {xss xss1 : List (List Nat)} (h : SolRow w0 w v vs xss) (h1 : SolRow w1 w v1 vs1 xss1) (hw : w0.heap.size ≤ w1.heap.size) (hM : Mine w0 w' v' 22 (vs ++ vs1)) (f : Fr (fun k => v.ownBlock = some k) w w') : SolRow w0 w' v' (vs ++ vs1) (xss ++ xss1) := by
 have hI : ∀ {u : Value} {xs : List Value}, Row w u 3 xs → Row w' u 3 xs := fun hr => hr.fr f (fun k hk e => by
  obtain ⟨cur, hb, _⟩ := hr.blk hk
  obtain ⟨cur', hb', _⟩ := h.mine.row.blk e
  exact absurd (hb.inj hb').2 (by decide))
 refine ⟨hM, by rw [List.length_append, List.length_append, h.len, h1.len], fun j hj => ?_, fun j hj => ?_⟩
 ·rw [List.length_append] at hj
  rw [getD_two, getD_two, h.len]
  by_cases hl : j < xss.length
  ·rw [if_pos hl, if_pos hl]
   exact hI (h.each j hl)
  ·rw [if_neg hl, if_neg hl]
   exact hI (h1.each (j - xss.length) (by omega))
 ·rw [List.length_append] at hj
  rw [getD_two, h.len]
  by_cases hl : j < xss.length
  ·rw [if_pos hl]
   exact h.new j hl
  ·rw [if_neg hl]
   exact fun k hk => Nat.le_trans hw (h1.new (j - xss.length) (by omega) k hk)
theorem solN_len (d : List Nat) (bs : List Tb) : ∀ m l, (solN d bs m l).length ≤ 8 ^ m
 | 0, l => by simp [solN]
 | m + 1, l => by
  have ih := solN_len d bs m
  have key : ∀ vs : List Nat, (vs.flatMap (fun v => if fitsB bs (l ++ [v]) then solN d bs m (l ++ [v]) else [])).length ≤ vs.length * 8 ^ m := by
   intro vs
   induction vs with
   | nil => simp
   | cons v vs ihv =>
    rw [List.flatMap_cons, List.length_append, List.length_cons, Nat.add_mul, Nat.one_mul]
    have h1 : (if fitsB bs (l ++ [v]) then solN d bs m (l ++ [v]) else []).length ≤ 8 ^ m := by
     split
     ·exact ih _
     ·simp
    omega
  have h8 : (vals (d.getD l.length 0)).length ≤ 8 := Nat.le_trans (List.length_filter_le _ _) (by simp)
  have := key (vals (d.getD l.length 0))
  show ((vals (d.getD l.length 0)).flatMap _).length ≤ _
  rw [Nat.pow_succ, Nat.mul_comm]
  exact Nat.le_trans this (Nat.mul_le_mul_right _ h8)
def solF (d : List Nat) (bs : List Tb) (m : Nat) (l : List Nat) : List (List Nat) := if fitsB bs l then solN d bs m l else []
theorem solN_succ (d : List Nat) (bs : List Tb) (m : Nat) (l : List Nat) : solN d bs (m + 1) l = (vals (d.getD l.length 0)).flatMap (fun v => solF d bs m (l ++ [v])) := rfl
theorem flat_len {d : List Nat} {bs : List Tb} {m : Nat} {l : List Nat} : ∀ (vs : List Nat), (vs.flatMap (fun v => solF d bs m (l ++ [v]))).length ≤ vs.length * 8 ^ m
 | [] => by simp
 | v :: vs => by
  have ih := flat_len (d := d) (bs := bs) (m := m) (l := l) vs
  rw [List.flatMap_cons, List.length_append, List.length_cons, Nat.add_mul, Nat.one_mul]
  have h1 : (solF d bs m (l ++ [v])).length ≤ 8 ^ m := by
   unfold solF
   split
   ·exact solN_len d bs m _
   ·simp
  omega
theorem take_app {α : Type} (a b : List α) (n : Nat) : (a ++ b).take n = a.take n ++ b.take (n - (a.take n).length) := by
 rw [List.take_append, List.length_take]
 congr 2
 omega
def SolOk (W : World) (lo Y : Nat) (zs : List Int) (R : RS) (d : List Nat) (m : Nat) : Prop := ∀ (l : List Nat) (lv : Value) (most : Nat) (w : World), l.length + m = zs.length → Nw W w → RAt W w lo Y zs R → LAt w lv l → (most : Int) < 9223372036854775808 →
 Calls Tryz.prog 51 #[.pointer (some ⟨Y, 0, none⟩), lv, .int .i64 (most : Int)] w fun e w' => ∃ v vs, e = .returned v ∧ SolRow w w' v vs ((solF d (R.ts.map TbW.tb) m l).take most)
theorem LAt.src {w : World} {lo : Option Addr} {lc : Nat} {l : List Nat} (h : LAt w (.slice lo l.length lc) l) : (lo = none ∧ l.length = 0 ∧ lc = 0) ∨ ∃ ad, lo = some ad ∧ ∀ (j : Nat) (v : Value), (ints l)[j]? = some v → w.cell? (ad.add j) = some v := by
 rcases h with ⟨h0, hv⟩ | ⟨b, o, c, hv, hI⟩
 ·subst h0
  simp only [Value.slice.injEq] at hv
  exact .inl ⟨hv.1, rfl, hv.2.2⟩
 ·simp only [Value.slice.injEq] at hv
  refine .inr ⟨⟨b, o, none⟩, hv.1, fun j v hj => ?_⟩
  have hjl : j < l.length := by
   have := (List.getElem?_eq_some_iff.1 hj).1
   simpa [ints] using this
  obtain ⟨b', o', he, _, hc⟩ := hI j (by rw [natZ_len]; exact hjl)
  simp only [Option.some.injEq, Addr.mk.injEq, and_true] at he
  obtain ⟨rfl, rfl⟩ := he
  rw [show (⟨b, o, none⟩ : Addr).add j = ⟨b, o + j, none⟩ from by by_cases h : j = 0 <;> simp [Addr.add, h], hc, natZ_get]
  simp only [ints, List.getElem?_map, List.getElem?_eq_getElem hjl, Option.map_some, Option.some.injEq] at hj
  rw [← hj, getD_of_lt _ _ _ hjl]
theorem SolRow.src {w0 w : World} {v : Value} {vs : List Value} {xss : List (List Nat)} (h : SolRow w0 w v vs xss) : ∀ so n sc, v = .slice so n sc → ((so = none ∧ n = 0 ∧ sc = 0) ∨ ∃ ad, so = some ad ∧ ∀ j u, vs[j]? = some u → w.cell? (ad.add j) = some u) ∧ ∀ u ∈ vs, u.oneCell' = true := fun so n sc hv => by
 refine ⟨?_, fun u hu => ?_⟩
 ·rcases h.mine.row.2 with ⟨h1, h0⟩ | ⟨g, cap, cur, h1, _⟩
  ·rw [hv] at h1
   simp only [Value.slice.injEq] at h1
   exact .inl h1
  ·have hc := h.mine.row.cells (g := g) (by rw [h1]; rfl)
   rw [hv] at h1
   simp only [Value.slice.injEq] at h1
   exact .inr ⟨_, h1.1, hc⟩
 ·obtain ⟨j, hj, rfl⟩ := List.getElem_of_mem hu
  have hr := h.each j (by rw [← h.len]; exact hj)
  rw [getD_of_lt _ _ _ hj] at hr
  obtain ⟨o, c, hf, _⟩ := hr.form
  rw [hf]
  rfl
theorem ints_len (l : List Nat) : (ints l).length = l.length := by simp [ints]
theorem ints_one (l : List Nat) : ∀ u ∈ ints l, u.oneCell' = true := fun u hu => by
 simp only [ints, List.mem_map] at hu
 obtain ⟨x, _, rfl⟩ := hu
 rfl

set_option maxHeartbeats 1600000 in
set_option maxRecDepth 1000000 in
theorem sol_step (W : World) (lo Y : Nat) (zs : List Int) (R : RS) (d : List Nat) (hd8 : ∀ q, q < zs.length → vals (d.getD q 0) = rDom R.now.bss R.now.dead q) (m : Nat) (IH : ∀ m', m' < m → SolOk W lo Y zs R d m') : SolOk W lo Y zs R d m := by
 intro l lv most w hm hW hR hl hmost
 obtain ⟨i0, hi0, hz0, hz1, hz2⟩ := info_parts Tryz.infoInt
 obtain ⟨i1, hi1, hz1a, hz1b, hz1c⟩ := info_parts Tryz.infoInts
 obtain ⟨llo, lc, hlv, hIl⟩ := hl.form
 have hz := okSizes_len hR.rin.zok
 have hl8 : l.length ≤ 8 := by omega
 have Hfits := hd (refFits_any W lo Y zs R llo lc l w hW hR hl8 hIl)
 subst hlv
 have HL := hd hl
 have HR := hd hR
 have HW := hd hW
 obtain ⟨szo, szc, hszf, _⟩ := hR.rin.sz.form
 rw [List.length_map] at hszf
 have Hsz := hd (show ∀ w', Nw w w' → w'.cell? ⟨Y, 0, none⟩ = some (.slice szo zs.length szc) from fun w' f => by
  have := (hR.nw f).rin.blk.cell 0
  rw [hszf] at this
  exact this)
 have hYl0 := hR.rin.blk.lt
 obtain ⟨ft, hft⟩ : ∃ ft, fitsB (R.ts.map TbW.tb) l = ft := ⟨_, rfl⟩
 rw [hft] at Hfits
 have hz8 := hz.2
 have HIH := hd IH
 have Hd8 := hd hd8
 have hsF : solF d (R.ts.map TbW.tb) m l = if ft then solN d (R.ts.map TbW.tb) m l else [] := by
  unfold solF
  rw [hft]
 have HsF := hd hsF
 have Hil := hd (ints_len l)
 have Hm := hd hm
 clear hm hl hR hW hszf hIl hft hz IH hd8 hsF
 cases ft with
 | false =>
  go_enter Tryz.func51, Tryz.ntmps51
  go_wp2_with (go_at_call 78; refine Hfits.out.mono ?_; rintro e w1 ⟨rfl, hf1⟩; have Hf1 := hd hf1; clear hf1)
  go_ret
  refine ⟨.slice none 0 0, [], rfl, ?_⟩
  rw [HsF.out]
  simp only [Bool.false_eq_true, if_false, List.take_nil]
  exact SolRow.nil Hf1.out
 | true =>
  by_cases hm0 : most = 0
  ·subst hm0
   go_enter Tryz.func51, Tryz.ntmps51
   go_wp2_with (go_at_call 78; refine Hfits.out.mono ?_; rintro e w1 ⟨rfl, hf1⟩; have Hf1 := hd hf1; clear hf1)
   go_ret
   refine ⟨.slice none 0 0, [], rfl, ?_⟩
   rw [List.take_zero]
   exact SolRow.nil Hf1.out
  ·have hmp : ¬ ((most : Int) ≤ 0) := by omega
   cases m with
   | zero =>
    have hle : l.length = zs.length := by have := Hm.out; omega
    have hleb : ((l.length : Int) == (zs.length : Int)) = true := by rw [hle]; simp
    clear hle
    go_enter Tryz.func51, Tryz.ntmps51
    go_upto_region 6 with (go_at_call 78; refine Hfits.out.mono ?_; rintro e w1 ⟨rfl, hf1⟩; have x0 := Hsz.out w1 hf1; have hYl := Nat.lt_of_lt_of_le hYl0 hf1.size; have Hf1 := hd hf1; have Hsrc := hd (HL.out.nw hf1).src; clear hf1)
    go_wp2_with (at_builtin; refine wpList_append_may _ rfl _ _ 22 rfl 3 i0 (.int .i64 0) 8 Tryz.underlying22 hi0 hz0 hz1 hz2 rfl (.slice none 0 0) 0 [] rfl (World.ownsRow_nil _ _ _ _) llo l.length lc (ints l) rfl Hil.out Hsrc.out (ints_one l) (by unfold maxLen; omega) (by omega) ?_; intro v' w2 hown' hgrow hat; obtain ⟨hM, hF2⟩ := appM (Mine.nil (Fr.refl (fun _ => False) w1) 3) (ys := ints l) (n := 0 + l.length) (by rw [List.nil_append, Nat.zero_add]; exact Hil.out) hown' hgrow hat; rw [List.nil_append] at hM; obtain ⟨mo, mc, hmf, _⟩ := hM.row.form; rw [Hil.out] at hmf; subst hmf; have HM := hd hM; clear hown' hgrow hat hM hF2)
    go_ret
    refine ⟨_, [.slice mo l.length mc], rfl, ?_⟩
    have e1 : (solF d (R.ts.map TbW.tb) 0 l).take most = [l] := by
     rw [HsF.out]
     obtain ⟨k, rfl⟩ : ∃ k, most = k + 1 := ⟨most - 1, by omega⟩
     simp [solN]
    rw [e1]
    have hal : Nw w2 (w2.alloc (.cells #[.slice mo l.length mc] 22)) := (Fr.refl _ w2).alloc _
    have hbl := Blk.new w2 #[.slice mo l.length mc] 22
    have h12 := Hf1.out.trans HM.out.nw (fun _ x => x.elim)
    refine ⟨⟨⟨rfl, .inr ⟨w2.heap.size, 1, _, rfl, Nat.zero_le _, hbl, Nat.le_refl _, by unfold maxLen; omega, rfl, rfl⟩⟩, h12.trans hal (fun _ x => x.elim), fun q hq => ?_⟩, rfl, fun j hj => ?_, fun j hj k hk => ?_⟩
    ·cases hq
     exact h12.size
    ·have hj' : j < 1 := hj
     obtain rfl : j = 0 := by omega
     exact HM.out.row.nw hal
    ·have hj' : j < 1 := hj
     obtain rfl : j = 0 := by omega
     exact Nat.le_trans Hf1.out.size (HM.out.since k hk)
   | succ m =>
    have hne : ((l.length : Int) == (zs.length : Int)) = false := by rw [beq_eq_false_iff_ne]; have := Hm.out; omega
    have hlz : l.length < zs.length := by have := Hm.out; omega
    have hlz' : ((l.length : Int) != (zs.length : Int)) = true := by rw [bne_iff_ne]; omega
    have HdD := hd (Hd8.out l.length hlz)
    obtain ⟨D, hD⟩ : ∃ D, rDom R.now.bss R.now.dead l.length = D := ⟨_, rfl⟩
    have HDl := hd (show D.length ≤ 6 from by rw [← hD]; exact rDom_le HR.out.rin.b6 l.length (by rw [HR.out.rin.len]; exact hlz))
    rw [hD] at HdD
    have HD := hd hD
    have hsol : solF d (R.ts.map TbW.tb) (m + 1) l = D.flatMap (fun v => solF d (R.ts.map TbW.tb) m (l ++ [v])) := by
     rw [HsF.out, if_pos rfl, solN_succ, HdD.out]
    have Hsol := hd hsol
    have Hih := hd (HIH.out m (by omega))
    clear hD hsol hlz
    go_enter Tryz.func51, Tryz.ntmps51
    go_wp2_with (first
     | (go_at_call 78; refine Hfits.out.mono ?_; rintro e w1 ⟨rfl, hf1⟩; have x0 := Hsz.out w1 hf1; have hYl := Nat.lt_of_lt_of_le hYl0 hf1.size; have Hf1 := hd hf1; have Hdom := hd (refDomain_any lo Y zs R.szv R.now.inv R.now.vs R.now.bss R.now.dead R.tv R.lv l.length w1 (HR.out.nw hf1).rin (by rw [HR.out.rin.len]; have := Hm.out; omega)); clear hf1)
     | (go_at_call 54; refine Hdom.out.mono ?_; rintro e w2 ⟨dv, rfl, hM⟩; have hM' : Mine w1 w2 dv 3 (ints D) := (by have := hM; rw [show (if R.now.dead then [] else trueTo (R.now.bss.getD l.length []) (R.now.bss.getD l.length []).length) = D from HD.out] at this; exact this); obtain ⟨dvo, dvc, hdf, _⟩ := hM'.row.form; rw [ints_len] at hdf; subst hdf; have HMd := hd hM'; clear hM hM'))
    have HN2 := hd (Hf1.out.trans HMd.out.nw (fun _ x => x.elim))
    clear x0 hYl Hdom
    go_loopw [9, 11, 12] (fun out i _ wr => ∃ (k : Nat) (vs : List Value), k ≤ D.length ∧ i = .int .i64 (k : Int) ∧ Hid (SolRow w2 wr out vs (((D.take k).flatMap (fun v => solF d (R.ts.map TbW.tb) m (l ++ [v]))).take most)) ∧ Hid (Nw w2 wr)) (fun _ i _ _ => D.length - (intOf i).toNat)
    case atStart => exact ⟨0, [], Nat.zero_le _, rfl, hd (by simpa using SolRow.nil (Fr.refl (fun _ => False) w2)), Fr.refl _ _⟩
    case round =>
     obtain ⟨k, vs, hk, rfl, HS, HN⟩ := hrel
     obtain ⟨oo, oc, hof, _⟩ := HS.out.mine.row.form
     obtain ⟨n, hn⟩ : ∃ n, vs.length = n := ⟨_, rfl⟩
     rw [hn] at hof
     have Hn := hd hn
     subst hof
     clear hn
     have hDl6 := HDl.out
     by_cases hlt : k < D.length
     ·have hdk : (k : Int) < (D.length : Int) := by omega
      obtain ⟨db, dcap, hde, hdo, hdc, _⟩ := (HMd.out.row.nw HN.out).cell k (by rw [ints_len]; exact hlt)
      have hdc' : wr.cell? ⟨db, k, none⟩ = some (.int .i64 ((D.getD k 0 : Nat) : Int)) := by
       rw [hdc]
       simp only [ints, List.getElem_map]
       rw [getD_of_lt _ _ _ hlt]
      have hdbl := (HMd.out.row.nw HN.out).lt hdo
      simp only [Value.slice.injEq] at hde
      obtain ⟨rfl, hde1, hde2⟩ := hde
      clear hde1 hde2
      obtain ⟨v, hv⟩ : ∃ v, D.getD k 0 = v := ⟨_, rfl⟩
      rw [hv] at hdc'
      have htk : D.take (k + 1) = D.take k ++ [v] := by rw [List.take_succ_eq_append_getElem hlt, ← hv, getD_of_lt _ _ _ hlt]
      have Htk := hd htk
      have Hsrc := hd (HL.out.nw (HN2.out.trans HN.out (fun _ x => x.elim))).src
      have hnm : n ≤ most := by
       rw [← Hn.out, HS.out.len, List.length_take]
       omega
      have hbig : ((D.take (k + 1)).flatMap (fun v => solF d (R.ts.map TbW.tb) m (l ++ [v]))).length ≤ 16777216 := by
       refine Nat.le_trans (flat_len _) ?_
       have h1 : (D.take (k + 1)).length ≤ 8 := by rw [List.length_take]; have := HDl.out; omega
       have h2 : m ≤ 7 := by have := Hm.out; omega
       refine Nat.le_trans (Nat.mul_le_mul h1 (Nat.pow_le_pow_right (by decide) h2)) (by decide)
      have Hbig := hd hbig
      clear hdc hdo hv htk hbig
      go_wp2_with (first
       | (at_builtin; refine wpList_append_may _ rfl _ _ 22 rfl 3 i0 (.int .i64 0) 8 Tryz.underlying22 hi0 hz0 hz1 hz2 rfl (.slice none 0 0) 0 [] rfl (World.ownsRow_nil _ _ _ _) llo l.length lc (ints l) rfl Hil.out Hsrc.out (ints_one l) (by unfold maxLen; omega) (by omega) ?_; intro v' w3 hown' hgrow hat; obtain ⟨hM, hF2⟩ := appM (Mine.nil (Fr.refl (fun _ => False) wr) 3) (ys := ints l) (n := 0 + l.length) (by rw [List.nil_append, Nat.zero_add]; exact Hil.out) hown' hgrow hat; rw [List.nil_append] at hM; obtain ⟨mo, mc, hmf, _⟩ := hM.row.form; rw [Hil.out] at hmf; subst hmf; have HM := hd hM; have y0 := (hM.nw.cell hdbl (fun x => x)).trans hdc'; have ydl := Nat.lt_of_lt_of_le hdbl hM.nw.size; clear hown' hgrow hat hM hF2)
       | (at_builtin; refine wpList_append_own_at _ rfl _ _ 22 rfl 0 3 i0 (.int .i64 0) 1 8 Tryz.underlying22 hi0 hz0 hz1 hz2 rfl (by decide) (.slice mo l.length mc) l.length (ints l) rfl (by have := HM.out.row.alloc (.cells #[.int .i64 (v : Int)] 3); unfold Row at this; rw [Hil.out] at this; exact this) ⟨w3.heap.size, 0, none⟩ 1 1 [.int .i64 (v : Int)] rfl rfl (cell_one_new _ _ _) (by simp [Value.oneCell']) (by unfold maxLen; omega) (by omega) (Nat.zero_le _) ?_; intro v' w4 hown' hgrow _ hat; obtain ⟨g4, cap4, rfl, hr4, hf4, ha4, hlt4⟩ := app1g Hil.out hown' hgrow hat; have hr4' : Row w4 (.slice (some ⟨g4, 0, none⟩) (l.length + 1) cap4) 3 ((natZ (l ++ [v])).map (Value.int .i64)) := (by rw [show (natZ (l ++ [v])).map (Value.int .i64) = ints l ++ [.int .i64 (v : Int)] from by simp [natZ, ints]]; exact hr4); have HL4 := hd hr4'.lat; have HN4 := hd (HM.out.nw.trans hf4 (fun i hi => .inr (HM.out.since i hi))); clear hown' hgrow hat hr4 hr4' hf4 ha4 hlt4; have Hcall := hd (Hih.out (l ++ [v]) (.slice (some ⟨g4, 0, none⟩) (l.length + 1) cap4) (most - n) w4 (by rw [List.length_append]; have := Hm.out; have e : [v].length = 1 := rfl; omega) (HW.out.trans ((HN2.out.trans HN.out (fun _ x => x.elim)).trans HN4.out (fun _ x => x.elim)) (fun _ x => x.elim)) (HR.out.nw ((HN2.out.trans HN.out (fun _ x => x.elim)).trans HN4.out (fun _ x => x.elim))) HL4.out (by omega)); rw [show ((most - n : Nat) : Int) = (most : Int) - (n : Int) from by omega] at Hcall)
       | (go_at_call 51; refine Hcall.out.mono ?_; rintro e w5 ⟨v5, vs5, rfl, hS5⟩; obtain ⟨so5, sc5, hsf5, _⟩ := hS5.mine.row.form; have H54 := hd (hS5.src so5 vs5.length sc5 hsf5); subst hsf5; have HS5 := hd hS5; clear hS5; have HS0 := hd (HS.out.fr ((HN4.out.trans HS5.out.mine.nw (fun _ x => x.elim))) (HS.out.mine.nw.trans (HN4.out.trans HS5.out.mine.nw (fun _ x => x.elim)) (fun _ x => x.elim)) (fun _ _ _ _ _ x => x)); have HSr := hd HS0.out.mine.row; have Hxss := hd (show ((D.take (k + 1)).flatMap (fun v => solF d (R.ts.map TbW.tb) m (l ++ [v]))).take most = ((D.take k).flatMap (fun v => solF d (R.ts.map TbW.tb) m (l ++ [v]))).take most ++ (solF d (R.ts.map TbW.tb) m (l ++ [v])).take (most - n) from by rw [Htk.out, List.flatMap_append, take_app, ← HS.out.len, Hn.out]; simp); have Hnb := hd (show n + vs5.length ≤ 16777216 from by have e := congrArg List.length Hxss.out; rw [List.length_append] at e; have h1 := Hbig.out; have h2 := List.length_take_le' most ((D.take (k + 1)).flatMap (fun v => solF d (R.ts.map TbW.tb) m (l ++ [v]))); have h3 := HS5.out.len; have h4 := HS.out.len; have h5 := Hn.out; omega))
       | (at_builtin; refine wpList_append_may _ rfl _ _ 26 rfl 22 i1 (.slice none 0 0) 24 Tryz.underlying26 hi1 hz1a hz1b hz1c rfl (.slice oo n oc) n vs rfl (by have := HSr.out; unfold Row at this; rw [Hn.out] at this; exact this) so5 vs5.length sc5 vs5 rfl rfl H54.out.1 H54.out.2 (by have := Hnb.out; unfold maxLen; omega) (by have := Hnb.out; omega) ?_; intro v' w6 hown' hgrow hat; obtain ⟨hM6, hF6⟩ := appM (HS0.out.mine) (ys := vs5) (n := n + vs5.length) (by rw [List.length_append, Hn.out]) hown' hgrow hat; obtain ⟨mo6, mc6, hmf6, _⟩ := hM6.row.form; subst hmf6; have HM6 := hd hM6; have HF6 := hd hF6; clear hown' hgrow hat hM6 hF6))
      refine ⟨⟨k + 1, vs ++ vs5, by omega, by simp, hd ?_, hd HM6.out.nw⟩, by simp [intOf]; omega⟩
      rw [Hxss.out]
      have := HS0.out.app HS5.out (HS.out.mine.nw.trans HN4.out (fun _ x => x.elim)).size HM6.out HF6.out
      rw [List.length_append] at this
      exact this
     ·obtain rfl : D.length = k := by omega
      have hdk : ¬ ((D.length : Int) < (D.length : Int)) := by omega
      go_wp2_with fail
      go_ret
      refine ⟨_, rfl, vs, ?_⟩
      have := HS.out
      rw [List.take_length, ← Hsol.out] at this
      exact this.lower HN2.out
theorem refSol_any (W : World) (lo Y : Nat) (zs : List Int) (R : RS) (d : List Nat) (hd8 : ∀ q, q < zs.length → vals (d.getD q 0) = rDom R.now.bss R.now.dead q) (m : Nat) : SolOk W lo Y zs R d m := Nat.strongRecOn m (sol_step W lo Y zs R d hd8)
end Go.Proofs.YtkjfpdfkcfgfkaaGreat

namespace Go.Proofs.YtkjfpdfkcfgfkaaGreat
open Go.RowKit Go.Shelf
attribute [local go_sem] Oper.semAt_some

set_option maxHeartbeats 1600000 in
theorem each_in2 (n s l : Nat) (hs : s < 256) (J Jx : List Nat → World → Prop) (W : World) (h0 : J [] W)
  (hY : ∀ (pre : List Nat) (v : Nat) (W1 : World), J pre W1 → (pre ++ [v]) <+: vals s → YieldAt Fence.wide (n - 1) Tryz.prog l #[.int .i64 (v : Int)] W1 fun e W' => (e = .returned (.bool true) ∧ J (pre ++ [v]) W') ∨ (e = .returned (.bool false) ∧ Jx (pre ++ [v]) W')) :
  CallsIn Fence.wide n Tryz.prog 49 #[.int .u8 s, .func (.yield l) #[] #[]] W fun e W' => (∃ v, e = .returned v) ∧ (J (vals s) W' ∨ ∃ pre v, (pre ++ [v]) <+: vals s ∧ Jx (pre ++ [v]) W') := by
 refine callsIn_of_wp Tryz.func49 rfl trivial ?_ rfl
 simp only [Tryz.ntmps49, List.size_toArray, List.length_cons, List.length_nil, Nat.reduceAdd, Nat.reduceSub, Array.replicate_succ, Array.replicate_zero, List.push_toArray, List.append_toArray, List.nil_append, List.cons_append]
 gi_wp2
 gi_loopw [4] (fun p wr => ∃ (pre : List Nat) (r : Nat), p = .int .u8 r ∧ r < 256 ∧ Hid (pre ++ vals r = vals s) ∧ J pre wr) (fun p _ => (intOf p).toNat)
 case atStart => exact ⟨[], s, rfl, hs, rfl, h0⟩
 case round =>
  obtain ⟨pre, r, rfl, hr, HP, hJ⟩ := hrel
  by_cases hr0 : r = 0
  ·subst hr0
   gi_wp2
   go_end0
   exact ⟨⟨_, rfl⟩, .inl (by have := HP.out; rw [vals_zero, List.append_nil] at this; rw [← this]; exact hJ)⟩
  ·obtain ⟨hv1, hv2, hv3⟩ := vals_cons r hr hr0
   have hpos : (0 : Int) < (r : Int) := by omega
   have hr1 : ((r : Int) != 0) = true := by simp; omega
   have hpre : (pre ++ [tz r]) <+: vals s := ⟨vals (r &&& (r - 1)), by rw [← HP.out, hv1]; simp⟩
   obtain ⟨fn, tmps, assign, body, hy, hR⟩ := hY pre (tz r) wr hJ hpre
   have HV := hd hv1
   clear hv1
   gi_wp2_with fail
   refine ⟨trivial, (fun h => by cases h), ?_⟩
   refine (callsIn_wide.2 (tz_any r _ hr)).mono ?_
   rintro e w' ⟨rfl, rfl⟩
   gi_wp2_with fail
   refine ⟨(fun h => by cases h), ?_⟩
   refine hR.mono ?_
   rintro e W3 (⟨rfl, hJ3⟩ | ⟨rfl, hJ3⟩)
   ·gi_wp2
    have e1 : bits .and .u8 (r : Int) ((r : Int) - 1) = ((r &&& (r - 1) : Nat) : Int) := by
     have := u8_and_nat r (r - 1) (by omega) (by omega)
     rw [← this, show (((r - 1 : Nat) : Int)) = (r : Int) - 1 from by omega]
    rw [e1]
    refine ⟨⟨pre ++ [tz r], r &&& (r - 1), rfl, by omega, ?_, hJ3⟩, by simp [intOf]; omega⟩
    show _ = _
    rw [← HP.out, HV.out]
    simp
   ·gi_wp2
    exact bodyPost_ret (v := .tuple #[]) (results_none rfl _ _ _) rfl ⟨⟨_, rfl⟩, .inr ⟨pre, tz r, hpre, hJ3⟩⟩

structure KeepsLo (lo : Nat) (W W' : World) : Prop where
 size : W.heap.size ≤ W'.heap.size
 same : ∀ (k : Nat) (o : Obj), lo ≤ k → W.heap[k]? = some o → loopy o = true → W'.heap[k]? = some o
theorem Fr.keepsLo {S : Nat → Prop} {A B : World} {lo : Nat} (h : Fr S A B) (hs : ∀ k, S k → k < lo ∨ ∃ cur e, Blk A k cur e) : KeepsLo lo A B :=
 ⟨h.size, fun k o hlo ho hc => (h.block k (lt_of_block ho) (fun hk => by
  rcases hs k hk with h1 | ⟨cur, e, hb⟩
  ·omega
  ·have h' : A.heap[k]? = some (.cells cur e (0, 0)) := hb
   rw [h'] at ho
   cases ho
   cases hc)).trans ho⟩
def eachPost2 (lo : Nat) (I Ix : World → Prop) (W : World) : Exit → Act → World → Prop
 | .normal, _, W' => KeepsLo lo W W' ∧ I W'
 | .ret, _, W' => KeepsLo lo W W' ∧ Ix W'
 | _, _, _ => False

theorem wp_each2 {n s : Nat} (hs : s < 256) {g : Operand} {t d : Tmp} {rid : Nat} {ty : TypeId} {pos : String} {body : Code} {Q : Exit → Act → World → Prop} {a : Act} {w : World}
  (hg : a.eval g = .func (.func 49) #[.int .u8 s] #[]) (ht : t < a.tmps.size) (I Ix : List Nat → World → Prop) (hI : ∀ pre A B, I pre A → Bk w.heap.size A B → I pre B) (hIx : ∀ pre A B, Ix pre A → Bk w.heap.size A B → Ix pre B) (h0 : I [] w)
  (hround : ∀ (l : Nat) (pre : List Nat) (v : Nat) (W : World), (pre ++ [v]) <+: vals s → I pre W →
   body.wpIn (Fence.wide.inRound l) (n - 1 - 1) Tryz.prog (eachPost2 w.heap.size (I (pre ++ [v])) (Ix (pre ++ [v])) W) { tmps := (a.tmps.setIfInBounds t (.int .i64 (v : Int))).setIfInBounds d (.int .i64 (v : Int)), defers := [] } W)
  (hdone : ∀ (D : Nat) (W : World), w.heap.size ≤ D → I (vals s) W → W.heap[D]? = some (.deferred (some [])) → Q .normal { a with defers := mark D :: a.defers } W)
  (hstop : ∀ (D : Nat) (pre : List Nat) (v : Nat) (W : World), w.heap.size ≤ D → (pre ++ [v]) <+: vals s → Ix (pre ++ [v]) W → W.heap[D]? = some (.deferred (some [])) → Code.ret.wpIn Fence.wide n Tryz.prog Q { a with defers := mark D :: a.defers } W) :
  (Code.rangeFunc g #[t] (Code.region rid #[{ dst := some d, op := .assign (.tmp t), type := ty, pos := pos, after := #[], guard := none }] false) body).wpIn Fence.wide n Tryz.prog Q a w := by
 generalize hA : Code.region rid #[{ dst := some d, op := Op.assign (.tmp t), type := ty, pos := pos, after := #[], guard := none }] false = assign
 have hassign : ∀ (l : Nat) (v : Nat) (W : World) (K : Act → World → Prop), K { tmps := (a.tmps.setIfInBounds t (.int .i64 (v : Int))).setIfInBounds d (.int .i64 (v : Int)), defers := [] } W →
   assign.wpIn (Fence.wide.inRound l) (n - 1 - 1) Tryz.prog (Exit.then K (fun _ _ _ => False)) { tmps := a.tmps.setIfInBounds t (.int .i64 (v : Int)), defers := [] } W := by
  intro l v W K hK
  subst hA
  have hget : (a.tmps.setIfInBounds t (Value.int .i64 (v : Int))).getD t undef = .int .i64 (v : Int) := by
   simp [ht]
  gi_wp2
  exact hK
 refine wpIn_rangeFunc ?_
 intro fn hfn
 obtain ⟨rec, hrec⟩ : ∃ rec : LoopState → Option Code → Loop, rec = fun st pe => { state := st, pending := pe, fn, tmps := a.tmps, params := #[t], assign, body, defers := w.heap.size } := ⟨_, rfl⟩
 obtain ⟨W1, hW1⟩ : ∃ W1, (w.alloc (.deferred (some []))).alloc (.loop (rec .ready none)) = W1 := ⟨_, rfl⟩
 have hL1 : W1.heap[w.heap.size + 1]? = some (.loop (rec .ready none)) := by
  rw [← hW1]
  have := heap_alloc_new (w.alloc (.deferred (some []))) (.loop (rec .ready none))
  simpa using this
 have hK1 : W1.heap[w.heap.size]? = some (.deferred (some [])) := by
  rw [← hW1]; exact (Below.heap_alloc _ _ _ (by simp)).trans (heap_alloc_new w _)
 have hI1 : I [] W1 := by rw [← hW1]; exact hI _ _ _ (hI _ _ _ h0 (Bk.alloc _ _ _)) (Bk.alloc _ _ _)
 refine ⟨w.heap.size + 1, [mark w.heap.size], W1, { target := .fn (.func 49) #[], args := #[.int .u8 s, .func (.yield (w.heap.size + 1)) #[] #[]] }, W1, 49,
  #[.int .u8 s, .func (.yield (w.heap.size + 1)) #[] #[]], W1, ?_, ?_, ?_, ?_, (fun h => by cases h), ?_⟩
 ·rw [← hW1, hrec]; exact run_enterLoop_outer _ _ _ _ _
 ·simp only [resolve, hg]
  simp [go_sem]
 ·intro f' _; trivial
 ·simp [invoke, go_sem]
 ·refine (each_in2 (n - 1) s (w.heap.size + 1) hs
   (fun pre W => I pre W ∧ W.heap[w.heap.size + 1]? = some (.loop (rec .ready none)) ∧ W.heap[w.heap.size]? = some (.deferred (some [])))
   (fun pre W => Ix pre W ∧ W.heap[w.heap.size + 1]? = some (.loop (rec .done (some .ret))) ∧ W.heap[w.heap.size]? = some (.deferred (some []))) W1 ⟨hI1, hL1, hK1⟩ ?_).mono ?_
  ·rintro pre v W ⟨hi, hl, hk⟩ hpre
   have hlt : w.heap.size + 1 < W.heap.size := (Array.getElem?_eq_some_iff.1 hl).1
   have hy := run_yield (P := Tryz.prog) (args := #[.int .i64 (v : Int)]) hl (by rw [hrec]; rfl)
   rw [hrec] at hy
   dsimp only at hy
   have hfold : ((#[t] : Array Tmp).zip #[Value.int .i64 (v : Int)]).foldl (fun tmps (x : Tmp × Value) => match x with | (t, a) => tmps.setIfInBounds t a) a.tmps = a.tmps.setIfInBounds t (.int .i64 (v : Int)) := by simp
   rw [hfold] at hy
   have hl2 : (W.putObj (w.heap.size + 1) (.loop { rec .ready none with state := .busy })).heap[w.heap.size + 1]? = some (.loop { rec .ready none with state := .busy }) := World.putObj_heap_same hlt
   have hk2 : (W.putObj (w.heap.size + 1) (.loop { rec .ready none with state := .busy })).heap[w.heap.size]? = some (.deferred (some [])) := (World.putObj_heap_other (by omega)).trans hk
   have hbody := hround (w.heap.size + 1) pre v _ hpre (hI _ _ _ hi (Bk.put (.loop { rec .ready none with state := .busy }) (by omega) hl rfl))
   refine ⟨fn, _, assign, body, hy, roundIn_of_wpIn hfn ?_⟩
   refine hassign _ v W _ ?_
   refine ⟨_, run_beginRound hl (by rw [hrec]), ?_⟩
   refine wpIn_mono hbody ?_
   rintro e a3 W3 hp
   cases e with
   | normal =>
    obtain ⟨hk3, hi3⟩ := hp
    have hl3 := hk3.same _ _ (by omega) hl2 rfl
    have hend := run_endRound (P := Tryz.prog) none hl3
    refine ⟨_, _, hend, .inl ⟨rfl, hI _ _ _ hi3 (Bk.put _ (by omega) hl3 rfl), ?_, (World.putObj_heap_other (by omega)).trans (hk3.same _ _ (by omega) hk2 rfl)⟩⟩
    rw [World.putObj_heap_same (Array.getElem?_eq_some_iff.1 hl3).1, hrec]
    rfl
   | ret =>
    obtain ⟨hk3, hi3⟩ := hp
    have hl3 := hk3.same _ _ (by omega) hl2 rfl
    have hend := run_endRound (P := Tryz.prog) (some .ret) hl3
    refine ⟨_, _, hend, .inr ⟨rfl, hIx _ _ _ hi3 (Bk.put _ (by omega) hl3 rfl), ?_, (World.putObj_heap_other (by omega)).trans (hk3.same _ _ (by omega) hk2 rfl)⟩⟩
    rw [World.putObj_heap_same (Array.getElem?_eq_some_iff.1 hl3).1, hrec]
    rfl
   | exit id => exact hp.elim
   | goto t => exact hp.elim
   | panic ch => exact hp.elim
   | outgrown => exact hp.elim
  ·rintro e W2 ⟨⟨v, rfl⟩, hcase⟩
   rcases hcase with ⟨hi, hl, hk⟩ | ⟨pre, x, hpre, hi, hl, hk⟩
   ·refine ⟨none, _, ?_, hdone w.heap.size _ (Nat.le_refl _) (hI _ _ _ hi (Bk.put (.loop { rec .ready none with state := .exhausted }) (by omega) hl rfl)) ((World.putObj_heap_other (by omega)).trans hk)⟩
    have := run_endLoop (P := Tryz.prog) hl (by rw [hrec]; simp)
    rw [hrec] at this ⊢
    exact this
   ·refine ⟨some .ret, _, ?_, hstop w.heap.size pre x _ (Nat.le_refl _) hpre (hIx _ _ _ hi (Bk.put (.loop { rec .done (some .ret) with state := .exhausted }) (by omega) hl rfl)) ((World.putObj_heap_other (by omega)).trans hk)⟩
    have := run_endLoop (P := Tryz.prog) hl (by rw [hrec]; simp)
    rw [hrec] at this ⊢
    exact this
end Go.Proofs.YtkjfpdfkcfgfkaaGreat

namespace Go.Proofs.YtkjfpdfkcfgfkaaGreat
open Go.RowKit Go.Shelf

section
variable {P : Program} {Q : Exit → Act → World → Prop} {S : World → Prop} {ops : Array Oper}
theorem region_inU {ops' : Array Oper} {id lp k : Nat} {a : Act} {w : World} (ops : Array Oper) (n : Nat) (S : World → Prop) (z : Nat) (ho : ops' = ops) (hn : ops.size = n) (hnd : noDefer ops.toList = true) (hQ : ∀ a w, ¬ Q .outgrown a w)
  (h : wpAnyU Tryz.prog .any ops Q S z n (Array.replicate n false) a w.drew) : (Code.region id ops' true).wpIn (Fence.wide.inRound lp) k Tryz.prog Q a w := by
 subst ho
 subst hn
 have := wpIn_U (l := ops'.toList) (id := id) (lp := lp) (k := k) (S := S) (a := a) (w := w) z hnd hQ (by simpa using h)
 simpa using this
theorem region_inH {ops' : Array Oper} {id lp k : Nat} {a : Act} {w : World} (ops : Array Oper) (n : Nat) (S : World → Prop) (ho : ops' = ops) (hn : ops.size = n) (hnd : noDefer ops.toList = true) (hQ : ∀ a w, ¬ Q .outgrown a w)
  (h : wpAnyH Tryz.prog .any ops Q S n (Array.replicate n false) a w.drew) : (Code.region id ops' true).wpIn (Fence.wide.inRound lp) k Tryz.prog Q a w := by
 subst ho
 subst hn
 have := wpIn_H (l := ops'.toList) (id := id) (lp := lp) (k := k) (S := S) (a := a) (w := w) hnd hQ (by simpa using h)
 simpa using this
theorem region_nU {ops' : Array Oper} {id : Nat} {a : Act} {w : World} (ops : Array Oper) (n : Nat) (S : World → Prop) (z : Nat) (ho : ops' = ops) (hn : ops.size = n) (hm : P.follows .mixedOrders = true)
  (h : wpAnyU P .any ops Q S z n (Array.replicate n false) a w.drew) : (Code.region id ops' true).wp P Q a w := by
 subst ho
 subst hn
 exact region_U z hm h
def takeUB (ops : Array Oper) (listed : Array Bool) (z i : Nat) (d : Option Tmp) : Bool := takeB ops listed i d && Region.waitsFor .any ops z i
theorem takeU_at {z i : Nat} {d : Option Tmp} {v : Value} {fuel : Nat} {listed : Array Bool} {a : Act} {w : World} (hB : takeUB ops listed z i d = true) (hw : Region.wanted (opAt ops i) (yielded ops a.tmps) = true)
  (hQ : ∀ c a w, Q (.panic c) (a.put d v) w → Q (.panic c) a w) (hy : ∀ w, S w → (execOp a.eval (opAt ops i)).run P w = .ok (.value v) w) (hS : S w)
  (h : wpAnyU P .any ops Q S z fuel (listed.setIfInBounds i true) (a.put d v) w) : wpAnyU P .any ops Q S z (fuel + 1) listed a w := by
 simp only [takeUB, takeB, Bool.and_eq_true, decide_eq_true_eq] at hB
 obtain ⟨⟨⟨⟨⟨h1, h2⟩, h3⟩, h4⟩, h5⟩, h6⟩ := hB
 subst h5
 exact anyU_take (i := i) (oi := opAt ops i) (v := v) h6 (opAt_of h4) h1 h2 h3 hQ (.inl ⟨hw, hy⟩) hS h
theorem valueU_at {z i : Nat} {d : Option Tmp} {fuel : Nat} {listed : Array Bool} {a : Act} {w w' : World} {v : Value} (hB : oneB ops listed i d = true) (hw : Region.wanted (opAt ops i) (yielded ops a.tmps) = true)
  (hr : (execOp a.eval (opAt ops i)).run P w = .ok (.value v) w') (hS : i ≠ z → S w') (h : wpAnyU P .any ops Q S z fuel (listed.setIfInBounds i true) (a.put d v) w') : wpAnyU P .any ops Q S z (fuel + 1) listed a w := by
 simp only [oneB, Bool.and_eq_true, decide_eq_true_eq] at hB
 obtain ⟨⟨h3, h4⟩, h5⟩ := hB
 subst h5
 exact anyU_one h3 (op_value (opAt_of h4) hw hr ⟨hS, h⟩)
theorem skipU_at {z i : Nat} {d : Option Tmp} {fuel : Nat} {listed : Array Bool} {a : Act} {w w' : World} (hB : oneB ops listed i d = true) (hw : Region.wanted (opAt ops i) (yielded ops a.tmps) = true)
  (hr : (execOp a.eval (opAt ops i)).run P w = .ok .skip w') (hS : i ≠ z → S w') (h : wpAnyU P .any ops Q S z fuel (listed.setIfInBounds i true) (a.put d undef) w') : wpAnyU P .any ops Q S z (fuel + 1) listed a w := by
 simp only [oneB, Bool.and_eq_true, decide_eq_true_eq] at hB
 obtain ⟨⟨h3, h4⟩, h5⟩ := hB
 subst h5
 exact anyU_one h3 (op_skip (opAt_of h4) hw hr ⟨hS, h⟩)
end
theorem exec_storeU {ev : Operand → Value} {o : Oper} {w : World} {b off : Nat} {v old : Value} (t : TypeId) (x y : Operand) (ho : o.op = .store t x y) (hx : ev x = .pointer (some ⟨b, off, none⟩)) (hy : ev y = v) (h1 : v.oneCell' = true) (hsz : (sizeOf t).run Tryz.prog w = .ok 1 w) (hc : w.cell? ⟨b, off, none⟩ = some old) (hf : w.frozen? ⟨b, off, none⟩ = false) :
  (execOp ev o).run Tryz.prog w = .ok .skip (w.setCell ⟨b, off, none⟩ v) := by
 have hs : (Sem.store Mode.plain (⟨b, off, none⟩ : Addr) v (.pure ())).run Tryz.prog w = .ok () (w.setCell ⟨b, off, none⟩ v) := by
  cases v <;> first
   | (simp [Value.oneCell'] at h1; done)
   | (unfold Sem.run; simp [hc, hf, Sem.run])
 have h1c : v.cells = #[v] := by cases v <;> first | rfl | (simp [Value.oneCell'] at h1; done)
 unfold execOp
 simp [ho, hx, hy, Instr.storeAt, Instr.sureAddr, storeVar, h1c, hsz, storeCells, Addr.add, store, hs, Result.andThen]
theorem yieldAt_any {m m' l : Nat} {args : Array Value} {W : World} {R : Ending → World → Prop} (h : YieldAt Fence.wide m Tryz.prog l args W R) : YieldAt Fence.wide m' Tryz.prog l args W R := by
 obtain ⟨fn, tmps, assign, body, hy, h1, h2⟩ := h
 exact ⟨fn, tmps, assign, body, hy, h1, fun c cs _ => h2 c cs (room_wide _)⟩
end Go.Proofs.YtkjfpdfkcfgfkaaGreat

namespace Go.Proofs.YtkjfpdfkcfgfkaaGreat
open Go.RowKit Go.Shelf

def tyAt (w : World) (k : Nat) : Option TypeId := match w.heap[k]? with
 | some (.cells _ t (0, 0)) => some t
 | _ => none
theorem Blk.tyAt {w : World} {k : Nat} {cur : Array Value} {e : TypeId} (h : Blk w k cur e) : tyAt w k = some e := by
 have h' : w.heap[k]? = some (.cells cur e (0, 0)) := h
 unfold Go.Proofs.YtkjfpdfkcfgfkaaGreat.tyAt
 rw [h']
 rfl
theorem blk_tyAt {w : World} {k : Nat} {e : TypeId} (h : tyAt w k = some e) : ∃ cur, Blk w k cur e := by
 unfold tyAt at h
 split at h
 ·rename_i cur t he
  cases h
  exact ⟨cur, he⟩
 ·cases h
theorem Only.ofNot {w : World} {S : Nat → Prop} {e : TypeId} (h : ∀ k cur, S k → ¬ Blk w k cur e) : ∃ es, Only w S es ∧ e ∉ es := by
 classical
 refine ⟨(List.range w.heap.size).filterMap (fun k => if S k then tyAt w k else Option.none), ?_, ?_⟩
 ·intro k cur t hk hb
  exact List.mem_filterMap.2 ⟨k, List.mem_range.2 hb.lt, by rw [if_pos hk]; exact hb.tyAt⟩
 ·intro hm
  obtain ⟨k, _, hk⟩ := List.mem_filterMap.1 hm
  by_cases hs : S k
  ·rw [if_pos hs] at hk
   obtain ⟨cur, hb⟩ := blk_tyAt hk
   exact h k cur hs hb
  ·rw [if_neg hs] at hk
   cases hk
theorem WAt.frN {S : Nat → Prop} {w w' : World} {X : Nat} {zs : List Int} {s : WS} (h : WAt w X zs s) (f : Fr S w w') (hn : ∀ k, s.own X k → ¬ S k) (ho : ∀ k cur, S k → ¬ Blk w k cur 151) : WAt w' X zs s := by
 obtain ⟨es, h1, h2⟩ := Only.ofNot ho
 exact h.fr f hn h1 h2

section
variable {n : Nat} {P : Program} {ops : Array Oper} {Q : Exit → Act → World → Prop} {md : Region.Mode} {S : World → Prop}
theorem yieldsIf_wpOpIn {i : Nat} {o : Oper} {v : Value} {a : Act} (hi : ops[i]? = some o) (hy : YieldsIf P ops S o v a)
  {K : Act → World → Prop} {w : World} (hS : S w) (h : K (a.put o.dst v) w) : wpOpIn Fence.wide n P ops Q i K a w := by
 unfold Go.wpOpIn
 simp only [hi]
 rcases hy with ⟨hw, hv⟩ | ⟨hw, rfl⟩
 ·simp only [hw, if_true, Oper.wpIn, show Fence.wide.round = none from rfl, Oper.semAt_none, hv w hS, Oper.uponIn]; exact ⟨fun _ _ => trivial, h⟩
 ·simp only [hw, Bool.false_eq_true, if_false]; exact ⟨fun _ _ => trivial, h⟩
theorem wpOpIn_putIf {j : Nat} {oi oj : Oper} {v : Value} (hj : ops[j]? = some oj) (hap : oi.apart ops oj = true)
  (hsi : ∀ cs b, oi.op ≠ .select cs b) (hsj : ∀ cs b, oj.op ≠ .select cs b)
  (hQ : ∀ c a w, Q (.panic c) (a.put oi.dst v) w → Q (.panic c) a w) {K : Act → World → Prop} {a : Act} {w : World}
  (hy : YieldsIf P ops S oi v a) (h : wpOpIn Fence.wide n P ops Q j K (a.put oi.dst v) w) :
  wpOpIn Fence.wide n P ops Q j (fun a' w' => YieldsIf P ops S oi v a' ∧ K (a'.put oi.dst v) w') a w := by
 obtain ⟨h1, h2, h3⟩ := Oper.apart_spec hap
 have keep : ∀ (a : Act), YieldsIf P ops S oi v a → ∀ u, YieldsIf P ops S oi v (a.put oj.dst u) := fun a hy u =>
  hy.of_same (execOp_put oi hsi a oj.dst u h3) (wanted_put oi a oj.dst u h3)
 have keepD : ∀ d, YieldsIf P ops S oi v { a with defers := d :: a.defers } := fun d => hy.of_same rfl rfl
 unfold wpOpIn at *
 simp only [hj] at *
 rw [wanted_put oj a oi.dst v h1, about_put oj w a oi.dst v h1] at h
 split
 ·rename_i hw
  simp only [hw, if_true] at h
  unfold Oper.wpIn at *
  rw [about_put oj w a oi.dst v h1] at h
  refine ⟨h.1, ?_⟩
  have h := h.2
  rw [show Fence.wide.round = none from rfl, Oper.semAt_none, execOp_put oj hsj a oi.dst v h1] at h
  rw [show Fence.wide.round = none from rfl, Oper.semAt_none]
  generalize (execOp a.eval oj).run P w = r at *
  cases r with
  | ok x w' =>
   cases x <;> simp only [Oper.uponIn] at h ⊢
   case value u => exact ⟨keep a hy u, by rw [← Act.put_comm a v u h2]; exact h⟩
   case skip => exact ⟨keep a hy _, by rw [← Act.put_comm a v undef h2]; exact h⟩
   case defer d =>
    refine ⟨keep _ (keepD d) _, ?_⟩
    rw [← Act.put_comm _ v undef h2, ← Act.put_defers]
    exact h
   case enter f args =>
    refine ⟨h.1, CallsIn.mono h.2 fun e w'' he => ?_⟩
    cases e with
    | returned u => exact ⟨keep a hy u, by rw [← Act.put_comm a v u h2]; exact he⟩
    | panicked c => exact hQ _ _ _ he
    | outgrown => exact he
   case row row args => exact ⟨h.1, RowsIn.mono h.2 fun u w'' he => ⟨keep a hy u, by rw [← Act.put_comm a v u h2]; exact he⟩⟩
   case round l f tmps assign body =>
    refine ⟨h.1, RoundIn.mono h.2 fun e w'' he => ?_⟩
    cases e with
    | returned u => exact ⟨keep a hy u, by rw [← Act.put_comm a v u h2]; exact he⟩
    | panicked c => exact hQ _ _ _ he
    | outgrown => exact he
  | halt x w' =>
   cases x <;> simp only [Oper.uponIn] at h ⊢
   case panic u => exact hQ _ _ _ h
 ·rename_i hw
  simp only [hw] at h
  exact ⟨h.1, keep a hy _, by rw [← Act.put_comm a v undef h2]; exact h.2⟩
def wpAnyI (n : Nat) (P : Program) (md : Region.Mode) (ops : Array Oper) (Q : Exit → Act → World → Prop) (S : World → Prop) : Nat → Array Bool → Act → World → Prop
 | 0, listed, a, w => Region.ready md ops listed = [] ∧ Q .normal a w
 | fuel + 1, listed, a, w => (Region.ready md ops listed = [] → Q .normal a w) ∧
  ∀ i ∈ Region.ready md ops listed, wpOpIn Fence.wide n P ops Q i (fun a' w' => S w' ∧ wpAnyI n P md ops Q S fuel (listed.setIfInBounds i true) a' w') a w
theorem anyIn_of_I : ∀ (fuel : Nat) (listed : Array Bool) (a : Act) (w : World), wpAnyI n P md ops Q S fuel listed a w → wpAnyIn Fence.wide n P md ops Q fuel listed a w
 | 0, _, _, _, h => h
 | fuel + 1, _, _, _, h => ⟨h.1, fun i hi => wpOpIn_mono (fun a' w' h' => anyIn_of_I fuel _ a' w' h'.2) (h.2 i hi)⟩
theorem wpAnyI_first {i : Nat} {oi : Oper} {v : Value} (hi : ops[i]? = some oi) (hsel : ∀ (j : Nat) (o : Oper) cs b, ops[j]? = some o → o.op ≠ .select cs b)
  (hQ : ∀ c a w, Q (.panic c) (a.put oi.dst v) w → Q (.panic c) a w) :
  ∀ (fuel : Nat) (listed : Array Bool) (a : Act) (w : World),
   (∀ j oj, ops[j]? = some oj → j ≠ i → listed.getD j true = false → (∀ e ∈ oj.after, Region.binds md e = true → e.on ≠ i) → oi.apart ops oj = true) →
   i ∈ Region.ready md ops listed → YieldsIf P ops S oi v a → S w →
   wpAnyI n P md ops Q S fuel (listed.setIfInBounds i true) (a.put oi.dst v) w → wpAnyI n P md ops Q S (fuel + 1) listed a w := by
 intro fuel
 induction fuel with
 | zero =>
  intro listed a w _ hr hy hS H
  refine ⟨fun h => (by rw [h] at hr; cases hr), fun j hj => ?_⟩
  by_cases hji : j = i
  ·subst hji; exact yieldsIf_wpOpIn hi hy hS ⟨hS, H⟩
  ·have := ready_mono hj hji
   rw [H.1] at this
   cases this
 | succ fuel ih =>
  intro listed a w hfree hr hy hS H
  refine ⟨fun h => (by rw [h] at hr; cases hr), fun j hj => ?_⟩
  by_cases hji : j = i
  ·subst hji; exact yieldsIf_wpOpIn hi hy hS ⟨hS, H⟩
  ·have h1 := H.2 j (ready_mono hj hji)
   obtain ⟨hjun, oj, hoj, hall⟩ := mem_ready.1 hj
   have hnot : ∀ e ∈ oj.after, Region.binds md e = true → e.on ≠ i := fun e he hb heq => by
    have h1 := hall e he hb
    have h0 := (mem_ready.1 hr).1
    rw [heq] at h1
    rcases Nat.lt_or_ge i listed.size with h' | h'
    ·simp [h'] at h0 h1; rw [h0] at h1; cases h1
    ·simp [Array.getElem?_eq_none h'] at h1
   have h2 := wpOpIn_putIf hoj (hfree j oj hoj hji hjun hnot) (fun cs b => hsel i oi cs b hi) (fun cs b => hsel j oj cs b hoj) hQ hy h1
   have hfree' : ∀ k ok, ops[k]? = some ok → k ≠ i → (listed.setIfInBounds j true).getD k true = false →
     (∀ e ∈ ok.after, Region.binds md e = true → e.on ≠ i) → oi.apart ops ok = true := fun k ok hk hki hun hno => by
    refine hfree k ok hk hki ?_ hno
    by_cases hjk : j = k
    ·subst hjk; exact hjun
    ·rw [getD_set_ne true hjk] at hun; exact hun
   refine wpOpIn_mono (fun a' w' h3 => ⟨h3.2.1, ih (listed.setIfInBounds j true) a' w' hfree' (ready_mono hr (Ne.symm hji)) h3.1 h3.2.1 ?_⟩) h2
   rw [Array.setIfInBounds_comm _ _ hji]
   exact h3.2.2
theorem region_I {ops' : Array Oper} {id k : Nat} {a : Act} {w : World} (ops : Array Oper) (n : Nat) (S : World → Prop) (ho : ops' = ops) (hn : ops.size = n) (hm : P.follows .mixedOrders = true)
  (h : wpAnyI k P .any ops (NoPanic Q) S n (Array.replicate n false) a w.drew) : (Code.region id ops' true).wpIn Fence.wide k P Q a w := by
 subst ho
 subst hn
 exact wpIn_mono (wpIn_region_any hm (anyIn_of_I _ _ _ _ h)) NoPanic.imp
theorem takeI_at {i : Nat} {d : Option Tmp} {v : Value} {fuel : Nat} {listed : Array Bool} {a : Act} {w : World} (hB : takeB ops listed i d = true) (hw : Region.wanted (opAt ops i) (yielded ops a.tmps) = true)
  (hQ : ∀ c a w, Q (.panic c) (a.put d v) w → Q (.panic c) a w) (hy : ∀ w, S w → (execOp a.eval (opAt ops i)).run P w = .ok (.value v) w) (hS : S w)
  (h : wpAnyI n P .any ops Q S fuel (listed.setIfInBounds i true) (a.put d v) w) : wpAnyI n P .any ops Q S (fuel + 1) listed a w := by
 simp only [takeB, Bool.and_eq_true, decide_eq_true_eq] at hB
 obtain ⟨⟨⟨⟨h1, h2⟩, h3⟩, h4⟩, h5⟩ := hB
 subst h5
 exact wpAnyI_first (opAt_of h4) (Region.noSelect_spec h1) hQ fuel listed a w (Region.free_spec (opAt_of h4) h2) (by simpa using h3) (.inl ⟨hw, hy⟩) hS h
theorem oneI {i : Nat} {d : Option Tmp} {fuel : Nat} {listed : Array Bool} {a : Act} {w : World} (hB : oneB ops listed i d = true) (hw : Region.wanted (opAt ops i) (yielded ops a.tmps) = true)
  (h : (opAt ops i).uponIn Fence.wide n P a (fun a' w' => S w' ∧ wpAnyI n P .any ops Q S fuel (listed.setIfInBounds i true) a' w') Q ((execOp a.eval (opAt ops i)).run P w)) : wpAnyI n P .any ops Q S (fuel + 1) listed a w := by
 simp only [oneB, Bool.and_eq_true, decide_eq_true_eq] at hB
 obtain ⟨⟨h3, h4⟩, h5⟩ := hB
 refine ⟨fun h0 => (by rw [h3] at h0; cases h0), fun j hj => ?_⟩
 rw [h3] at hj
 obtain rfl := List.mem_singleton.1 hj
 unfold wpOpIn
 simp only [opAt_of h4, hw, if_true]
 refine ⟨fun _ _ => trivial, ?_⟩
 rw [show Fence.wide.round = none from rfl, Oper.semAt_none]
 exact h
theorem valueI_at {i : Nat} {d : Option Tmp} {fuel : Nat} {listed : Array Bool} {a : Act} {w w' : World} {v : Value} (hB : oneB ops listed i d = true) (hw : Region.wanted (opAt ops i) (yielded ops a.tmps) = true)
  (hr : (execOp a.eval (opAt ops i)).run P w = .ok (.value v) w') (hS : S w') (h : wpAnyI n P .any ops Q S fuel (listed.setIfInBounds i true) (a.put d v) w') : wpAnyI n P .any ops Q S (fuel + 1) listed a w := by
 have hd : (opAt ops i).dst = d := by simp only [oneB, Bool.and_eq_true, decide_eq_true_eq] at hB; exact hB.2
 subst hd
 refine oneI hB hw ?_
 rw [hr]
 exact ⟨hS, h⟩
theorem skipI_at {i : Nat} {d : Option Tmp} {fuel : Nat} {listed : Array Bool} {a : Act} {w w' : World} (hB : oneB ops listed i d = true) (hw : Region.wanted (opAt ops i) (yielded ops a.tmps) = true)
  (hr : (execOp a.eval (opAt ops i)).run P w = .ok .skip w') (hS : S w') (h : wpAnyI n P .any ops Q S fuel (listed.setIfInBounds i true) (a.put d undef) w') : wpAnyI n P .any ops Q S (fuel + 1) listed a w := by
 have hd : (opAt ops i).dst = d := by simp only [oneB, Bool.and_eq_true, decide_eq_true_eq] at hB; exact hB.2
 subst hd
 refine oneI hB hw ?_
 rw [hr]
 exact ⟨hS, h⟩
theorem enterI_at {i : Nat} {d : Option Tmp} {fuel : Nat} {listed : Array Bool} {a : Act} {w w' : World} {f : FuncId} {args : Array Value} (hB : oneB ops listed i d = true) (hw : Region.wanted (opAt ops i) (yielded ops a.tmps) = true)
  (hr : (execOp a.eval (opAt ops i)).run P w = .ok (.enter f args) w')
  (h : Calls P f args w' (fun e w'' => ∃ v, e = .returned v ∧ S w'' ∧ wpAnyI n P .any ops Q S fuel (listed.setIfInBounds i true) (a.put d v) w'')) : wpAnyI n P .any ops Q S (fuel + 1) listed a w := by
 have hd : (opAt ops i).dst = d := by simp only [oneB, Bool.and_eq_true, decide_eq_true_eq] at hB; exact hB.2
 subst hd
 refine oneI hB hw ?_
 rw [hr]
 refine ⟨(fun h => by cases h), (callsIn_wide.2 h).mono ?_⟩
 rintro e w'' ⟨v, rfl, hs⟩
 exact hs
theorem roundI_at {i : Nat} {d : Option Tmp} {fuel : Nat} {listed : Array Bool} {a : Act} {w w' : World} {l : Nat} {f : FuncId} {tmps : Array Value} {assign body : Code} (hB : oneB ops listed i d = true) (hw : Region.wanted (opAt ops i) (yielded ops a.tmps) = true)
  (hr : (execOp a.eval (opAt ops i)).run P w = .ok (.round l f tmps assign body) w')
  (h : RoundIn Fence.wide (n - 1) P l f tmps assign body w' (fun e w'' => ∃ v, e = .returned v ∧ S w'' ∧ wpAnyI n P .any ops Q S fuel (listed.setIfInBounds i true) (a.put d v) w'')) : wpAnyI n P .any ops Q S (fuel + 1) listed a w := by
 have hd : (opAt ops i).dst = d := by simp only [oneB, Bool.and_eq_true, decide_eq_true_eq] at hB; exact hB.2
 subst hd
 refine oneI hB hw ?_
 rw [hr]
 refine ⟨(fun h => by cases h), h.mono ?_⟩
 rintro e w'' ⟨v, rfl, hs⟩
 exact hs
theorem doneI {listed : Array Bool} {a : Act} {w : World} (hr : Region.ready md ops listed = []) (h : Q .normal a w) : ∀ fuel, wpAnyI n P md ops Q S fuel listed a w
 | 0 => ⟨hr, h⟩
 | _ + 1 => ⟨fun _ => h, by rw [hr]; simp⟩
end
end Go.Proofs.YtkjfpdfkcfgfkaaGreat

namespace Go.Proofs.YtkjfpdfkcfgfkaaGreat
open Go.RowKit Go.Shelf

structure YPost (J Jx : List (List Nat) → (Nat → Prop) → World → Prop) (done : List (List Nat)) (C : Nat → Prop) (L g : Nat) (W : World) (e : Ending) (W' : World) : Prop where
 ex : ∃ C' : Nat → Prop, (∀ k, C' k → C k ∨ k = g ∨ W.heap.size ≤ k) ∧ Fr (fun k => C k ∨ k = g ∨ k = L) W W' ∧ ((e = .returned (.bool true) ∧ J done C' W') ∨ (e = .returned (.bool false) ∧ Jx done C' W'))
structure Sink (X : Nat) (zs : List Int) (s : WS) (L N0 : Nat) (all : List (List Nat)) (J Jx : List (List Nat) → (Nat → Prop) → World → Prop) : Prop where
 st : ∀ done C S A B, J done C A → Fr S A B → (∀ k, S k → N0 ≤ k ∧ ¬ C k ∧ ∀ cur, ¬ Blk A k cur 151) → J done C B
 stx : ∀ done C S A B, Jx done C A → Fr S A B → (∀ k, S k → N0 ≤ k ∧ ¬ C k ∧ ∀ cur, ¬ Blk A k cur 151) → Jx done C B
 cells : ∀ done C A k, J done C A → C k → ∃ cur e, Blk A k cur e ∧ e ≠ 151
 cellsx : ∀ done C A k, Jx done C A → C k → ∃ cur e, Blk A k cur e ∧ e ≠ 151
 lrec : ∀ done C A, J done C A → ∃ r, A.heap[L]? = some (.loop r)
 yield : ∀ done C x g cap n W1, J done C W1 → WAt W1 X zs s → (done ++ [x]) <+: all → N0 ≤ g → ¬ C g → Row W1 (.slice (some ⟨g, 0, none⟩) x.length cap) 3 (ints x) →
  YieldAt Fence.wide n Tryz.prog L #[.slice (some ⟨g, 0, none⟩) x.length cap] W1 (YPost J Jx (done ++ [x]) C L g W1)
structure GoPre (G X : Nat) (s : WS) (L N0 : Nat) (rdy : List Value) (lv : Value) (C : Nat → Prop) : Prop where
 gN : N0 ≤ G
 gC : ¬ C G
 lN : ∀ k, lv.ownBlock = some k → N0 ≤ k ∧ ¬ C k
 rN : ∀ i k, i < 8 → (rdy.getD i undef).ownBlock = some k → N0 ≤ k ∧ ¬ C k
 LN : L < N0
 own : ∀ k, s.own X k → k < N0 ∧ k ≠ L ∧ ¬ C k
structure GoPost (J Jx : List (List Nat) → (Nat → Prop) → World → Prop) (G X : Nat) (s : WS) (L N0 : Nat) (rdy : List Value) (yv : Value) (done : List (List Nat)) (sol : List (List Nat)) (l : List Nat) (C : Nat → Prop) (lv : Value) (W : World) (e : Ending) (W' : World) : Prop where
 ex : ∃ (C' : Nat → Prop) (lv' : Value) (l' : List Nat), (∀ k, C' k → C k ∨ W.heap.size ≤ k) ∧ l <+: l' ∧ GoAt W' G X s.ts rdy lv' yv l' ∧ GoPre G X s L N0 rdy lv' C' ∧ (∀ k, lv'.ownBlock = some k → lv.ownBlock = some k ∨ W.heap.size ≤ k) ∧
  Fr (fun k => C k ∨ k = L ∨ k = G ∨ lv.ownBlock = some k) W W' ∧ ((e = .returned (.bool true) ∧ J (done ++ sol) C' W') ∨ (e = .returned (.bool false) ∧ ∃ p x, (p ++ [x]) <+: sol ∧ Jx (done ++ p ++ [x]) C' W'))
noncomputable def goReg2 : Array Oper := regOps Tryz.f91 2
noncomputable def goReg3 : Array Oper := regOps Tryz.f91 3
noncomputable def goReg4 : Array Oper := regOps Tryz.f91 4
noncomputable def goReg6 : Array Oper := regOps Tryz.f91 6
theorem GoAt.fr {S : Nat → Prop} {W W' : World} {G X : Nat} {ts : List Tab} {rdy : List Value} {lv yv : Value} {l : List Nat} (h : GoAt W G X ts rdy lv yv l) (f : Fr S W W') (hG : ¬ S G) (hl : ∀ k, lv.ownBlock = some k → ¬ S k) (hr : ∀ i k, i < 8 → (rdy.getD i undef).ownBlock = some k → ¬ S k) : GoAt W' G X ts rdy lv yv l :=
 ⟨h.blk.fr f hG, h.len, fun i hi => (h.rdy i hi).fr f (fun k hk => hr i k hi hk), h.list.fr f hl⟩
theorem GoPre.grow {W : World} {G X L N0 : Nat} {s : WS} {rdy : List Value} {lv yv : Value} {l : List Nat} {C C' : Nat → Prop} (h : GoPre G X s L N0 rdy lv C) (hA : GoAt W G X s.ts rdy lv yv l) (hC : ∀ k, C' k → C k ∨ W.heap.size ≤ k) : GoPre G X s L N0 rdy lv C' := by
 have hGl := hA.blk.lt
 have hno : ∀ k, k < W.heap.size → ¬ C k → ¬ C' k := fun k hk hn hc => (hC k hc).elim hn (fun h' => by omega)
 refine ⟨h.gN, hno _ hGl h.gC, fun k hk => ⟨(h.lN k hk).1, hno _ (hA.list.lt hk) (h.lN k hk).2⟩, fun i k hi hk => ⟨(h.rN i k hi hk).1, hno _ ((hA.rdy i hi).lt hk) (h.rN i k hi hk).2⟩, h.LN, fun k hk => ?_⟩
 obtain ⟨h1, h2, h3⟩ := h.own k hk
 have := h.gN
 exact ⟨h1, h2, hno k (by omega) h3⟩
theorem exec_yield {ev : Operand → Value} {o : Oper} {w : World} {nx : Next} {L : Nat} {v : Value} (x y : Operand) (ats : Array TypeId) (ho : o.op = .call { callee := .value x, args := #[y], argTypes := ats }) (hx : ev x = .func (.yield L) #[] #[]) (hy : ev y = v) (hr : (Instr.yield L #[v]).run Tryz.prog w = .ok nx w) : (execOp ev o).run Tryz.prog w = .ok nx w := by
 unfold execOp
 simp only [ho, resolve, hx]
 simp [go_sem, invoke]
 rw [hy]
 exact hr
theorem results_cell1 {fn : Func} {p : Tmp} {ty : TypeId} {tmps : Array Value} {w : World} {b off : Nat} {v : Value} (h : fn.results = #[.cell p ty]) (hp : tmps.getD p undef = .pointer (some ⟨b, off, none⟩)) (hag : (isAgg ty).run Tryz.prog w = .ok false w) (hc : w.cell? ⟨b, off, none⟩ = some v) : (results fn tmps).run Tryz.prog w = .ok v w := by
 have hp' : tmps[p]?.getD undef = .pointer (some ⟨b, off, none⟩) := by simpa using hp
 have hl : (Sem.load Mode.plain (⟨b, off, none⟩ : Addr) Sem.pure).run Tryz.prog w = .ok v w := by
  unfold Sem.run
  rw [hc]
  rfl
 simp [results, h, hp', asAddr, loadVar, hag, hl, Result.andThen, load]
theorem exec_eqI {ev : Operand → Value} {o : Oper} {w : World} (a b : Int) (r : Bool) (x y : Operand) (ho : o.op = .binOp .eql 3 x y 3) (hx : ev x = .int .i64 a) (hy : ev y = .int .i64 b) (hr : (a == b) = r) : (execOp ev o).run Tryz.prog w = .ok (.value (.bool r)) w := by
 refine exec_eql x y 3 3 ho ?_ ?_
 ·rw [hx, hy]; kernel_rfl
 ·rw [hx, hy, ← hr]; kernel_rfl
structure GoBox (W : World) (B G v : Nat) (r : Bool) : Prop where
 b0 : Blk W B #[.pointer (some ⟨G, 0, none⟩)] 165
 b1 : Blk W (B + 1) #[.bool r] 4
 b2 : Blk W (B + 2) #[.int .i64 (v : Int)] 3
theorem GoBox.fr {S : Nat → Prop} {W W' : World} {B G v : Nat} {r : Bool} (h : GoBox W B G v r) (f : Fr S W W') (hn : ∀ k, S k → k < B ∨ B + 2 < k) : GoBox W' B G v r :=
 ⟨h.b0.fr f (fun h => by have := hn _ h; omega), h.b1.fr f (fun h => by have := hn _ h; omega), h.b2.fr f (fun h => by have := hn _ h; omega)⟩

def GoOk (G X : Nat) (zs : List Int) (s : WS) (L N0 : Nat) (all : List (List Nat)) (J Jx : List (List Nat) → (Nat → Prop) → World → Prop) (rdy : List Value) (m : Nat) : Prop :=
 ∀ (l : List Nat) (lv : Value) (done : List (List Nat)) (C : Nat → Prop) (W : World), l.length + m = zs.length → J done C W → WAt W X zs s → GoAt W G X s.ts rdy lv (.func (.yield L) #[] #[]) l → GoPre G X s L N0 rdy lv C →
  (done ++ solN s.d s.bs m l) <+: all → (∀ q, q < l.length → (s.d.getD q 0).testBit (l.getD q 0) = true) →
  Calls Tryz.prog 91 #[.pointer (some ⟨G, 0, none⟩)] W (GoPost J Jx G X s L N0 rdy (.func (.yield L) #[] #[]) done (solN s.d s.bs m l) l C lv W)

set_option maxHeartbeats 3200000 in
set_option maxRecDepth 1000000 in
theorem goOn_zero (G X : Nat) (zs : List Int) (s : WS) (L N0 : Nat) (all : List (List Nat)) (J Jx : List (List Nat) → (Nat → Prop) → World → Prop) (hS : Sink X zs s L N0 all J Jx) (rdy : List Value) : GoOk G X zs s L N0 all J Jx rdy 0 := by
 intro l lv done C W hlm hJ hA hG hP hall hin
 obtain ⟨lo, lc, hlf, _⟩ := hG.list.form
 rw [show (ints l).length = l.length from by simp [ints]] at hlf
 subst hlf
 have hz := okSizes_len hA.mem.zok
 have c9 : W.cell? ⟨G, 9, none⟩ = some (.slice lo l.length lc) := (hG.blk.cell 9).trans (goCells_list _ _ _ _ hG.len)
 have hGl := hG.blk.lt
 have hl8 : (l.length : Int) ≤ 8 := by omega
 have HJ := hd hJ
 have HA := hd hA
 have HG := hd hG
 have HP := hd hP
 clear hJ hA hG hP
 refine (callsIn_wide (n := 9)).1 ?_
 refine callsIn_of_wp_marks Tryz.func91 rfl trivial ?_ rfl
 simp only [Tryz.ntmps91, List.size_toArray, List.length_cons, List.length_nil, Nat.reduceAdd, Nat.reduceSub, Array.replicate_succ, Array.replicate_zero, List.push_toArray, List.append_toArray, List.nil_append, List.cons_append]
 gi_wp2_with fail
 obtain ⟨W1, hW1⟩ : ∃ W1, W1 = ((W.alloc (.cells #[.pointer (some ⟨G, 0, none⟩)] 165)).alloc (.cells #[.bool false] 4)).alloc (.cells #[.int .i64 (l.length : Int)] 3) := ⟨_, rfl⟩
 have hf1 : Nw W W1 := by rw [hW1]; exact (((Fr.refl _ W).alloc _).alloc _).alloc _
 have hs1 : W1.heap.size = W.heap.size + 3 := by rw [hW1]; simp
 have hbx : GoBox W1 W.heap.size G l.length false := by
  rw [hW1]
  refine ⟨((Blk.new _ _ _).alloc _).alloc _, ?_, ?_⟩
  ·have := (Blk.new (W.alloc (.cells #[.pointer (some ⟨G, 0, none⟩)] 165)) #[.bool false] 4).alloc (.cells #[.int .i64 (l.length : Int)] 3)
   simpa using this
  ·have := Blk.new ((W.alloc (.cells #[.pointer (some ⟨G, 0, none⟩)] 165)).alloc (.cells #[.bool false] 4)) #[.int .i64 (l.length : Int)] 3
   simpa using this
 rw [← hW1]
 have HW1 := hd hW1
 clear hW1
 obtain ⟨so', sc, hszv, _⟩ := HA.out.mem.sz.form
 rw [List.length_map] at hszv
 have hK0 : GoBox W1.drew W.heap.size G l.length false ∧ Blk W1.drew G (goCells X rdy (.slice lo l.length lc) (.func (.yield L) #[] #[])) 158 ∧ Blk W1.drew X (workCells s.szv s.d (.slice s.so s.ts.length s.tcap) s.l) 66 :=
  ⟨hbx.fr ((Fr.refl (fun _ => False) W1).drew) (fun k h => h.elim), (HG.out.blk.nw hf1).drew, (HA.out.mem.blk.nw hf1).drew⟩
 refine region_I goReg2 10 (fun w'' => GoBox w'' W.heap.size G l.length false ∧ Blk w'' G (goCells X rdy (.slice lo l.length lc) (.func (.yield L) #[] #[])) 158 ∧ Blk w'' X (workCells s.szv s.d (.slice s.so s.ts.length s.tcap) s.l) 66) (by kernel_rfl) (by kernel_rfl) (by kernel_rfl) ?_
 refine takeI_at (i := 0) (d := some 10) (v := .int .i64 (l.length : Int)) (by kernel_rfl) (by kernel_rfl) (fun _ _ _ h => h) (fun w'' hS => exec_load 3 (.tmp 3) (by kernel_rfl) (by kernel_rfl) (by kernel_rfl) (hS.1.b2.cell 0)) hK0 ?_
 refine takeI_at (i := 1) (d := some 11) (v := .pointer (some ⟨G, 0, none⟩)) (by kernel_rfl) (by kernel_rfl) (fun _ _ _ h => h) (fun w'' hS => exec_load 165 (.tmp 1) (by kernel_rfl) (by kernel_rfl) (by kernel_rfl) (hS.1.b0.cell 0)) hK0 ?_
 refine takeI_at (i := 2) (d := some 12) (v := .pointer (some ⟨G, 0, none⟩)) (by kernel_rfl) (by kernel_rfl) (fun _ _ _ h => h) (fun w'' hS => by kernel_rfl) hK0 ?_
 refine takeI_at (i := 3) (d := some 13) (v := .pointer (some ⟨G, 0, none⟩)) (by kernel_rfl) (by kernel_rfl) (fun _ _ _ h => h) (fun w'' hS => by kernel_rfl) hK0 ?_
 refine takeI_at (i := 4) (d := some 14) (v := .pointer (some ⟨X, 0, none⟩)) (by kernel_rfl) (by kernel_rfl) (fun _ _ _ h => h) (fun w'' hS => exec_load 35 (.tmp 13) (by kernel_rfl) (by kernel_rfl) (by kernel_rfl) (hS.2.1.cell 0)) hK0 ?_
 refine takeI_at (i := 5) (d := some 15) (v := .pointer (some ⟨X, 0, none⟩)) (by kernel_rfl) (by kernel_rfl) (fun _ _ _ h => h) (fun w'' hS => by kernel_rfl) hK0 ?_
 refine takeI_at (i := 6) (d := some 16) (v := .pointer (some ⟨X, 0, none⟩)) (by kernel_rfl) (by kernel_rfl) (fun _ _ _ h => h) (fun w'' hS => by kernel_rfl) hK0 ?_
 refine takeI_at (i := 7) (d := some 17) (v := .slice so' zs.length sc) (by kernel_rfl) (by kernel_rfl) (fun _ _ _ h => h) (fun w'' hS => exec_load 22 (.tmp 16) (by kernel_rfl) (by kernel_rfl) (by kernel_rfl) ((hS.2.2.cell 0).trans ((workCells_sz ..).trans (by rw [hszv])))) hK0 ?_
 refine takeI_at (i := 8) (d := some 18) (v := .int .i64 (zs.length : Int)) (by kernel_rfl) (by kernel_rfl) (fun _ _ _ h => h) (fun w'' hS => by kernel_rfl) hK0 ?_
 refine takeI_at (i := 9) (d := some 19) (v := .bool true) (by kernel_rfl) (by kernel_rfl) (fun _ _ _ h => h) (fun w'' hS => exec_eqI (l.length : Int) (zs.length : Int) true (.tmp 10) (.tmp 18) (by kernel_rfl) (by kernel_rfl) (by kernel_rfl) (by simp; omega)) hK0 ?_
 refine doneI (by kernel_rfl) (NoPanic.normal ?_) _
 simp only [Act.put, List.setIfInBounds_toArray, List.set_cons_zero, List.set_cons_succ]
 clear hK0
 gi_wp2_with fail
 have hK0 : Blk W1.drew.drew W.heap.size #[.pointer (some ⟨G, 0, none⟩)] 165 ∧ Blk W1.drew.drew G (goCells X rdy (.slice lo l.length lc) (.func (.yield L) #[] #[])) 158 := ⟨hbx.b0.drew.drew, (HG.out.blk.nw hf1).drew.drew⟩
 obtain ⟨lb, rfl⟩ : ∃ lb, lo = some ⟨lb, 0, none⟩ := by
  obtain ⟨g, cap, he, hgo, _⟩ := HG.out.list.cell 0 (by simp [ints]; omega)
  injection he with e1 e2 e3
  exact ⟨g, e1⟩
 refine region_I goReg3 11 (fun w'' => Blk w'' W.heap.size #[.pointer (some ⟨G, 0, none⟩)] 165 ∧ Blk w'' G (goCells X rdy (.slice (some ⟨lb, 0, none⟩) l.length lc) (.func (.yield L) #[] #[])) 158) (by kernel_rfl) (by kernel_rfl) (by kernel_rfl) ?_
 refine takeI_at (i := 0) (d := some 20) (v := .pointer (some ⟨G, 0, none⟩)) (by kernel_rfl) (by kernel_rfl) (fun _ _ _ h => h) (fun w'' hS => exec_load 165 (.tmp 1) (by kernel_rfl) (by kernel_rfl) (by kernel_rfl) (hS.1.cell 0)) hK0 ?_
 refine takeI_at (i := 1) (d := some 21) (v := .pointer (some ⟨G, 0, none⟩)) (by kernel_rfl) (by kernel_rfl) (fun _ _ _ h => h) (fun w'' hS => by kernel_rfl) hK0 ?_
 refine takeI_at (i := 2) (d := some 22) (v := .pointer (some ⟨G, 10, none⟩)) (by kernel_rfl) (by kernel_rfl) (fun _ _ _ h => h) (fun w'' hS => by kernel_rfl) hK0 ?_
 refine takeI_at (i := 3) (d := some 23) (v := .func (.yield L) #[] #[]) (by kernel_rfl) (by kernel_rfl) (fun _ _ _ h => h) (fun w'' hS => exec_load 31 (.tmp 22) (by kernel_rfl) (by kernel_rfl) (by kernel_rfl) ((hS.2.cell 10).trans (goCells_yield _ _ _ _ HG.out.len))) hK0 ?_
 refine takeI_at (i := 4) (d := some 24) (v := .pointer (some ⟨G, 0, none⟩)) (by kernel_rfl) (by kernel_rfl) (fun _ _ _ h => h) (fun w'' hS => exec_load 165 (.tmp 1) (by kernel_rfl) (by kernel_rfl) (by kernel_rfl) (hS.1.cell 0)) hK0 ?_
 refine takeI_at (i := 5) (d := some 25) (v := .pointer (some ⟨G, 0, none⟩)) (by kernel_rfl) (by kernel_rfl) (fun _ _ _ h => h) (fun w'' hS => by kernel_rfl) hK0 ?_
 refine takeI_at (i := 6) (d := some 26) (v := .pointer (some ⟨G, 9, none⟩)) (by kernel_rfl) (by kernel_rfl) (fun _ _ _ h => h) (fun w'' hS => by kernel_rfl) hK0 ?_
 refine takeI_at (i := 7) (d := some 27) (v := .slice (some ⟨lb, 0, none⟩) l.length lc) (by kernel_rfl) (by kernel_rfl) (fun _ _ _ h => h) (fun w'' hS => exec_load 22 (.tmp 26) (by kernel_rfl) (by kernel_rfl) (by kernel_rfl) ((hS.2.cell 9).trans (goCells_list _ _ _ _ HG.out.len))) hK0 ?_
 refine enterI_at (i := 8) (d := some 28) (f := 21) (args := #[.slice (some ⟨lb, 0, none⟩) l.length lc]) (w' := W1.drew.drew) (by kernel_rfl) (by kernel_rfl) (by kernel_rfl) ?_
 have hcl := clone_any lb 0 lc (l.map (fun (x : Nat) => (x : Int))) W1.drew.drew (by simp; omega) (by simp; omega) (by
  have h9 := HG.out.list.nw hf1
  rw [ints_eq, ← List.length_map (f := fun (x : Nat) => (x : Int))] at h9
  exact h9.ints')
 rw [List.length_map, ← ints_eq] at hcl
 refine hcl.mono ?_
 rintro e W2 ⟨g, cap', rfl, hf2, hr2, hg2⟩
 have hf12 : Nw W W2 := (hf1.drew.drew).trans hf2 (fun i h => h.elim)
 have hg3 : W.heap.size + 3 ≤ g := by rw [← hs1]; exact hg2
 have hbx2 : GoBox W2 W.heap.size G l.length false := hbx.fr (((Fr.refl (fun _ => False) W1).drew.drew).trans hf2 (fun i h => h.elim)) (fun k h => h.elim)
 have hJ2 : J done C W2 := hS.st _ _ _ _ _ HJ.out hf12 (fun k h => h.elim)
 have hA2 := HA.out.nw hf12
 have hCl : ∀ k, C k → k < W.heap.size := fun k hk => by
  obtain ⟨cur, e, hb, _⟩ := hS.cells _ _ _ _ HJ.out hk
  exact hb.lt
 have hGN := HP.out.gN
 have hLN := HP.out.LN
 have hgC : ¬ C g := fun h => by have := hCl g h; omega
 have hK2 : Blk W2 W.heap.size #[.pointer (some ⟨G, 0, none⟩)] 165 ∧ Blk W2 G (goCells X rdy (.slice (some ⟨lb, 0, none⟩) l.length lc) (.func (.yield L) #[] #[])) 158 := ⟨hbx2.b0, HG.out.blk.nw hf12⟩
 refine ⟨_, rfl, hK2, ?_⟩
 obtain ⟨fn, tmps, assign, body, hy, hR⟩ := hS.yield done C l g cap' (9 - 1) W2 hJ2 hA2 hall (by omega) hgC hr2
 refine roundI_at (i := 9) (d := some 29) (l := L) (f := fn) (tmps := tmps) (assign := assign) (body := body) (w' := W2) (by kernel_rfl) (by kernel_rfl) (exec_yield (.tmp 23) (.tmp 28) #[22] (by kernel_rfl) (by kernel_rfl) (by kernel_rfl) hy) ?_
 refine hR.mono ?_
 rintro e W3 ⟨C', hC', hF3, hcase⟩
 obtain ⟨b, rfl, hb⟩ : ∃ b, e = .returned (.bool b) ∧ ((b = true ∧ J (done ++ [l]) C' W3) ∨ (b = false ∧ Jx (done ++ [l]) C' W3)) := by
  rcases hcase with ⟨h1, h2⟩ | ⟨h1, h2⟩
  ·exact ⟨true, h1, .inl ⟨rfl, h2⟩⟩
  ·exact ⟨false, h1, .inr ⟨rfl, h2⟩⟩
 have hnB : ∀ k, W.heap.size ≤ k → k < W.heap.size + 3 → ¬ (C k ∨ k = g ∨ k = L) := fun k h1 h2 h => by
  rcases h with h | h | h
  ·have := hCl k h; omega
  ·omega
  ·omega
 have hbx3 : GoBox W3 W.heap.size G l.length false := ⟨hbx2.b0.fr hF3 (hnB _ (by omega) (by omega)), hbx2.b1.fr hF3 (hnB _ (by omega) (by omega)), hbx2.b2.fr hF3 (hnB _ (by omega) (by omega))⟩
 have hnG : ∀ k, N0 ≤ k → k < W.heap.size → ¬ C k → ¬ (C k ∨ k = g ∨ k = L) := fun k h1 h2 h3 h => by
  rcases h with h | h | h
  ·exact h3 h
  ·omega
  ·omega
 have hG3 : GoAt W3 G X s.ts rdy (.slice (some ⟨lb, 0, none⟩) l.length lc) (.func (.yield L) #[] #[]) l := (HG.out.fr hf12 (fun h => h) (fun _ _ h => h) (fun _ _ _ _ h => h)).fr hF3 (hnG _ HP.out.gN hGl HP.out.gC) (fun k hk => hnG _ (HP.out.lN k hk).1 (HG.out.list.lt hk) (HP.out.lN k hk).2) (fun i k hi hk => hnG _ (HP.out.rN i k hi hk).1 ((HG.out.rdy i hi).lt hk) (HP.out.rN i k hi hk).2)
 refine ⟨_, rfl, ⟨hbx3.b0, hG3.blk⟩, ?_⟩
 have hF4 : Fr (fun k => k = W.heap.size + 1) W3 (W3.setCell ⟨W.heap.size + 1, 0, none⟩ (.bool b)) := (Fr.refl _ W3).setCell _ _ (.inl rfl)
 refine skipI_at (i := 10) (d := none) (w' := W3.setCell ⟨W.heap.size + 1, 0, none⟩ (.bool b)) (by kernel_rfl) (by kernel_rfl) (exec_storeU (old := .bool false) 4 (.tmp 2) (.tmp 29) (by kernel_rfl) (by kernel_rfl) (by kernel_rfl) rfl (by kernel_rfl) (hbx3.b1.cell 0) (hbx3.b1.free 0)) ⟨hbx3.b0.fr hF4 (by omega), hG3.blk.fr hF4 (by omega)⟩ ?_
 refine doneI (by kernel_rfl) (NoPanic.normal ?_) _
 simp only [Act.put, List.setIfInBounds_toArray, List.set_cons_zero, List.set_cons_succ]
 gi_wp2_with fail
 obtain ⟨W4, hW4⟩ : ∃ W4, W3.setCell ⟨W.heap.size + 1, 0, none⟩ (.bool b) = W4 := ⟨_, rfl⟩
 have hb4 : Blk W4 (W.heap.size + 1) #[.bool b] 4 := by rw [← hW4]; exact hbx3.b1.set 0 _
 rw [hW4] at hF4 ⊢
 refine ⟨_, results_cell1 (v := .bool b) rfl rfl (by kernel_rfl) (hb4.cell 0), ?_⟩
 have hC4 : ∀ k, C' k → C k ∨ W.heap.size ≤ k := fun k hk => by
  rcases hC' k hk with h | h | h
  ·exact .inl h
  ·exact .inr (by omega)
  ·exact .inr (Nat.le_trans hf12.size h)
 have hn1 : ¬ C' (W.heap.size + 1) := fun h => by
  have h2 := hf2.size
  rcases hC' _ h with h | h | h
  ·have := hCl _ h; omega
  ·omega
  ·have : W1.drew.drew.heap.size = W.heap.size + 3 := hs1
   omega
 refine ⟨C', _, l, hC4, List.prefix_refl l, hG3.fr hF4 (by omega) (fun k hk e => by have := HG.out.list.lt hk; omega) (fun i k hi hk e => by have := (HG.out.rdy i hi).lt hk; omega), HP.out.grow HG.out hC4, fun k hk => .inl hk, ?_, ?_⟩
 ·refine (((hf12.mono (S' := fun k => C k ∨ k = L ∨ k = G ∨ (Value.slice (some ⟨lb, 0, none⟩) l.length lc).ownBlock = some k) (fun i h => h.elim)).trans hF3 ?_).trans hF4 (fun i h => .inr (by omega)))
  rintro i (h | h | h)
  ·exact .inl (.inl h)
  ·exact .inr (by omega)
  ·exact .inl (.inr (.inl h))
 ·rcases hb with ⟨rfl, hb⟩ | ⟨rfl, hb⟩
  ·exact .inl ⟨rfl, hS.st _ _ _ _ _ hb hF4 (fun k hk => by subst hk; exact ⟨by omega, hn1, fun cur hb => absurd (hb.inj hbx3.b1).2 (by decide)⟩)⟩
  ·exact .inr ⟨rfl, [], l, List.prefix_refl _, by simpa using hS.stx _ _ _ _ _ hb hF4 (fun k hk => by subst hk; exact ⟨by omega, hn1, fun cur hb => absurd (hb.inj hbx3.b1).2 (by decide)⟩)⟩
end Go.Proofs.YtkjfpdfkcfgfkaaGreat

namespace Go.Proofs.YtkjfpdfkcfgfkaaGreat
open Go.RowKit Go.Shelf
attribute [local go_sem] Oper.semAt_some

def solsOf (d : List Nat) (bs : List Tb) (m : Nat) (l : List Nat) (pre : List Nat) : List (List Nat) := pre.flatMap (fun v => if fitsB bs (l ++ [v]) then solN d bs m (l ++ [v]) else [])
theorem solsOf_app (d : List Nat) (bs : List Tb) (m : Nat) (l pre : List Nat) (v : Nat) : solsOf d bs m l (pre ++ [v]) = solsOf d bs m l pre ++ if fitsB bs (l ++ [v]) then solN d bs m (l ++ [v]) else [] := by
 simp [solsOf, List.flatMap_append]
theorem solsOf_pre (d : List Nat) (bs : List Tb) (m : Nat) (l : List Nat) {p q : List Nat} (h : p <+: q) : solsOf d bs m l p <+: solsOf d bs m l q := by
 obtain ⟨r, rfl⟩ := h
 exact ⟨solsOf d bs m l r, by simp [solsOf, List.flatMap_append]⟩
theorem Bk.fr {lo : Nat} {A B : World} (h : Bk lo A B) : ∃ S : Nat → Prop, Fr S A B ∧ ∀ k, S k → lo ≤ k ∧ ∀ cur e, ¬ Blk A k cur e := by
 obtain ⟨row, hg, hr⟩ := h
 refine ⟨fun k => row = some k, (Fr.refl (fun k => row = some k) A).grown hg (fun k hk => .inl hk), fun k hk => ?_⟩
 obtain ⟨h1, o, ho, hc⟩ := hr k hk
 refine ⟨h1, fun cur e hb => ?_⟩
 have hb' : A.heap[k]? = some (.cells cur e (0, 0)) := hb
 rw [hb'] at ho
 cases ho
 cases hc
theorem GoAt.bk {lo : Nat} {A B : World} {G X : Nat} {ts : List Tab} {rdy : List Value} {lv yv : Value} {l : List Nat} (h : GoAt A G X ts rdy lv yv l) (hb : Bk lo A B) : GoAt B G X ts rdy lv yv l :=
 ⟨h.blk.bk hb, h.len, fun i hi => (h.rdy i hi).bk hb, h.list.bk hb⟩
theorem GoBox.bk {lo : Nat} {A B : World} {b G v : Nat} {r : Bool} (h : GoBox A b G v r) (hb : Bk lo A B) : GoBox B b G v r := ⟨h.b0.bk hb, h.b1.bk hb, h.b2.bk hb⟩
structure GoI (G X : Nat) (s : WS) (L N0 : Nat) (rdy : List Value) (l : List Nat) (C : Nat → Prop) (lv : Value) (W Wr : World) (C' : Nat → Prop) (lv' : Value) (l' : List Nat) : Prop where
 grow : ∀ k, C' k → C k ∨ W.heap.size + 3 ≤ k
 pre : l <+: l'
 at_ : GoAt Wr G X s.ts rdy lv' (.func (.yield L) #[] #[]) l'
 ok : GoPre G X s L N0 rdy lv' C'
 lgrow : ∀ k, lv'.ownBlock = some k → lv.ownBlock = some k ∨ W.heap.size + 3 ≤ k
 fr : Fr (fun k => C k ∨ k = L ∨ k = G ∨ lv.ownBlock = some k) W Wr
 box : GoBox Wr W.heap.size G l.length false
theorem GoI.bk {lo G X L N0 : Nat} {s : WS} {rdy : List Value} {l l' : List Nat} {C C' : Nat → Prop} {lv lv' : Value} {W A B : World} (h : GoI G X s L N0 rdy l C lv W A C' lv' l') (hb : Bk lo A B) (hl : W.heap.size ≤ lo) : GoI G X s L N0 rdy l C lv W B C' lv' l' :=
 ⟨h.grow, h.pre, h.at_.bk hb, h.ok, h.lgrow, h.fr.bk hb hl, h.box.bk hb⟩
theorem KeepsLo.trans {lo : Nat} {A B C : World} (h : KeepsLo lo A B) (k : KeepsLo lo B C) : KeepsLo lo A C := ⟨Nat.le_trans h.size k.size, fun i o hi ho hl => k.same i o hi (h.same i o hi ho hl) hl⟩
theorem go_wat {G X L N0 : Nat} {zs : List Int} {s : WS} {all : List (List Nat)} {J Jx : List (List Nat) → (Nat → Prop) → World → Prop} {rdy : List Value} {lv yv : Value} {l : List Nat} {done : List (List Nat)} {C : Nat → Prop} {W W' : World} (hS : Sink X zs s L N0 all J Jx) (hJ : J done C W) (hA : WAt W X zs s) (hG : GoAt W G X s.ts rdy lv yv l) (hP : GoPre G X s L N0 rdy lv C)
  (f : Fr (fun k => C k ∨ k = L ∨ k = G ∨ lv.ownBlock = some k) W W') : WAt W' X zs s := by
 refine hA.frN f (fun k hk => ?_) (fun k cur hk hb => ?_)
 ·obtain ⟨h1, h2, h3⟩ := hP.own k hk
  have := hP.gN
  rintro (h | h | h | h)
  ·exact h3 h
  ·exact h2 h
  ·omega
  ·have := (hP.lN k h).1; omega
 ·have hb' : W.heap[k]? = some (.cells cur 151 (0, 0)) := hb
  rcases hk with h | h | h | h
  ·obtain ⟨cur', e, hbe, he⟩ := hS.cells _ _ _ _ hJ h
   have h2 : W.heap[k]? = some (.cells cur' e (0, 0)) := hbe
   rw [h2] at hb'
   cases hb'
   exact he rfl
  ·subst h
   obtain ⟨r, hr⟩ := hS.lrec _ _ _ hJ
   rw [hr] at hb'
   cases hb'
  ·subst h
   have h2 : W.heap[k]? = some (.cells _ 158 (0, 0)) := hG.blk
   rw [h2] at hb'
   cases hb'
  ·exact hG.list.ne hb (by decide) h
theorem GoI.step {G X L N0 : Nat} {s : WS} {rdy : List Value} {l l' : List Nat} {C C' S : Nat → Prop} {lv lv' : Value} {W A B : World} (h : GoI G X s L N0 rdy l C lv W A C' lv' l') (hN : N0 ≤ W.heap.size) (hG : G < W.heap.size) (hlv : ∀ k, lv.ownBlock = some k → k < W.heap.size) (hC : ∀ k, C k → k < W.heap.size) (hCb : ∀ k, C' k → ∃ cur e, Blk A k cur e ∧ e ≠ 151)
  (f : Fr S A B) (hs : ∀ k, S k → k = W.heap.size + 1 ∨ (W.heap.size + 3 ≤ k ∧ ∀ cur e, ¬ Blk A k cur e)) :
  GoAt B G X s.ts rdy lv' (.func (.yield L) #[] #[]) l' ∧ Fr (fun k => C k ∨ k = L ∨ k = G ∨ lv.ownBlock = some k) W B ∧ ∀ k, S k → N0 ≤ k ∧ ¬ C' k ∧ ∀ cur, ¬ Blk A k cur 151 := by
 refine ⟨h.at_.fr f (fun hk => ?_) (fun k hk hk' => ?_) (fun i k hi hk hk' => ?_), h.fr.trans f (fun k hk => ?_), fun k hk => ?_⟩
 ·rcases hs _ hk with h1 | ⟨h1, _⟩ <;> omega
 ·rcases hs k hk' with h1 | ⟨_, h2⟩
  ·rcases h.lgrow k hk with h3 | h3
   ·have := hlv k h3; omega
   ·omega
  ·obtain ⟨cur, hb, _⟩ := h.at_.list.blk hk
   exact h2 _ _ hb
 ·rcases hs k hk' with h1 | ⟨_, h2⟩
  ·subst h1
   exact (h.at_.rdy i hi).ne h.box.b1 (by decide) hk
  ·obtain ⟨cur, hb, _⟩ := (h.at_.rdy i hi).blk hk
   exact h2 _ _ hb
 ·rcases hs k hk with h1 | ⟨h1, _⟩ <;> exact .inr (by omega)
 ·rcases hs k hk with h1 | ⟨h1, h2⟩
  ·refine ⟨by omega, fun hc => ?_, fun cur hb => ?_⟩
   ·rcases h.grow k hc with h3 | h3
    ·have := hC k h3; omega
    ·omega
   ·subst h1
    exact absurd (hb.inj h.box.b1).2 (by decide)
  ·refine ⟨by omega, fun hc => ?_, fun cur hb => h2 _ _ hb⟩
   obtain ⟨cur, e, hb, _⟩ := hCb k hc
   exact h2 _ _ hb
def NoPO (Q : Exit → Act → World → Prop) : Exit → Act → World → Prop
 | .panic _, _, _ => False
 | .outgrown, _, _ => False
 | e, a, w => Q e a w
theorem NoPO.imp {Q : Exit → Act → World → Prop} : ∀ (e : Exit) (a : Act) (w : World), NoPO Q e a w → Q e a w := fun e a w h => by
 cases e <;> first | exact h | exact (h : False).elim
theorem NoPO.normal {Q : Exit → Act → World → Prop} {a : Act} {w : World} (h : Q .normal a w) : NoPO Q .normal a w := h
theorem region_inP {Q : Exit → Act → World → Prop} {ops' : Array Oper} {id lp k : Nat} {a : Act} {w : World} (ops : Array Oper) (n : Nat) (S : World → Prop) (z : Nat) (ho : ops' = ops) (hn : ops.size = n) (hnd : noDefer ops.toList = true)
  (h : wpAnyU Tryz.prog .any ops (NoPO Q) S z n (Array.replicate n false) a w.drew) : (Code.region id ops' true).wpIn (Fence.wide.inRound lp) k Tryz.prog Q a w :=
 wpIn_mono (region_inU ops n S z ho hn hnd (fun _ _ h => h) h) NoPO.imp
theorem doneU {P : Program} {ops : Array Oper} {md : Region.Mode} {Q : Exit → Act → World → Prop} {S : World → Prop} {z : Nat} {listed : Array Bool} {a : Act} {w : World} (hr : Region.ready md ops listed = []) (h : Q .normal a w) : ∀ fuel, wpAnyU P md ops Q S z fuel listed a w
 | 0 => ⟨hr, h⟩
 | _ + 1 => ⟨fun _ => h, by rw [hr]; simp⟩
def goEv (x y : Value) : Operand → Value
 | .tmp 47 => x
 | .tmp _ => y
 | _ => undef
theorem exec_idxD {ev : Operand → Value} {o : Oper} {w : World} {X i : Nat} (x y : Operand) (ho : o.op = .indexAddr 60 x y) (hx : ev x = .pointer (some ⟨X, 1, none⟩)) (hy : ev y = .int .i64 (i : Int)) (hi : i < 8) : (execOp ev o).run Tryz.prog w = .ok (.value (.pointer (some ⟨X, 1 + i, none⟩))) w := by
 unfold execOp
 simp only [ho, hx, hy]
 have hc : i = 0 ∨ i = 1 ∨ i = 2 ∨ i = 3 ∨ i = 4 ∨ i = 5 ∨ i = 6 ∨ i = 7 := by omega
 rcases hc with rfl | rfl | rfl | rfl | rfl | rfl | rfl | rfl <;> (show Sem.run _ _ _ = _; kernel_rfl)
theorem exec_head {ev : Operand → Value} {o : Oper} {w : World} {ao : Option Addr} {m cap n : Nat} {xs : List Value} (x y : Operand) (ho : o.op = .slice 22 x none (some y) none) (hx : ev x = .slice ao m cap) (hy : ev y = .int .i64 (n : Int)) (hn : n ≤ cap) (hr : ∃ w', Row w' (.slice ao m cap) 3 xs) : (execOp ev o).run Tryz.prog w = .ok (.value (.slice ao n cap)) w := by
 obtain ⟨w', hr⟩ := hr
 have h1 := (slice_highI ao m cap n hn w).trans (by rw [hr.sliced0 n])
 unfold execOp
 simp [ho, hx, hy, h1, Result.andThen]

set_option maxHeartbeats 3200000 in
set_option maxRecDepth 1000000 in
theorem goOn_succ (G X : Nat) (zs : List Int) (s : WS) (L N0 : Nat) (all : List (List Nat)) (J Jx : List (List Nat) → (Nat → Prop) → World → Prop) (hS : Sink X zs s L N0 all J Jx) (rdy : List Value) (m : Nat) (ih : GoOk G X zs s L N0 all J Jx rdy m) : GoOk G X zs s L N0 all J Jx rdy (m + 1) := by
 intro l lv done C W hlm hJ hA hG hP hall hin
 obtain ⟨lo, lc, hlf, _⟩ := hG.list.form
 rw [show (ints l).length = l.length from by simp [ints]] at hlf
 subst hlf
 have hz := okSizes_len hA.mem.zok
 have c9 : W.cell? ⟨G, 9, none⟩ = some (.slice lo l.length lc) := (hG.blk.cell 9).trans (goCells_list _ _ _ _ hG.len)
 have hGl := hG.blk.lt
 have hl8 : (l.length : Int) ≤ 8 := by omega
 have HJ := hd hJ
 have HA := hd hA
 have HG := hd hG
 have HP := hd hP
 clear hJ hA hG hP
 refine (callsIn_wide (n := 9)).1 ?_
 refine callsIn_of_wp_marks Tryz.func91 rfl trivial ?_ rfl
 simp only [Tryz.ntmps91, List.size_toArray, List.length_cons, List.length_nil, Nat.reduceAdd, Nat.reduceSub, Array.replicate_succ, Array.replicate_zero, List.push_toArray, List.append_toArray, List.nil_append, List.cons_append]
 gi_wp2_with fail
 obtain ⟨W1, hW1⟩ : ∃ W1, W1 = ((W.alloc (.cells #[.pointer (some ⟨G, 0, none⟩)] 165)).alloc (.cells #[.bool false] 4)).alloc (.cells #[.int .i64 (l.length : Int)] 3) := ⟨_, rfl⟩
 have hf1 : Nw W W1 := by rw [hW1]; exact (((Fr.refl _ W).alloc _).alloc _).alloc _
 have hs1 : W1.heap.size = W.heap.size + 3 := by rw [hW1]; simp
 have hbx : GoBox W1 W.heap.size G l.length false := by
  rw [hW1]
  refine ⟨((Blk.new _ _ _).alloc _).alloc _, ?_, ?_⟩
  ·have := (Blk.new (W.alloc (.cells #[.pointer (some ⟨G, 0, none⟩)] 165)) #[.bool false] 4).alloc (.cells #[.int .i64 (l.length : Int)] 3)
   simpa using this
  ·have := Blk.new ((W.alloc (.cells #[.pointer (some ⟨G, 0, none⟩)] 165)).alloc (.cells #[.bool false] 4)) #[.int .i64 (l.length : Int)] 3
   simpa using this
 rw [← hW1]
 have HW1 := hd hW1
 clear hW1
 obtain ⟨so', sc, hszv, _⟩ := HA.out.mem.sz.form
 rw [List.length_map] at hszv
 have hK0 : GoBox W1.drew W.heap.size G l.length false ∧ Blk W1.drew G (goCells X rdy (.slice lo l.length lc) (.func (.yield L) #[] #[])) 158 ∧ Blk W1.drew X (workCells s.szv s.d (.slice s.so s.ts.length s.tcap) s.l) 66 :=
  ⟨hbx.fr ((Fr.refl (fun _ => False) W1).drew) (fun k h => h.elim), (HG.out.blk.nw hf1).drew, (HA.out.mem.blk.nw hf1).drew⟩
 refine region_I goReg2 10 (fun w'' => GoBox w'' W.heap.size G l.length false ∧ Blk w'' G (goCells X rdy (.slice lo l.length lc) (.func (.yield L) #[] #[])) 158 ∧ Blk w'' X (workCells s.szv s.d (.slice s.so s.ts.length s.tcap) s.l) 66) (by kernel_rfl) (by kernel_rfl) (by kernel_rfl) ?_
 refine takeI_at (i := 0) (d := some 10) (v := .int .i64 (l.length : Int)) (by kernel_rfl) (by kernel_rfl) (fun _ _ _ h => h) (fun w'' hS => exec_load 3 (.tmp 3) (by kernel_rfl) (by kernel_rfl) (by kernel_rfl) (hS.1.b2.cell 0)) hK0 ?_
 refine takeI_at (i := 1) (d := some 11) (v := .pointer (some ⟨G, 0, none⟩)) (by kernel_rfl) (by kernel_rfl) (fun _ _ _ h => h) (fun w'' hS => exec_load 165 (.tmp 1) (by kernel_rfl) (by kernel_rfl) (by kernel_rfl) (hS.1.b0.cell 0)) hK0 ?_
 refine takeI_at (i := 2) (d := some 12) (v := .pointer (some ⟨G, 0, none⟩)) (by kernel_rfl) (by kernel_rfl) (fun _ _ _ h => h) (fun w'' hS => by kernel_rfl) hK0 ?_
 refine takeI_at (i := 3) (d := some 13) (v := .pointer (some ⟨G, 0, none⟩)) (by kernel_rfl) (by kernel_rfl) (fun _ _ _ h => h) (fun w'' hS => by kernel_rfl) hK0 ?_
 refine takeI_at (i := 4) (d := some 14) (v := .pointer (some ⟨X, 0, none⟩)) (by kernel_rfl) (by kernel_rfl) (fun _ _ _ h => h) (fun w'' hS => exec_load 35 (.tmp 13) (by kernel_rfl) (by kernel_rfl) (by kernel_rfl) (hS.2.1.cell 0)) hK0 ?_
 refine takeI_at (i := 5) (d := some 15) (v := .pointer (some ⟨X, 0, none⟩)) (by kernel_rfl) (by kernel_rfl) (fun _ _ _ h => h) (fun w'' hS => by kernel_rfl) hK0 ?_
 refine takeI_at (i := 6) (d := some 16) (v := .pointer (some ⟨X, 0, none⟩)) (by kernel_rfl) (by kernel_rfl) (fun _ _ _ h => h) (fun w'' hS => by kernel_rfl) hK0 ?_
 refine takeI_at (i := 7) (d := some 17) (v := .slice so' zs.length sc) (by kernel_rfl) (by kernel_rfl) (fun _ _ _ h => h) (fun w'' hS => exec_load 22 (.tmp 16) (by kernel_rfl) (by kernel_rfl) (by kernel_rfl) ((hS.2.2.cell 0).trans ((workCells_sz ..).trans (by rw [hszv])))) hK0 ?_
 refine takeI_at (i := 8) (d := some 18) (v := .int .i64 (zs.length : Int)) (by kernel_rfl) (by kernel_rfl) (fun _ _ _ h => h) (fun w'' hS => by kernel_rfl) hK0 ?_
 refine takeI_at (i := 9) (d := some 19) (v := .bool false) (by kernel_rfl) (by kernel_rfl) (fun _ _ _ h => h) (fun w'' hS => exec_eqI (l.length : Int) (zs.length : Int) false (.tmp 10) (.tmp 18) (by kernel_rfl) (by kernel_rfl) (by kernel_rfl) (by rw [beq_eq_false_iff_ne]; omega)) hK0 ?_
 refine doneI (by kernel_rfl) (NoPanic.normal ?_) _
 simp only [Act.put, List.setIfInBounds_toArray, List.set_cons_zero, List.set_cons_succ]
 clear hK0
 gi_wp2_with fail
 have hK0 : GoBox W1.drew.drew W.heap.size G l.length false ∧ Blk W1.drew.drew G (goCells X rdy (.slice lo l.length lc) (.func (.yield L) #[] #[])) 158 ∧ Blk W1.drew.drew X (workCells s.szv s.d (.slice s.so s.ts.length s.tcap) s.l) 66 :=
  ⟨hbx.fr ((Fr.refl (fun _ => False) W1).drew.drew) (fun k h => h.elim), (HG.out.blk.nw hf1).drew.drew, (HA.out.mem.blk.nw hf1).drew.drew⟩
 have hd8 : s.d.length = 8 := HA.out.good.dm.len
 refine region_I goReg4 10 (fun w'' => GoBox w'' W.heap.size G l.length false ∧ Blk w'' G (goCells X rdy (.slice lo l.length lc) (.func (.yield L) #[] #[])) 158 ∧ Blk w'' X (workCells s.szv s.d (.slice s.so s.ts.length s.tcap) s.l) 66) (by kernel_rfl) (by kernel_rfl) (by kernel_rfl) ?_
 refine takeI_at (i := 0) (d := some 30) (v := .pointer (some ⟨G, 0, none⟩)) (by kernel_rfl) (by kernel_rfl) (fun _ _ _ h => h) (fun w'' hS => exec_load 165 (.tmp 1) (by kernel_rfl) (by kernel_rfl) (by kernel_rfl) (hS.1.b0.cell 0)) hK0 ?_
 refine takeI_at (i := 1) (d := some 31) (v := .pointer (some ⟨G, 0, none⟩)) (by kernel_rfl) (by kernel_rfl) (fun _ _ _ h => h) (fun w'' hS => by kernel_rfl) hK0 ?_
 refine takeI_at (i := 2) (d := some 32) (v := .pointer (some ⟨G, 0, none⟩)) (by kernel_rfl) (by kernel_rfl) (fun _ _ _ h => h) (fun w'' hS => by kernel_rfl) hK0 ?_
 refine takeI_at (i := 3) (d := some 33) (v := .pointer (some ⟨X, 0, none⟩)) (by kernel_rfl) (by kernel_rfl) (fun _ _ _ h => h) (fun w'' hS => exec_load 35 (.tmp 32) (by kernel_rfl) (by kernel_rfl) (by kernel_rfl) (hS.2.1.cell 0)) hK0 ?_
 refine takeI_at (i := 4) (d := some 34) (v := .int .i64 (l.length : Int)) (by kernel_rfl) (by kernel_rfl) (fun _ _ _ h => h) (fun w'' hS => exec_load 3 (.tmp 3) (by kernel_rfl) (by kernel_rfl) (by kernel_rfl) (hS.1.b2.cell 0)) hK0 ?_
 refine takeI_at (i := 5) (d := some 35) (v := .pointer (some ⟨X, 0, none⟩)) (by kernel_rfl) (by kernel_rfl) (fun _ _ _ h => h) (fun w'' hS => by kernel_rfl) hK0 ?_
 refine takeI_at (i := 6) (d := some 36) (v := .pointer (some ⟨X, 1, none⟩)) (by kernel_rfl) (by kernel_rfl) (fun _ _ _ h => h) (fun w'' hS => by kernel_rfl) hK0 ?_
 refine takeI_at (i := 7) (d := some 37) (v := .pointer (some ⟨X, 1 + l.length, none⟩)) (by kernel_rfl) (by kernel_rfl) (fun _ _ _ h => h) (fun w'' hS => exec_idxD (.tmp 36) (.tmp 34) (by kernel_rfl) (by kernel_rfl) (by kernel_rfl) (by omega)) hK0 ?_
 refine takeI_at (i := 8) (d := some 38) (v := .int .u8 ((s.d.getD l.length 0 : Nat) : Int)) (by kernel_rfl) (by kernel_rfl) (fun _ _ _ h => h) (fun w'' hS => exec_load 58 (.tmp 37) (by kernel_rfl) (by kernel_rfl) (by kernel_rfl) ((hS.2.2.cell (1 + l.length)).trans (workCells_dom _ _ _ _ _ (by omega)))) hK0 ?_
 refine takeI_at (i := 9) (d := some 39) (v := .func (.func 49) #[.int .u8 ((s.d.getD l.length 0 : Nat) : Int)] #[]) (by kernel_rfl) (by kernel_rfl) (fun _ _ _ h => h) (fun w'' hS => by kernel_rfl) hK0 ?_
 refine doneI (by kernel_rfl) (NoPanic.normal ?_) _
 simp only [Act.put, List.setIfInBounds_toArray, List.set_cons_zero, List.set_cons_succ]
 clear hK0
 gi_wp2_with fail
 have hs2 : W1.drew.drew.heap.size = W.heap.size + 3 := hs1
 have hf2 : Nw W W1.drew.drew := hf1.drew.drew
 have hGN := HP.out.gN
 have hLN := HP.out.LN
 have hCl : ∀ k, C k → k < W.heap.size := fun k hk => by
  obtain ⟨cur, e, hb, _⟩ := hS.cells _ _ _ _ HJ.out hk
  exact hb.lt
 have hd64 : s.d.getD l.length 0 < 64 := HA.out.good.dm.lt _
 have hJbk : ∀ (JJ : List (List Nat) → (Nat → Prop) → World → Prop) dn C' A B, (∀ done C S A B, JJ done C A → Fr S A B → (∀ k, S k → N0 ≤ k ∧ ¬ C k ∧ ∀ cur, ¬ Blk A k cur 151) → JJ done C B) → (∀ done C A k, JJ done C A → C k → ∃ cur e, Blk A k cur e ∧ e ≠ 151) → JJ dn C' A → Bk W1.drew.drew.heap.size A B → JJ dn C' B := fun JJ dn C' A B h1 h2 h3 hb => by
  obtain ⟨S, hf, hk⟩ := hb.fr
  refine h1 _ _ _ _ _ h3 hf (fun k hk' => ⟨?_, fun hc => ?_, fun cur hb' => (hk k hk').2 _ _ hb'⟩)
  ·have := (hk k hk').1
   omega
  ·obtain ⟨cur, e, hb', _⟩ := h2 _ _ _ _ h3 hc
   exact (hk k hk').2 cur e hb'
 have hG1 := HG.out.fr hf2 (fun h => h) (fun _ _ h => h) (fun _ _ _ _ h => h)
 have HG1 := hd hG1
 clear hG1
 obtain ⟨W2, hW2⟩ : ∃ W2, W1.drew.drew = W2 := ⟨_, rfl⟩
 have hbx2 : GoBox W2 W.heap.size G l.length false := by rw [← hW2]; exact hbx.fr ((Fr.refl (fun _ => False) W1).drew.drew) (fun k h => h.elim)
 rw [hW2] at hs2 hf2 hJbk HG1 ⊢
 have hI0 : GoI G X s L N0 rdy l C (.slice lo l.length lc) W W2 C (.slice lo l.length lc) l := ⟨fun k h => .inl h, List.prefix_refl _, HG1.out, HP.out, fun k h => .inl h, hf2.mono (fun i h => h.elim), hbx2⟩
 have HI0 := hd hI0
 clear hI0 hbx hf1 hbx2
 refine wp_each2 (s := s.d.getD l.length 0) (by omega) rfl (by simp) (fun pre A => ∃ C' lv' l', GoI G X s L N0 rdy l C (.slice lo l.length lc) W A C' lv' l' ∧ J (done ++ solsOf s.d s.bs m l pre) C' A)
  (fun pre A => ∃ C' lv' l', GoI G X s L N0 rdy l C (.slice lo l.length lc) W A C' lv' l' ∧ ∃ p x, (p ++ [x]) <+: solN s.d s.bs (m + 1) l ∧ Jx (done ++ p ++ [x]) C' A)
  (fun pre A B h hb => ?bk) (fun pre A B h hb => ?bkx) ⟨C, _, l, HI0.out, ?j0⟩ ?round ?done ?stop
 case bk =>
  obtain ⟨C', lv', l', h1, h2⟩ := h
  exact ⟨C', lv', l', h1.bk hb (by omega), hJbk J _ _ _ _ hS.st hS.cells h2 hb⟩
 case bkx =>
  obtain ⟨C', lv', l', h1, p, x, h2, h3⟩ := h
  exact ⟨C', lv', l', h1.bk hb (by omega), p, x, h2, hJbk Jx _ _ _ _ hS.stx hS.cellsx h3 hb⟩
 case j0 => simpa [solsOf] using hS.st _ _ _ _ _ HJ.out hf2 (fun k h => h.elim)
 case round =>
  rintro lp pre v Wr hpre ⟨C', lv', l', hI, hJr⟩
  obtain ⟨lo', lc', hlf', _⟩ := hI.at_.list.form
  rw [show (ints l').length = l'.length from by simp [ints]] at hlf'
  subst hlf'
  have hll := hI.pre.length_le
  have hcap : l'.length ≤ lc' := by
   have := hI.at_.list.capG
   simpa [ints] using this
  have HI := hd hI
  have HJr := hd hJr
  clear hI hJr
  simp only [List.setIfInBounds_toArray, List.set_cons_zero, List.set_cons_succ]
  gi_wp2_with fail
  have hK0 : GoBox Wr.drew W.heap.size G l.length false ∧ Blk Wr.drew G (goCells X rdy (.slice lo' l'.length lc') (.func (.yield L) #[] #[])) 158 := ⟨HI.out.box.fr ((Fr.refl (fun _ => False) Wr).drew) (fun k h => h.elim), HI.out.at_.blk.drew⟩
  refine region_inP goReg6 13 (fun w'' => GoBox w'' W.heap.size G l.length false ∧ Blk w'' G (goCells X rdy (.slice lo' l'.length lc') (.func (.yield L) #[] #[])) 158) 12 (by kernel_rfl) (by kernel_rfl) (by kernel_rfl) ?_
  refine takeU_at (i := 0) (d := some 41) (v := .pointer (some ⟨G, 0, none⟩)) (by kernel_rfl) (by kernel_rfl) (fun _ _ _ h => h) (fun w'' hS => exec_load 165 (.tmp 1) (by kernel_rfl) (by kernel_rfl) (by kernel_rfl) (hS.1.b0.cell 0)) hK0 ?_
  refine takeU_at (i := 1) (d := some 42) (v := .pointer (some ⟨G, 0, none⟩)) (by kernel_rfl) (by kernel_rfl) (fun _ _ _ h => h) (fun w'' hS => exec_load 165 (.tmp 1) (by kernel_rfl) (by kernel_rfl) (by kernel_rfl) (hS.1.b0.cell 0)) hK0 ?_
  refine takeU_at (i := 2) (d := some 43) (v := .pointer (some ⟨G, 0, none⟩)) (by kernel_rfl) (by kernel_rfl) (fun _ _ _ h => h) (fun w'' hS => by kernel_rfl) hK0 ?_
  refine takeU_at (i := 3) (d := some 44) (v := .pointer (some ⟨G, 9, none⟩)) (by kernel_rfl) (by kernel_rfl) (fun _ _ _ h => h) (fun w'' hS => by kernel_rfl) hK0 ?_
  refine takeU_at (i := 4) (d := some 45) (v := .slice lo' l'.length lc') (by kernel_rfl) (by kernel_rfl) (fun _ _ _ h => h) (fun w'' hS => exec_load 22 (.tmp 44) (by kernel_rfl) (by kernel_rfl) (by kernel_rfl) ((hS.2.cell 9).trans (goCells_list _ _ _ _ HI.out.at_.len))) hK0 ?_
  refine takeU_at (i := 5) (d := some 46) (v := .int .i64 (l.length : Int)) (by kernel_rfl) (by kernel_rfl) (fun _ _ _ h => h) (fun w'' hS => exec_load 3 (.tmp 3) (by kernel_rfl) (by kernel_rfl) (by kernel_rfl) (hS.1.b2.cell 0)) hK0 ?_
  refine takeU_at (i := 6) (d := some 47) (v := .slice lo' l.length lc') (by kernel_rfl) (by kernel_rfl) (fun _ _ _ h => h) (fun w'' hS => exec_head (.tmp 45) (.tmp 46) (by kernel_rfl) (by kernel_rfl) (by kernel_rfl) (by omega) ⟨Wr, HI.out.at_.list⟩) hK0 ?_
  refine takeU_at (i := 7) (d := some 48) (v := .int .i64 (v : Int)) (by kernel_rfl) (by kernel_rfl) (fun _ _ _ h => h) (fun w'' hS => by kernel_rfl) hK0 ?_
  have hfa : Nw Wr (Wr.drew.alloc (.cells #[.int .i64 (v : Int)] 3)) := ((Fr.refl _ Wr).drew).alloc _
  obtain ⟨Wa, hWa⟩ : ∃ Wa, Wr.drew.alloc (.cells #[.int .i64 (v : Int)] 3) = Wa := ⟨_, rfl⟩
  have hba : Blk Wa Wr.heap.size #[.int .i64 (v : Int)] 3 := by rw [← hWa]; exact Blk.new _ _ _
  rw [hWa] at hfa
  have hKa : GoBox Wa W.heap.size G l.length false ∧ Blk Wa G (goCells X rdy (.slice lo' l'.length lc') (.func (.yield L) #[] #[])) 158 := ⟨HI.out.box.fr hfa (fun k h => h.elim), HI.out.at_.blk.nw hfa⟩
  refine valueU_at (i := 8) (d := some 49) (v := .slice (some ⟨Wr.heap.size, 0, none⟩) 1 1) (w' := Wa) (by kernel_rfl) (by kernel_rfl) (by rw [← hWa]; kernel_rfl) (fun _ => hKa) ?_
  obtain ⟨i0, hi0, hz0, hz1, hz2⟩ := info_parts Tryz.infoInt
  have hrow : Row Wa (.slice lo' l.length lc') 3 (ints l) := by
   have h1 := (HI.out.at_.list.nw hfa).take l.length (by simpa [ints] using hll)
   have h2 : (ints l').take l.length = ints l := by
    obtain ⟨r, rfl⟩ := HI.out.pre
    simp [ints]
   rw [h2] at h1
   exact h1
  obtain ⟨v', Wb, hrun, hA1, hA2, hA3⟩ := exec_append1 (c := 1) (ev := goEv (.slice lo' l.length lc') (.slice (some ⟨Wr.heap.size, 0, none⟩) 1 1)) (o := opAt goReg6 9) (w := Wa) 8 (.tmp 47) (.tmp 49) 22 (by kernel_rfl) (by kernel_rfl) (by kernel_rfl) Tryz.underlying22 hi0 hz0 hz1 hz2 rfl hrow (hba.cell 0) rfl (by simp [ints]; unfold maxLen; omega) (by simp [ints]; omega)
  obtain ⟨g', cap', rfl, hrb, hfb, hab, hltb⟩ := app1' hA1 hA2 hA3
  rw [show (ints l).length = l.length from by simp [ints]] at hrb hrun
  have hIl := HI.out.lgrow
  have hsame : (Value.slice lo' l.length lc').ownBlock = (Value.slice lo' l'.length lc').ownBlock := by cases lo' <;> rfl
  rw [hsame] at hfb hab
  have hCr : ∀ k, C' k → k < Wr.heap.size ∧ ∃ cur e, Blk Wr k cur e ∧ e ≠ 151 := fun k hk => by
   obtain ⟨cur, e, hb, he⟩ := hS.cells _ _ _ _ HJr.out hk
   exact ⟨hb.lt, cur, e, hb, he⟩
  have hsr : W.heap.size + 3 ≤ Wr.heap.size := by have := HI.out.box.b2.lt; omega
  have hnlB : ∀ k, (Value.slice lo' l'.length lc').ownBlock = some k → k < W.heap.size ∨ W.heap.size + 2 < k := fun k hk => by
   rcases hIl k hk with h | h
   ·have := HG.out.list.lt h; omega
   ·omega
  have hnlG : (Value.slice lo' l'.length lc').ownBlock ≠ some G := HI.out.at_.list.ne HI.out.at_.blk (by decide)
  have hKb : GoBox Wb W.heap.size G l.length false ∧ Blk Wb G (goCells X rdy (.slice lo' l'.length lc') (.func (.yield L) #[] #[])) 158 := ⟨hKa.1.fr hfb (fun k h => hnlB k h), hKa.2.fr hfb hnlG⟩
  refine valueU_at (i := 9) (d := some 50) (v := .slice (some ⟨g', 0, none⟩) (l.length + 1) cap') (w' := Wb) (by kernel_rfl) (by kernel_rfl) (Eq.trans (exec_same (s := .tmp 47) (y := .tmp 49) (t := 22) (by kernel_rfl) (by kernel_rfl)) hrun) (fun _ => hKb) ?_
  refine valueU_at (i := 10) (d := some 51) (v := .pointer (some ⟨G, 0, none⟩)) (w' := Wb) (by kernel_rfl) (by kernel_rfl) (by kernel_rfl) (fun _ => hKb) ?_
  refine valueU_at (i := 11) (d := some 52) (v := .pointer (some ⟨G, 9, none⟩)) (w' := Wb) (by kernel_rfl) (by kernel_rfl) (by kernel_rfl) (fun _ => hKb) ?_
  refine skipU_at (i := 12) (d := none) (w' := Wb.setCell ⟨G, 9, none⟩ (.slice (some ⟨g', 0, none⟩) (l.length + 1) cap')) (by kernel_rfl) (by kernel_rfl) (exec_storeU (old := .slice lo' l'.length lc') 22 (.tmp 52) (.tmp 50) (by kernel_rfl) (by kernel_rfl) (by kernel_rfl) rfl (by kernel_rfl) ((hKb.2.cell 9).trans (goCells_list _ _ _ _ HI.out.at_.len)) (hKb.2.free 9)) (fun h => absurd rfl h) ?_
  refine doneU (by kernel_rfl) (show _ from ?_) _
  simp only [Act.put, List.setIfInBounds_toArray, List.set_cons_zero, List.set_cons_succ]
  have hf5 : Fr (fun k => k = G ∨ (Value.slice lo' l'.length lc').ownBlock = some k) Wr (Wb.setCell ⟨G, 9, none⟩ (.slice (some ⟨g', 0, none⟩) (l.length + 1) cap')) := ((hfa.mono (fun i h => h.elim)).trans hfb (fun i h => .inl (.inr h))).setCell _ _ (.inl (.inl rfl))
  obtain ⟨W5, hW5⟩ : ∃ W5, Wb.setCell ⟨G, 9, none⟩ (.slice (some ⟨g', 0, none⟩) (l.length + 1) cap') = W5 := ⟨_, rfl⟩
  have hbG : Blk W5 G (goCells X rdy (.slice (some ⟨g', 0, none⟩) (l.length + 1) cap') (.func (.yield L) #[] #[])) 158 := by
   rw [← hW5, ← goCells_setList X rdy (.slice lo' l'.length lc') (.func (.yield L) #[] #[]) _ HI.out.at_.len]
   exact hKb.2.set 9 _
  have hgG : g' ≠ G := fun e => by
   subst e
   rcases hab with h | h
   ·exact hnlG h
   ·have := hKa.2.lt; omega
  have hrow5 : Row W5 (.slice (some ⟨g', 0, none⟩) (l.length + 1) cap') 3 (ints (l ++ [v])) := by
   have h1 : ints (l ++ [v]) = ints l ++ [.int .i64 (v : Int)] := by simp [ints]
   rw [h1, ← hW5]
   exact hrb.fr ((Fr.refl (fun k => k = G) Wb).setCell ⟨G, 9, none⟩ _ (.inl rfl)) (fun k hk e => by cases hk; exact hgG e)
  rw [hW5] at hf5 ⊢
  have hrdyN : ∀ i k, i < 8 → (rdy.getD i undef).ownBlock = some k → ¬ (k = G ∨ (Value.slice lo' l'.length lc').ownBlock = some k) := fun i k hi hk h => by
   rcases h with h | h
   ·subst h
    exact (HI.out.at_.rdy i hi).ne HI.out.at_.blk (by decide) hk
   ·exact HI.out.at_.list.ne_row (HI.out.at_.rdy i hi) (by decide) h hk
  have hG5 : GoAt W5 G X s.ts rdy (.slice (some ⟨g', 0, none⟩) (l.length + 1) cap') (.func (.yield L) #[] #[]) (l ++ [v]) := ⟨hbG, HI.out.at_.len, fun i hi => (HI.out.at_.rdy i hi).fr hf5 (fun k hk => hrdyN i k hi hk), hrow5⟩
  have hlg5 : ∀ k, (Value.slice (some ⟨g', 0, none⟩) (l.length + 1) cap').ownBlock = some k → k = g' := fun k hk => by cases hk; rfl
  have hsa := hfa.size
  have hP5 : GoPre G X s L N0 rdy (.slice (some ⟨g', 0, none⟩) (l.length + 1) cap') C' := by
   refine ⟨HI.out.ok.gN, HI.out.ok.gC, fun k hk => ?_, HI.out.ok.rN, HI.out.ok.LN, HI.out.ok.own⟩
   obtain rfl := hlg5 k hk
   rcases hab with h | h
   ·exact HI.out.ok.lN _ h
   ·exact ⟨by omega, fun hc => by have := (hCr _ hc).1; omega⟩
  have hbx5 : GoBox W5 W.heap.size G l.length false := HI.out.box.fr hf5 (fun k h => by
   rcases h with h | h
   ·subst h; have := HG.out.blk.lt; omega
   ·exact hnlB k h)
  have hJ5 : J (done ++ solsOf s.d s.bs m l pre) C' W5 := hS.st _ _ _ _ _ HJr.out hf5 (fun k h => by
   rcases h with h | h
   ·subst h; exact ⟨HI.out.ok.gN, HI.out.ok.gC, fun cur hb => absurd (hb.inj HI.out.at_.blk).2 (by decide)⟩
   ·exact ⟨(HI.out.ok.lN k h).1, (HI.out.ok.lN k h).2, fun cur hb => HI.out.at_.list.ne hb (by decide) h⟩)
  have hfW5 : Fr (fun k => C k ∨ k = L ∨ k = G ∨ (Value.slice lo l.length lc).ownBlock = some k) W W5 := HI.out.fr.trans hf5 (fun i h => by
   rcases h with h | h
   ·exact .inl (.inr (.inr (.inl h)))
   ·rcases hIl i h with h | h
    ·exact .inl (.inr (.inr (.inr h)))
    ·exact .inr (by omega))
  have hA5 : WAt W5 X zs s := go_wat hS HJ.out HA.out HG.out HP.out hfW5
  have hI5 : GoI G X s L N0 rdy l C (.slice lo l.length lc) W W5 C' (.slice (some ⟨g', 0, none⟩) (l.length + 1) cap') (l ++ [v]) := by
   refine ⟨HI.out.grow, List.prefix_append _ _, hG5, hP5, fun k hk => ?_, hfW5, hbx5⟩
   obtain rfl := hlg5 k hk
   rcases hab with h | h
   ·exact hIl _ h
   ·exact .inr (by omega)
  have hvm : v ∈ vals (s.d.getD l.length 0) := hpre.subset (by simp)
  have hin5 : ∀ q, q < (l ++ [v]).length → (s.d.getD q 0).testBit ((l ++ [v]).getD q 0) = true := fun q hq => by
   rw [List.length_append, List.length_singleton] at hq
   by_cases h : q < l.length
   ·have : (l ++ [v]).getD q 0 = l.getD q 0 := by simp [List.getD, List.getElem?_append_left h]
    rw [this]
    exact hin q h
   ·obtain rfl : q = l.length := by omega
    have : (l ++ [v]).getD l.length 0 = v := by simp [List.getD]
    rw [this]
    exact (vals_mem hd64).1 hvm
  have hk5 : KeepsLo W2.heap.size Wr W5 := hf5.keepsLo (fun k h => by
   rcases h with h | h
   ·subst h; exact .inr ⟨_, _, HI.out.at_.blk⟩
   ·obtain ⟨cur, hb, _⟩ := HI.out.at_.list.blk h
    exact .inr ⟨_, _, hb⟩)
  have hfits := fits_any G X zs s rdy _ _ (l ++ [v]) W5 hA5 hG5 (by simp) (by simp; omega) hin5
  have hc0 : W5.cell? ⟨W.heap.size, 0, none⟩ = some (.pointer (some ⟨G, 0, none⟩)) := hbx5.b0.cell 0
  have Hfits := hd hfits
  have HI5 := hd hI5
  have HJ5 := hd hJ5
  have HA5 := hd hA5
  have Hin5 := hd hin5
  have Hk5 := hd hk5
  have HCr := hd hCr
  have Hf5 := hd hf5
  have HKb := hd hKb
  have HKa := hd hKa
  clear hfits hI5 hJ5 hA5 hin5 hk5 hG5 hP5 hbx5 hfW5 hf5 hrow5 hbG hKb hKa hK0 hCr hA1 hA2 hA3 hrun hrow hba hrb hfb hab hlg5 hrdyN hnlB hnlG hIl hfa hWa hW5 hvm hsame
  refine NoPO.normal ?_
  gi_wp2_with fail
  refine ⟨trivial, ?_⟩
  refine (CallsIn.inRound lp (callsIn_wide.2 Hfits.out)).mono ?_
  clear Hfits
  rintro e w' ⟨rfl, n5, rfl⟩
  have hc1 : (W5.drewN n5).cell? ⟨W.heap.size, 0, none⟩ = some (.pointer (some ⟨G, 0, none⟩)) := hc0
  have hfd : Fr (fun _ => False) W5 (W5.drewN n5) := (Fr.refl _ W5).drewN n5
  obtain ⟨fb, hfb⟩ : ∃ fb, fitsB s.bs (l ++ [v]) = fb := ⟨_, rfl⟩
  rw [hfb]
  have Hfb := hd hfb
  clear hfb
  cases fb with
  | false =>
   gi_wp2_with fail
   refine ⟨trivial, ?_⟩
   gi_wp2_with fail
   refine ⟨⟨Hk5.out.size, Hk5.out.same⟩, C', .slice (some ⟨g', 0, none⟩) (l.length + 1) cap', l ++ [v], ?_, ?_⟩
   ·exact ⟨HI5.out.grow, HI5.out.pre, HI5.out.at_.fr hfd (fun h => h) (fun _ _ h => h) (fun _ _ _ _ h => h), HI5.out.ok, HI5.out.lgrow, HI5.out.fr.drewN n5, HI5.out.box.fr hfd (fun k h => h.elim)⟩
   ·rw [solsOf_app, Hfb.out]
    simpa using hS.st _ _ _ _ _ HJ5.out hfd (fun k h => h.elim)
  | true =>
   gi_wp2_with fail
   refine ⟨trivial, ?_⟩
   have hpa : done ++ solsOf s.d s.bs m l pre ++ solN s.d s.bs m (l ++ [v]) <+: all := by
    have h1 := solsOf_pre s.d s.bs m l hpre
    rw [solsOf_app, Hfb.out, if_pos rfl] at h1
    have h2 : solsOf s.d s.bs m l (vals (s.d.getD l.length 0)) = solN s.d s.bs (m + 1) l := rfl
    rw [h2] at h1
    obtain ⟨r, hr⟩ := h1
    refine List.IsPrefix.trans ⟨r, ?_⟩ hall
    rw [List.append_assoc, List.append_assoc, ← hr]
    simp
   have hcall := ih (l ++ [v]) _ (done ++ solsOf s.d s.bs m l pre) C' (W5.drewN n5) (by simp; omega) (hS.st _ _ _ _ _ HJ5.out hfd (fun k h => h.elim)) (HA5.out.nw hfd) (HI5.out.at_.fr hfd (fun h => h) (fun _ _ h => h) (fun _ _ _ _ h => h)) HI5.out.ok hpa Hin5.out
   refine (CallsIn.inRound lp (callsIn_wide.2 hcall)).mono ?_
   clear hcall
   rintro e W6 ⟨C6, lv6, l6, hg6, hp6, hG6, hP6, hl6, hf6, hcase⟩
   have hGW := HG.out.blk.lt
   have hs5 : W.heap.size + 3 ≤ W5.heap.size := by have := HI5.out.box.b2.lt; omega
   have hI6 : GoI G X s L N0 rdy l C (.slice lo l.length lc) W W6 C6 lv6 l6 := by
    refine ⟨fun k hk => ?_, (List.prefix_append _ _).trans hp6, hG6, hP6, fun k hk => ?_, (HI5.out.fr.drewN n5).trans hf6 ?_, (HI5.out.box.fr hfd (fun k h => h.elim)).fr hf6 ?_⟩
    ·rcases hg6 k hk with h | h
     ·exact HI5.out.grow k h
     ·exact .inr (Nat.le_trans hs5 h)
    ·rcases hl6 k hk with h | h
     ·exact HI5.out.lgrow k h
     ·exact .inr (Nat.le_trans hs5 h)
    ·rintro k (h | h | h | h)
     ·rcases HI5.out.grow k h with h | h
      ·exact .inl (.inl h)
      ·exact .inr (by omega)
     ·exact .inl (.inr (.inl h))
     ·exact .inl (.inr (.inr (.inl h)))
     ·rcases HI5.out.lgrow k h with h | h
      ·exact .inl (.inr (.inr (.inr h)))
      ·exact .inr (by omega)
    ·rintro k (h | h | h | h)
     ·rcases HI5.out.grow k h with h | h
      ·have := hCl k h; omega
      ·omega
     ·omega
     ·omega
     ·rcases HI5.out.lgrow k h with h | h
      ·have := HG.out.list.lt h; omega
      ·omega
   have hk6 : KeepsLo W2.heap.size Wr W6 := Hk5.out.trans (KeepsLo.trans (hfd.keepsLo (fun k h => h.elim)) (hf6.keepsLo (fun k h => by
    rcases h with h | h | h | h
    ·obtain ⟨cur, e, hb, _⟩ := hS.cells _ _ _ _ HJ5.out h
     exact .inr ⟨cur, e, hb⟩
    ·exact .inl (by omega)
    ·subst h; exact .inr ⟨_, _, HI5.out.at_.blk⟩
    ·obtain ⟨cur, hb, _⟩ := HI5.out.at_.list.blk h
     exact .inr ⟨_, _, hb⟩)))
   have HI6 := hd hI6
   have Hk6 := hd hk6
   clear hI6 hk6 hg6 hl6 hf6 hG6 hP6 hp6
   have hb1 : W6.cell? ⟨W.heap.size + 1, 0, none⟩ = some (.bool false) := HI6.out.box.b1.cell 0
   have hb1f := HI6.out.box.b1.free 0
   rcases hcase with ⟨rfl, hJ6⟩ | ⟨rfl, p, x, hpx, hJ6⟩
   ·have HJ6 := hd hJ6
    clear hJ6
    gi_wp2_with fail
    refine ⟨Hk6.out, C6, lv6, l6, HI6.out, ?_⟩
    rw [solsOf_app, Hfb.out, if_pos rfl, ← List.append_assoc]
    exact HJ6.out
   ·have HJ6 := hd hJ6
    clear hJ6
    gi_wp2_with fail
    have hf7 : Fr (fun k => k = W.heap.size + 1) W6 (W6.setCell ⟨W.heap.size + 1, 0, none⟩ (.bool false)) := (Fr.refl _ W6).setCell _ _ (.inl rfl)
    obtain ⟨h71, h72, h73⟩ := HI6.out.step (by omega) hGW (fun k hk => HG.out.list.lt hk) hCl (fun k hk => hS.cellsx _ _ _ _ HJ6.out hk) hf7 (fun k h => .inl h)
    refine ⟨Hk6.out.trans (hf7.keepsLo (fun k h => by subst h; exact .inr ⟨_, _, HI6.out.box.b1⟩)), C6, lv6, l6, ⟨HI6.out.grow, HI6.out.pre, h71, HI6.out.ok, HI6.out.lgrow, h72, ?_⟩, solsOf s.d s.bs m l pre ++ p, x, ?_, ?_⟩
    ·exact ⟨HI6.out.box.b0.fr hf7 (by omega), HI6.out.box.b1.set 0 _, HI6.out.box.b2.fr hf7 (by omega)⟩
    ·have h1 := solsOf_pre s.d s.bs m l hpre
     rw [solsOf_app, Hfb.out, if_pos rfl] at h1
     refine List.IsPrefix.trans ?_ h1
     rw [List.append_assoc]
     exact (List.prefix_append_right_inj _).2 hpx
    ·have h1 := hS.stx _ _ _ _ _ HJ6.out hf7 h73
     simpa [List.append_assoc] using h1
 case done =>
  rintro D Wd hD ⟨C', lv', l', hI, hJd⟩ hK
  have hGW := HG.out.blk.lt
  have hb1 : Wd.cell? ⟨W.heap.size + 1, 0, none⟩ = some (.bool false) := hI.box.b1.cell 0
  have hb1f := hI.box.b1.free 0
  have HI := hd hI
  have HJd := hd hJd
  clear hI hJd
  gi_wp2_with fail
  have hbd : Blk (Wd.setCell ⟨W.heap.size + 1, 0, none⟩ (.bool true)) (W.heap.size + 1) #[.bool true] 4 := HI.out.box.b1.set 0 _
  have hf7 : Fr (fun k => k = W.heap.size + 1) Wd (Wd.setCell ⟨W.heap.size + 1, 0, none⟩ (.bool true)) := (Fr.refl _ Wd).setCell _ _ (.inl rfl)
  have hDl := lt_of_block hK
  have hK7 : (Wd.setCell ⟨W.heap.size + 1, 0, none⟩ (.bool true)).heap[D]? = some (.deferred (some [])) := (hf7.block D hDl (by omega)).trans hK
  obtain ⟨W7, hW7⟩ : ∃ W7, Wd.setCell ⟨W.heap.size + 1, 0, none⟩ (.bool true) = W7 := ⟨_, rfl⟩
  rw [hW7] at hbd hf7 hK7 ⊢
  have hf8 : Fr (fun k => k = W.heap.size + 1 ∨ k = D) Wd (W7.putObj D (.deferred none)) := (hf7.mono (fun i h => .inl (.inl h))).trans (S' := fun k => k = D) ((Fr.refl (fun k => k = D) W7).grown (grownBy_putObj' W7 D _) (fun k hk => by cases hk; exact .inl rfl)) (fun i h => .inl (.inr h))
  have hb8 : Blk (W7.putObj D (.deferred none)) (W.heap.size + 1) #[.bool true] 4 := hbd.bk (Bk.put (lo := 0) (.deferred none) (Nat.zero_le _) hK7 rfl)
  obtain ⟨h71, h72, h73⟩ := HI.out.step (by omega) hGW (fun k hk => HG.out.list.lt hk) hCl (fun k hk => hS.cells _ _ _ _ HJd.out hk) hf8 (fun k h => by
   rcases h with h | h
   ·exact .inl h
   ·subst h
    refine .inr ⟨by omega, fun cur e hb => ?_⟩
    have hb' : Wd.heap[k]? = some (.cells cur e (0, 0)) := hb
    rw [hK] at hb'
    cases hb')
  refine ⟨by simp, .inl ⟨_, _, rfl, run_takeDeferred hK7, ?_⟩⟩
  refine ⟨_, results_cell1 (v := .bool true) rfl rfl (by kernel_rfl) (hb8.cell 0), ?_⟩
  exact ⟨C', lv', l', fun k hk => (HI.out.grow k hk).imp id (fun h => by omega), HI.out.pre, h71, HI.out.ok, fun k hk => (HI.out.lgrow k hk).imp id (fun h => by omega), h72, .inl ⟨rfl, hS.st _ _ _ _ _ HJd.out hf8 h73⟩⟩
 case stop =>
  rintro D pre v Wd hD hpre ⟨C', lv', l', hI, p, x, hpx, hJd⟩ hK
  have hGW := HG.out.blk.lt
  have HI := hd hI
  have HJd := hd hJd
  clear hI hJd
  gi_wp2_with fail
  have hDl := lt_of_block hK
  have hf8 : Fr (fun k => k = D) Wd (Wd.putObj D (.deferred none)) := (Fr.refl (fun k => k = D) Wd).grown (grownBy_putObj' Wd D _) (fun k hk => by cases hk; exact .inl rfl)
  have hb8 : Blk (Wd.putObj D (.deferred none)) (W.heap.size + 1) #[.bool false] 4 := HI.out.box.b1.bk (Bk.put (lo := 0) (.deferred none) (Nat.zero_le _) hK rfl)
  obtain ⟨h71, h72, h73⟩ := HI.out.step (by omega) hGW (fun k hk => HG.out.list.lt hk) hCl (fun k hk => hS.cellsx _ _ _ _ HJd.out hk) hf8 (fun k h => by
   subst h
   refine .inr ⟨by omega, fun cur e hb => ?_⟩
   have hb' : Wd.heap[k]? = some (.cells cur e (0, 0)) := hb
   rw [hK] at hb'
   cases hb')
  refine ⟨by simp, .inl ⟨_, _, rfl, run_takeDeferred hK, ?_⟩⟩
  refine ⟨_, results_cell1 (v := .bool false) rfl rfl (by kernel_rfl) (hb8.cell 0), ?_⟩
  exact ⟨C', lv', l', fun k hk => (HI.out.grow k hk).imp id (fun h => by omega), HI.out.pre, h71, HI.out.ok, fun k hk => (HI.out.lgrow k hk).imp id (fun h => by omega), h72, .inr ⟨rfl, p, x, hpx, hS.stx _ _ _ _ _ HJd.out hf8 h73⟩⟩
theorem goOn_any (G X : Nat) (zs : List Int) (s : WS) (L N0 : Nat) (all : List (List Nat)) (J Jx : List (List Nat) → (Nat → Prop) → World → Prop) (hS : Sink X zs s L N0 all J Jx) (rdy : List Value) : ∀ m, GoOk G X zs s L N0 all J Jx rdy m
 | 0 => goOn_zero G X zs s L N0 all J Jx hS rdy
 | m + 1 => goOn_succ G X zs s L N0 all J Jx hS rdy m (goOn_any G X zs s L N0 all J Jx hS rdy m)
end Go.Proofs.YtkjfpdfkcfgfkaaGreat
