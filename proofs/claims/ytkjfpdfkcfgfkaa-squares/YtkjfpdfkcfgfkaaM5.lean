/- Parts of the proof, number 5: contracts of the functions that the statement calls. -/
import Derived.Test.YtkjfpdfkcfgfkaaM4
import Derived.Test.YtkjfpdfkcfgfkaaM1
import Derived.Deep.RegionHeld3
import Derived.Defers

/- Solutions: what fits. -/
namespace Go.Proofs.Ytkjfpdfkcfgfkaa
open Go.RowKit

/-- The values of a table's variables in a list. -/
def picks (vars : List Int) (l : List Nat) : List Nat := vars.map (fun v => l.getD v.toNat 0)
theorem picks_get (vars : List Int) (l : List Nat) (i : Nat) (h : i < vars.length) : (picks vars l).getD i 0 = l.getD (vars.getD i 0).toNat 0 := by
  simp [picks, List.getD, h]
/-- Do the tables whose last variable is the last one of l allow it? -/
def fitsB (bs : List Tb) (l : List Nat) : Bool := bs.all (fun b => decide (lastOf b.vars ≠ (l.length : Int) - 1) || allowB b.rows b.nt (picks b.vars l))
/-- The solutions that go on from l, in order; m variables are to go. -/
def solN (d : List Nat) (bs : List Tb) : Nat → List Nat → List (List Nat)
  | 0, l => [l]
  | m + 1, l => (vals (d.getD l.length 0)).flatMap (fun v => if fitsB bs (l ++ [v]) then solN d bs m (l ++ [v]) else [])
/-- The tables whose last variable is this one. -/
def readyOf (ts : List Tab) (i : Nat) : List Tab := ts.filter (fun x => decide (lastOf x.vars = (i : Int)))
def goCells (X : Nat) (rdy : List Value) (lv yv : Value) : Array Value := (.pointer (some ⟨X, 0, none⟩) :: (rdy ++ [lv, yv])).toArray
theorem goCells_rdy (X : Nat) (rdy : List Value) (lv yv : Value) (i : Nat) (h : i < rdy.length) : (goCells X rdy lv yv)[1 + i]? = some (rdy.getD i undef) := by
  rw [Nat.add_comm]
  simp [goCells, List.getElem?_append_left, h, List.getD]
theorem goCells_list (X : Nat) (rdy : List Value) (lv yv : Value) (h : rdy.length = 8) : (goCells X rdy lv yv)[9]? = some lv := by
  simp [goCells, h]
theorem goCells_yield (X : Nat) (rdy : List Value) (lv yv : Value) (h : rdy.length = 8) : (goCells X rdy lv yv)[10]? = some yv := by
  simp [goCells, h]
theorem goCells_setList (X : Nat) (rdy : List Value) (lv yv v : Value) (h : rdy.length = 8) : (goCells X rdy lv yv).setIfInBounds 9 v = goCells X rdy v yv := by
  match rdy, h with
  | [a0, a1, a2, a3, a4, a5, a6, a7], _ => rfl
theorem ints_eq (l : List Nat) : ints l = (l.map (fun (x : Nat) => (x : Int))).map (Value.int .i64) := by simp [ints]
theorem natI_get (l : List Nat) (k : Nat) : (l.map (fun (x : Nat) => (x : Int))).getD k 0 = ((l.getD k 0 : Nat) : Int) := by
  simp only [List.getD, List.getElem?_map]
  cases l[k]? <;> rfl
/-- A going through solutions, in memory: list is what was chosen. -/
structure GoAt (W : World) (G X : Nat) (ts : List Tab) (rdy : List Value) (lv yv : Value) (l : List Nat) : Prop where
  blk : Blk W G (goCells X rdy lv yv) 110
  len : rdy.length = 8
  rdy : ∀ i, i < 8 → Row W (rdy.getD i undef) 93 ((readyOf ts i).map Tab.val)
  list : Row W lv 3 (ints l)
noncomputable def fitsReg : Array Oper := regOps Try.f70 4
theorem outOf_picks {b : Tb} {d : List Nat} {l : List Nat} (hv : ∀ i, i < b.vars.length → 0 ≤ b.vars.getD i 0) (hl : lastOf b.vars = (l.length : Int) - 1) (hin : ∀ q, q < l.length → (d.getD q 0).testBit (l.getD q 0) = true) : OutOf b.vars d (picks b.vars l) := by
  refine ⟨by simp [picks], fun i hi => ?_⟩
  rw [picks_get _ _ _ hi]
  have h1 := maxTo_ge b.vars b.vars.length i hi
  have h2 := hv i hi
  unfold lastOf at hl
  exact hin _ (by omega)

set_option maxHeartbeats 3200000 in
set_option maxRecDepth 1000000 in
theorem fits_any (G X : Nat) (zs : List Int) (s : WS) (rdy : List Value) (lv yv : Value) (l : List Nat) (W : World) (hA : WAt W X zs s) (hG : GoAt W G X s.ts rdy lv yv l) (hl1 : 1 ≤ l.length) (hl8 : l.length ≤ 8) (hin : ∀ q, q < l.length → (s.d.getD q 0).testBit (l.getD q 0) = true) :
    Calls Try.prog 70 #[.pointer (some ⟨G, 0, none⟩)] W fun e w' => e = .returned (.bool (fitsB s.bs l)) ∧ ∃ m, w' = W.drewN m := by
  obtain ⟨lo, lc, hlf, _⟩ := hG.list.form
  have hll : (ints l).length = l.length := by simp [ints]
  rw [hll] at hlf
  subst hlf
  obtain ⟨v, hv⟩ : ∃ v : Nat, l.length = v + 1 := ⟨l.length - 1, by omega⟩
  obtain ⟨rv, hrv⟩ : ∃ rv, rdy.getD v undef = rv := ⟨_, rfl⟩
  have hrow := hG.rdy v (by omega)
  rw [hrv] at hrow
  obtain ⟨ro, rc, hrf, _⟩ := hrow.form
  rw [List.length_map] at hrf
  subst hrf
  have c9 : W.cell? ⟨G, 9, none⟩ = some (.slice lo (v + 1) lc) := by
    rw [← hv]
    exact (hG.blk.cell 9).trans (goCells_list _ _ _ _ hG.len)
  have cr : W.cell? ⟨G, 1 + v, none⟩ = some (.slice ro (readyOf s.ts v).length rc) := by
    rw [← hrv]
    exact (hG.blk.cell _).trans (goCells_rdy _ _ _ _ _ (by rw [hG.len]; omega))
  have hGl := hG.blk.lt
  have hv8 : (v : Int) < 8 := by omega
  have HA := hd hA
  have HG := hd hG
  have Hrow := hd hrow
  have Hv := hd hv
  have Hin := hd hin
  clear hA hG hrow hv hin hll hrv
  have hmf : ∀ (fn : Fn) (first cap : Array Value) (w : World), (Instr.makeFunc fn first cap).run Try.prog w = .ok (.func fn first cap) w := fun _ _ _ _ => rfl
  go_enter Try.func70, Try.ntmps70
  go_wp2_with fail
  go_quiet (fail)
  go_wp2_with fail
  have hready : ∀ j, j < (readyOf s.ts v).length → ∃ q, q < s.ts.length ∧ s.ts.getD q tab0 = (readyOf s.ts v).getD j tab0 ∧ lastOf (s.ts.getD q tab0).vars = (v : Int) := fun j hj => by
    have hm : (readyOf s.ts v).getD j tab0 ∈ readyOf s.ts v := by
      simp only [List.getD, List.getElem?_eq_getElem hj, Option.getD_some]
      exact List.getElem_mem hj
    obtain ⟨h1, h2⟩ := List.mem_filter.1 hm
    obtain ⟨q, hq, he⟩ := List.getElem_of_mem h1
    have e2 : s.ts.getD q tab0 = (readyOf s.ts v).getD j tab0 := by rw [← he]; simp [List.getD, hq]
    exact ⟨q, hq, e2, by rw [e2]; simpa using h2⟩
  have Hready := hd hready
  clear hready
  go_loopw [4, 17] (fun _ i wr => ∃ (k m : Nat), k ≤ (readyOf s.ts v).length ∧ i = .int .i64 (k : Int) ∧ wr = W.drewN m ∧ Hid (∀ j, j < k → ∀ q, q < s.ts.length → s.ts.getD q tab0 = (readyOf s.ts v).getD j tab0 → Allow (s.bs.getD q tb0).rows (s.bs.getD q tb0).nt (picks (s.bs.getD q tb0).vars l))) (fun _ i _ => (readyOf s.ts v).length - (intOf i).toNat)
  case atStart => exact ⟨0, nq, by omega, rfl, rfl, fun j hj => absurd hj (Nat.not_lt_zero _)⟩
  case round =>
    obtain ⟨k, m, hk, rfl, rfl, HP⟩ := hrel
    have h12 : (readyOf s.ts v).length ≤ 12 := Nat.le_trans (List.length_filter_le _ _) HA.out.mem.t12
    have HFm : Hid (Nw W (W.drewN m)) := (Fr.refl _ W).drewN m
    by_cases hlt : k < (readyOf s.ts v).length
    · have hdk : (k : Int) < ((readyOf s.ts v).length : Int) := by omega
      obtain ⟨q, hq, hqe, hql⟩ := Hready.out k hlt
      obtain ⟨rg, rcap, hre, hrgo, hrc, _⟩ := (Hrow.out.nw HFm.out).cell k (by simpa using hlt)
      simp only [List.length_map, Value.slice.injEq] at hre
      obtain ⟨rfl, _, rfl⟩ := hre
      have hrgl := (Hrow.out.nw HFm.out).lt hrgo
      simp only [List.getElem_map] at hrc
      have hxk : (readyOf s.ts v)[k] = s.ts.getD q tab0 := by rw [hqe]; simp [List.getD, hlt]
      rw [hxk] at hrc
      have hqb : q < s.bs.length := by rw [← HA.out.mem.fits.1]; exact hq
      have hTb := HA.out.mem.tbok q hqb
      have hT := HA.out.mem.tabs.at_ q hq
      have hRep := HA.out.good.rep q hqb
      rw [mapT_getD] at hRep
      have hvars := HA.out.mem.fits.2 q hqb
      rw [hvars] at hT hql
      obtain ⟨b, hb⟩ : ∃ b, s.bs.getD q tb0 = b := ⟨_, rfl⟩
      obtain ⟨⟨xG, xg, xcap, xvars, xt⟩, hx⟩ : ∃ x, s.ts.getD q tab0 = x := ⟨_, rfl⟩
      rw [hb] at hTb hT hRep hql
      rw [hx] at hT hRep hrc
      dsimp only [Tab.val] at hT hRep hrc
      have hO : OutOf b.vars s.d (picks b.vars l) := outOf_picks (fun i hi => (hTb.1.vars.ok i hi).1) (by rw [hql, Hv.out]; omega) Hin.out
      have hL : ListAt W lo (l.map (fun (x : Nat) => (x : Int))) b.vars (picks b.vars l) := by
        refine ⟨?_, by simp [picks], fun i hi => ?_⟩
        · have h9 := HG.out.list
          rw [ints_eq, ← List.length_map (f := fun (x : Nat) => (x : Int))] at h9
          exact h9.ints'
        · have g1 := maxTo_ge b.vars b.vars.length i hi
          have g2 := (hTb.1.vars.ok i hi).1
          have g3 : (b.vars.getD i 0).toNat < l.length := by
            have := Hv.out
            unfold lastOf at hql
            omega
          refine ⟨by rw [List.length_map]; exact g3, g2, ?_, ?_⟩
          · rw [picks_get _ _ _ hi]
            exact natI_get _ _
          · rw [picks_get _ _ _ hi]
            exact bit_lt6 (HA.out.good.dm.lt _) (Hin.out _ g3)
      have hcall := fun m' => allowsT_any xG xg xcap b xt lo lc (l.map (fun (x : Nat) => (x : Int))) (picks b.vars l) s.d (W.drewN m') hTb.1 HA.out.good.dm (by
        have := hT
        cases xt with
        | rs nt br live => exact this
        | dg nv os root => exact ⟨⟨this.1.blk, this.1.rv, this.1.row, this.1.ok, this.1.two⟩, this.2⟩) hRep (hL.nw ((Fr.refl _ W).drewN m')) hO
      have e9 : (l.map (fun (x : Nat) => (x : Int))).length = v + 1 := by rw [List.length_map]; exact Hv.out
      rw [e9] at hcall
      have Hcall : Hid (∀ m', Calls Try.prog xt.fnAllows #[.pointer (some ⟨xG, 0, none⟩), .slice lo (v + 1) lc] (W.drewN m') fun e w' => e = .returned (.bool (allowB b.rows b.nt (picks b.vars l))) ∧ ∃ m, w' = (W.drewN m').drewN m) := hcall
      have Hx := hd hx
      have Hb := hd hb
      have Hqe := hd hqe
      have Hql := hd hql
      clear hcall hL hO hRep hT hTb hvars hqe hxk hx hb hql hrgo
      cases xt with
      | rs nt br live =>
        have hm := fun W' => meth_allows xG W'
        have hna : ∀ W', (nilAhead 286 115 (.pointer (some ⟨xG, 0, none⟩)) "Allows").run Try.prog W' = .ok (some false) W' := fun W' => by kernel_rfl
        have Hq : Hid (∀ n', Calls Try.prog 112 #[.pointer (some ⟨xG, 0, none⟩), .slice lo (v + 1) lc] ((W.drewN m).drewN n') fun e w' => e = .returned (.bool (allowB b.rows b.nt (picks b.vars l))) ∧ ∃ k, w' = ((W.drewN m).drewN n').drewN k) := fun n' => by
          rw [World.drewN_drewN]
          exact Hcall.out (m + n')
        obtain ⟨ab, hab⟩ : ∃ ab, allowB b.rows b.nt (picks b.vars l) = ab := ⟨_, rfl⟩
        rw [hab] at Hq
        have Hab := hd hab
        clear hab
        go_wp2_with fail
        have hK0 : ∃ n', (W.drewN m).drew = (W.drewN m).drewN n' := ⟨1, rfl⟩
        refine region_H fitsReg 10 (fun w'' => ∃ n', w'' = (W.drewN m).drewN n') (by kernel_rfl) (by kernel_rfl) (by kernel_rfl) ?_
        refine take_at (i := 0) (d := some 21) (v := .iface 115 (.pointer (some ⟨xG, 0, none⟩))) (by kernel_rfl) (by kernel_rfl) (fun _ _ _ h => h) (fun w'' hS => by kernel_rfl) hK0 ?_
        refine take_at (i := 1) (d := some 22) (v := .pointer (some ⟨G, 0, none⟩)) (by kernel_rfl) (by kernel_rfl) (fun _ _ _ h => h) (fun w'' hS => by kernel_rfl) hK0 ?_
        refine take_at (i := 2) (d := some 23) (v := .pointer (some ⟨G, 0, none⟩)) (by kernel_rfl) (by kernel_rfl) (fun _ _ _ h => h) (fun w'' hS => by kernel_rfl) hK0 ?_
        refine take_at (i := 3) (d := some 24) (v := .pointer (some ⟨G, 9, none⟩)) (by kernel_rfl) (by kernel_rfl) (fun _ _ _ h => h) (fun w'' hS => by kernel_rfl) hK0 ?_
        refine take_at (i := 4) (d := some 25) (v := .slice lo (v + 1) lc) (by kernel_rfl) (by kernel_rfl) (fun _ _ _ h => h) (fun w'' hS => exec_load 22 (.tmp 24) (by kernel_rfl) (by kernel_rfl) (by kernel_rfl) (by obtain ⟨n', rfl⟩ := hS; exact c9)) hK0 ?_
        refine take_at (i := 5) (d := some 26) (v := .func (.method "Allows") #[.iface 115 (.pointer (some ⟨xG, 0, none⟩))] #[]) (by kernel_rfl) (by kernel_rfl) (fun _ _ _ h => h) (fun w'' hS => by kernel_rfl) hK0 ?_
        refine take_at (i := 6) (d := some 27) (v := .func (.method "Allows") #[.iface 115 (.pointer (some ⟨xG, 0, none⟩))] #[]) (by kernel_rfl) (by kernel_rfl) (fun _ _ _ h => h) (fun w'' hS => by kernel_rfl) hK0 ?_
        refine take_at (i := 7) (d := some 28) (v := .iface 115 (.pointer (some ⟨xG, 0, none⟩))) (by kernel_rfl) (by kernel_rfl) (fun _ _ _ h => h) (fun w'' hS => by kernel_rfl) hK0 ?_
        refine enter_at (i := 8) (d := some 29) (f := 112) (args := #[.pointer (some ⟨xG, 0, none⟩), .slice lo (v + 1) lc]) (w' := (W.drewN m).drew) (by kernel_rfl) (by kernel_rfl) (by kernel_rfl) ?_
        refine (Hq.out 1).mono ?_
        rintro e w2 ⟨rfl, n2, rfl⟩
        have hK2 : ∃ n', ((W.drewN m).drewN 1).drewN n2 = (W.drewN m).drewN n' := ⟨1 + n2, by simp only [World.drewN_drewN, Nat.add_assoc]⟩
        refine ⟨_, rfl, hK2, ?_⟩
        refine value_at (i := 9) (d := some 30) (v := .bool (!ab)) (w' := ((W.drewN m).drewN 1).drewN n2) (by kernel_rfl) (by kernel_rfl) (by kernel_rfl) hK2 ?_
        refine wpAnyH_done (by kernel_rfl) ?_ _
        simp only [Act.put, List.setIfInBounds_toArray, List.set_cons_zero, List.set_cons_succ]
        cases ab with
        | true =>
          go_wp2_with fail
          refine ⟨⟨k + 1, m + 1 + n2, by omega, by simp, rfl, fun j hj q' hq' he => ?_⟩, by simp [intOf]; omega⟩
          rcases Nat.lt_succ_iff_lt_or_eq.1 hj with h | h
          · exact HP.out j h q' hq' he
          · subst h
            obtain rfl : q' = q := HA.out.mem.inj q' q hq' hq (by rw [he, ← Hqe.out])
            rw [Hb.out]
            exact (allowB_iff _ _ _).1 Hab.out
        | false =>
          go_wp2_with fail
          go_ret
          refine ⟨?_, m + 1 + n2, by simp only [World.drewN_drewN]⟩
          have hfb : fitsB s.bs l = false := by
            rw [← Bool.not_eq_true]
            intro hall
            have h1 := List.all_eq_true.1 hall b (by
              rw [← Hb.out]
              simp only [List.getD, List.getElem?_eq_getElem hqb, Option.getD_some]
              exact List.getElem_mem hqb)
            rw [Hab.out, Bool.or_false, decide_eq_true_eq] at h1
            exact h1 (by rw [Hql.out, Hv.out]; omega)
          rw [hfb]
          rfl
      | dg nv os root =>
        have hm := fun W' => meth_dallows xG W'
        have hna : ∀ W', (nilAhead 286 113 (.pointer (some ⟨xG, 0, none⟩)) "Allows").run Try.prog W' = .ok (some false) W' := fun W' => by kernel_rfl
        have Hq : Hid (∀ n', Calls Try.prog 104 #[.pointer (some ⟨xG, 0, none⟩), .slice lo (v + 1) lc] ((W.drewN m).drewN n') fun e w' => e = .returned (.bool (allowB b.rows b.nt (picks b.vars l))) ∧ ∃ k, w' = ((W.drewN m).drewN n').drewN k) := fun n' => by
          rw [World.drewN_drewN]
          exact Hcall.out (m + n')
        obtain ⟨ab, hab⟩ : ∃ ab, allowB b.rows b.nt (picks b.vars l) = ab := ⟨_, rfl⟩
        rw [hab] at Hq
        have Hab := hd hab
        clear hab
        go_wp2_with fail
        have hK0 : ∃ n', (W.drewN m).drew = (W.drewN m).drewN n' := ⟨1, rfl⟩
        refine region_H fitsReg 10 (fun w'' => ∃ n', w'' = (W.drewN m).drewN n') (by kernel_rfl) (by kernel_rfl) (by kernel_rfl) ?_
        refine take_at (i := 0) (d := some 21) (v := .iface 113 (.pointer (some ⟨xG, 0, none⟩))) (by kernel_rfl) (by kernel_rfl) (fun _ _ _ h => h) (fun w'' hS => by kernel_rfl) hK0 ?_
        refine take_at (i := 1) (d := some 22) (v := .pointer (some ⟨G, 0, none⟩)) (by kernel_rfl) (by kernel_rfl) (fun _ _ _ h => h) (fun w'' hS => by kernel_rfl) hK0 ?_
        refine take_at (i := 2) (d := some 23) (v := .pointer (some ⟨G, 0, none⟩)) (by kernel_rfl) (by kernel_rfl) (fun _ _ _ h => h) (fun w'' hS => by kernel_rfl) hK0 ?_
        refine take_at (i := 3) (d := some 24) (v := .pointer (some ⟨G, 9, none⟩)) (by kernel_rfl) (by kernel_rfl) (fun _ _ _ h => h) (fun w'' hS => by kernel_rfl) hK0 ?_
        refine take_at (i := 4) (d := some 25) (v := .slice lo (v + 1) lc) (by kernel_rfl) (by kernel_rfl) (fun _ _ _ h => h) (fun w'' hS => exec_load 22 (.tmp 24) (by kernel_rfl) (by kernel_rfl) (by kernel_rfl) (by obtain ⟨n', rfl⟩ := hS; exact c9)) hK0 ?_
        refine take_at (i := 5) (d := some 26) (v := .func (.method "Allows") #[.iface 113 (.pointer (some ⟨xG, 0, none⟩))] #[]) (by kernel_rfl) (by kernel_rfl) (fun _ _ _ h => h) (fun w'' hS => by kernel_rfl) hK0 ?_
        refine take_at (i := 6) (d := some 27) (v := .func (.method "Allows") #[.iface 113 (.pointer (some ⟨xG, 0, none⟩))] #[]) (by kernel_rfl) (by kernel_rfl) (fun _ _ _ h => h) (fun w'' hS => by kernel_rfl) hK0 ?_
        refine take_at (i := 7) (d := some 28) (v := .iface 113 (.pointer (some ⟨xG, 0, none⟩))) (by kernel_rfl) (by kernel_rfl) (fun _ _ _ h => h) (fun w'' hS => by kernel_rfl) hK0 ?_
        refine enter_at (i := 8) (d := some 29) (f := 104) (args := #[.pointer (some ⟨xG, 0, none⟩), .slice lo (v + 1) lc]) (w' := (W.drewN m).drew) (by kernel_rfl) (by kernel_rfl) (by kernel_rfl) ?_
        refine (Hq.out 1).mono ?_
        rintro e w2 ⟨rfl, n2, rfl⟩
        have hK2 : ∃ n', ((W.drewN m).drewN 1).drewN n2 = (W.drewN m).drewN n' := ⟨1 + n2, by simp only [World.drewN_drewN, Nat.add_assoc]⟩
        refine ⟨_, rfl, hK2, ?_⟩
        refine value_at (i := 9) (d := some 30) (v := .bool (!ab)) (w' := ((W.drewN m).drewN 1).drewN n2) (by kernel_rfl) (by kernel_rfl) (by kernel_rfl) hK2 ?_
        refine wpAnyH_done (by kernel_rfl) ?_ _
        simp only [Act.put, List.setIfInBounds_toArray, List.set_cons_zero, List.set_cons_succ]
        cases ab with
        | true =>
          go_wp2_with fail
          refine ⟨⟨k + 1, m + 1 + n2, by omega, by simp, rfl, fun j hj q' hq' he => ?_⟩, by simp [intOf]; omega⟩
          rcases Nat.lt_succ_iff_lt_or_eq.1 hj with h | h
          · exact HP.out j h q' hq' he
          · subst h
            obtain rfl : q' = q := HA.out.mem.inj q' q hq' hq (by rw [he, ← Hqe.out])
            rw [Hb.out]
            exact (allowB_iff _ _ _).1 Hab.out
        | false =>
          go_wp2_with fail
          go_ret
          refine ⟨?_, m + 1 + n2, by simp only [World.drewN_drewN]⟩
          have hfb : fitsB s.bs l = false := by
            rw [← Bool.not_eq_true]
            intro hall
            have h1 := List.all_eq_true.1 hall b (by
              rw [← Hb.out]
              simp only [List.getD, List.getElem?_eq_getElem hqb, Option.getD_some]
              exact List.getElem_mem hqb)
            rw [Hab.out, Bool.or_false, decide_eq_true_eq] at h1
            exact h1 (by rw [Hql.out, Hv.out]; omega)
          rw [hfb]
          rfl
    · obtain ⟨R, hR⟩ : ∃ R, (readyOf s.ts v).length = R := ⟨_, rfl⟩
      have hkR : k = (readyOf s.ts v).length := by omega
      have hfb : fitsB s.bs l = true := by
        unfold fitsB
        rw [List.all_eq_true]
        intro b hb
        obtain ⟨q, hq, he⟩ := List.getElem_of_mem hb
        have hgb : s.bs.getD q tb0 = b := by rw [← he]; simp [List.getD, hq]
        by_cases hlast : lastOf b.vars = (l.length : Int) - 1
        · have hqt : q < s.ts.length := by rw [HA.out.mem.fits.1]; exact hq
          have hmem : s.ts.getD q tab0 ∈ readyOf s.ts v := by
            unfold readyOf
            rw [List.mem_filter]
            refine ⟨?_, ?_⟩
            · simp only [List.getD, List.getElem?_eq_getElem hqt, Option.getD_some]
              exact List.getElem_mem hqt
            · rw [HA.out.mem.fits.2 q hq, hgb, decide_eq_true_eq, hlast, Hv.out]
              omega
          obtain ⟨j, hj, hje⟩ := List.getElem_of_mem hmem
          have hall := HP.out j (by omega) q hqt (by rw [← hje]; simp [List.getD, hj])
          rw [hgb] at hall
          rw [(allowB_iff _ _ _).2 hall, Bool.or_true]
        · rw [decide_eq_true hlast, Bool.true_or]
      have Hfb := hd hfb
      rw [hR] at hkR hlt hk ⊢
      subst hkR
      have hdk : ¬ ((k : Int) < (k : Int)) := by omega
      clear hfb hlt hk hR
      go_wp2_with fail
      go_ret
      exact ⟨by rw [Hfb.out]; rfl, m, rfl⟩
end Go.Proofs.Ytkjfpdfkcfgfkaa

/- Solutions depend on the domains and on which tables there are. -/
namespace Go.Proofs.Ytkjfpdfkcfgfkaa
open Go.RowKit

/-- A dead Work has no solutions. -/
theorem solN_dead {d : List Nat} (bs : List Tb) (h : d.getD 0 0 = 0) (m : Nat) : solN d bs (m + 1) [] = [] := by
  show (vals (d.getD ([] : List Nat).length 0)).flatMap _ = []
  rw [show d.getD ([] : List Nat).length 0 = 0 from h, vals_zero]
  rfl
end Go.Proofs.Ytkjfpdfkcfgfkaa

/- 'for value := range s.Each { .. }', where a body may return. -/
namespace Go.Proofs.Ytkjfpdfkcfgfkaa
open Go.RowKit Go.Shelf
attribute [local go_sem] Oper.semAt_some

set_option maxHeartbeats 1600000 in
theorem each_in2 (n s l : Nat) (hs : s < 256) (J Jx : List Nat → World → Prop) (W : World) (h0 : J [] W)
    (hY : ∀ (pre : List Nat) (v : Nat) (W1 : World), J pre W1 → (pre ++ [v]) <+: vals s → YieldAt Fence.wide (n - 1) Try.prog l #[.int .i64 (v : Int)] W1 fun e W' => (e = .returned (.bool true) ∧ J (pre ++ [v]) W') ∨ (e = .returned (.bool false) ∧ Jx (pre ++ [v]) W')) :
    CallsIn Fence.wide n Try.prog 60 #[.int .u8 s, .func (.yield l) #[] #[]] W fun e W' => (∃ v, e = .returned v) ∧ (J (vals s) W' ∨ ∃ pre v, (pre ++ [v]) <+: vals s ∧ Jx (pre ++ [v]) W') := by
  refine callsIn_of_wp Try.func60 rfl trivial ?_ rfl
  simp only [Try.ntmps60, List.size_toArray, List.length_cons, List.length_nil, Nat.reduceAdd, Nat.reduceSub, Array.replicate_succ, Array.replicate_zero, List.push_toArray, List.append_toArray, List.nil_append, List.cons_append]
  gi_wp2
  gi_loopw [4] (fun p wr => ∃ (pre : List Nat) (r : Nat), p = .int .u8 r ∧ r < 256 ∧ Hid (pre ++ vals r = vals s) ∧ J pre wr) (fun p _ => (intOf p).toNat)
  case atStart => exact ⟨[], s, rfl, hs, rfl, h0⟩
  case round =>
    obtain ⟨pre, r, rfl, hr, HP, hJ⟩ := hrel
    by_cases hr0 : r = 0
    · subst hr0
      gi_wp2
      go_end0
      exact ⟨⟨_, rfl⟩, .inl (by have := HP.out; rw [vals_zero, List.append_nil] at this; rw [← this]; exact hJ)⟩
    · obtain ⟨hv1, hv2, hv3⟩ := vals_cons r hr hr0
      have hpos : (0 : Int) < (r : Int) := by omega
      have hr1 : ((r : Int) != 0) = true := by simp; omega
      have hpre : (pre ++ [tz r]) <+: vals s := ⟨vals (r &&& (r - 1)), by rw [← HP.out, hv1]; simp⟩
      obtain ⟨fn, tmps, assign, body, hy, hR⟩ := hY pre (tz r) wr hJ hpre
      have HV := hd hv1
      clear hv1
      gi_wp2_with fail
      refine ⟨trivial, (fun h => by cases h), ?_⟩
      refine (callsIn_wide.2 (tz_any r _ hr)).mono ?_
      rintro e w' ⟨rfl, rfl⟩
      gi_wp2_with fail
      refine ⟨(fun h => by cases h), ?_⟩
      refine hR.mono ?_
      rintro e W3 (⟨rfl, hJ3⟩ | ⟨rfl, hJ3⟩)
      · gi_wp2
        have e1 : bits .and .u8 (r : Int) ((r : Int) - 1) = ((r &&& (r - 1) : Nat) : Int) := by
          have := u8_and_nat r (r - 1) (by omega) (by omega)
          rw [← this, show (((r - 1 : Nat) : Int)) = (r : Int) - 1 from by omega]
        rw [e1]
        refine ⟨⟨pre ++ [tz r], r &&& (r - 1), rfl, by omega, ?_, hJ3⟩, by simp [intOf]; omega⟩
        show _ = _
        rw [← HP.out, HV.out]
        simp
      · gi_wp2
        exact bodyPost_ret (v := .tuple #[]) (results_none rfl _ _ _) rfl ⟨⟨_, rfl⟩, .inr ⟨pre, tz r, hpre, hJ3⟩⟩

/-- The records of ranges over functions, and their marks, are as they were, from block lo on. -/
structure KeepsLo (lo : Nat) (W W' : World) : Prop where
  size : W.heap.size ≤ W'.heap.size
  same : ∀ (k : Nat) (o : Obj), lo ≤ k → W.heap[k]? = some o → loopy o = true → W'.heap[k]? = some o
theorem Fr.keepsLo {S : Nat → Prop} {A B : World} {lo : Nat} (h : Fr S A B) (hs : ∀ k, S k → k < lo ∨ ∃ cur e, Blk A k cur e) : KeepsLo lo A B :=
  ⟨h.size, fun k o hlo ho hc => (h.block k (lt_of_block ho) (fun hk => by
    rcases hs k hk with h1 | ⟨cur, e, hb⟩
    · omega
    · have h' : A.heap[k]? = some (.cells cur e (0, 0)) := hb
      rw [h'] at ho
      cases ho
      cases hc)).trans ho⟩
/-- How the body of a round is left: at its end, or by a return. -/
def eachPost2 (lo : Nat) (I Ix : World → Prop) (W : World) : Exit → Act → World → Prop
  | .normal, _, W' => KeepsLo lo W W' ∧ I W'
  | .ret, _, W' => KeepsLo lo W W' ∧ Ix W'
  | _, _, _ => False

/-- **'for value := range s.Each { body }', where a body may return.** -/
theorem wp_each2 {n s : Nat} (hs : s < 256) {g : Operand} {t d : Tmp} {rid : Nat} {ty : TypeId} {pos : String} {body : Code} {Q : Exit → Act → World → Prop} {a : Act} {w : World}
    (hg : a.eval g = .func (.func 60) #[.int .u8 s] #[]) (ht : t < a.tmps.size) (I Ix : List Nat → World → Prop) (hI : ∀ pre A B, I pre A → Bk w.heap.size A B → I pre B) (hIx : ∀ pre A B, Ix pre A → Bk w.heap.size A B → Ix pre B) (h0 : I [] w)
    (hround : ∀ (l : Nat) (pre : List Nat) (v : Nat) (W : World), (pre ++ [v]) <+: vals s → I pre W →
      body.wpIn (Fence.wide.inRound l) (n - 1 - 1) Try.prog (eachPost2 w.heap.size (I (pre ++ [v])) (Ix (pre ++ [v])) W) { tmps := (a.tmps.setIfInBounds t (.int .i64 (v : Int))).setIfInBounds d (.int .i64 (v : Int)), defers := [] } W)
    (hdone : ∀ (D : Nat) (W : World), w.heap.size ≤ D → I (vals s) W → W.heap[D]? = some (.deferred (some [])) → Q .normal { a with defers := mark D :: a.defers } W)
    (hstop : ∀ (D : Nat) (pre : List Nat) (v : Nat) (W : World), w.heap.size ≤ D → (pre ++ [v]) <+: vals s → Ix (pre ++ [v]) W → W.heap[D]? = some (.deferred (some [])) → Code.ret.wpIn Fence.wide n Try.prog Q { a with defers := mark D :: a.defers } W) :
    (Code.rangeFunc g #[t] (Code.region rid #[{ dst := some d, op := .assign (.tmp t), type := ty, pos := pos, after := #[], guard := none }] false) body).wpIn Fence.wide n Try.prog Q a w := by
  generalize hA : Code.region rid #[{ dst := some d, op := Op.assign (.tmp t), type := ty, pos := pos, after := #[], guard := none }] false = assign
  have hassign : ∀ (l : Nat) (v : Nat) (W : World) (K : Act → World → Prop), K { tmps := (a.tmps.setIfInBounds t (.int .i64 (v : Int))).setIfInBounds d (.int .i64 (v : Int)), defers := [] } W →
      assign.wpIn (Fence.wide.inRound l) (n - 1 - 1) Try.prog (Exit.then K (fun _ _ _ => False)) { tmps := a.tmps.setIfInBounds t (.int .i64 (v : Int)), defers := [] } W := by
    intro l v W K hK
    subst hA
    have hget : (a.tmps.setIfInBounds t (Value.int .i64 (v : Int))).getD t undef = .int .i64 (v : Int) := by
      simp [ht]
    gi_wp2
    exact hK
  refine wpIn_rangeFunc ?_
  intro fn hfn
  obtain ⟨rec, hrec⟩ : ∃ rec : LoopState → Option Code → Loop, rec = fun st pe => { state := st, pending := pe, fn, tmps := a.tmps, params := #[t], assign, body, defers := w.heap.size } := ⟨_, rfl⟩
  obtain ⟨W1, hW1⟩ : ∃ W1, (w.alloc (.deferred (some []))).alloc (.loop (rec .ready none)) = W1 := ⟨_, rfl⟩
  have hL1 : W1.heap[w.heap.size + 1]? = some (.loop (rec .ready none)) := by
    rw [← hW1]
    have := heap_alloc_new (w.alloc (.deferred (some []))) (.loop (rec .ready none))
    simpa using this
  have hK1 : W1.heap[w.heap.size]? = some (.deferred (some [])) := by
    rw [← hW1]; exact (Below.heap_alloc _ _ _ (by simp)).trans (heap_alloc_new w _)
  have hI1 : I [] W1 := by rw [← hW1]; exact hI _ _ _ (hI _ _ _ h0 (Bk.alloc _ _ _)) (Bk.alloc _ _ _)
  refine ⟨w.heap.size + 1, [mark w.heap.size], W1, { target := .fn (.func 60) #[], args := #[.int .u8 s, .func (.yield (w.heap.size + 1)) #[] #[]] }, W1, 60,
    #[.int .u8 s, .func (.yield (w.heap.size + 1)) #[] #[]], W1, ?_, ?_, ?_, ?_, (fun h => by cases h), ?_⟩
  · rw [← hW1, hrec]; exact run_enterLoop_outer _ _ _ _ _
  · simp only [resolve, hg]
    simp [go_sem]
  · intro f' _; trivial
  · simp [invoke, go_sem]
  · refine (each_in2 (n - 1) s (w.heap.size + 1) hs
      (fun pre W => I pre W ∧ W.heap[w.heap.size + 1]? = some (.loop (rec .ready none)) ∧ W.heap[w.heap.size]? = some (.deferred (some [])))
      (fun pre W => Ix pre W ∧ W.heap[w.heap.size + 1]? = some (.loop (rec .done (some .ret))) ∧ W.heap[w.heap.size]? = some (.deferred (some []))) W1 ⟨hI1, hL1, hK1⟩ ?_).mono ?_
    · rintro pre v W ⟨hi, hl, hk⟩ hpre
      have hlt : w.heap.size + 1 < W.heap.size := (Array.getElem?_eq_some_iff.1 hl).1
      have hy := run_yield (P := Try.prog) (args := #[.int .i64 (v : Int)]) hl (by rw [hrec]; rfl)
      rw [hrec] at hy
      dsimp only at hy
      have hfold : ((#[t] : Array Tmp).zip #[Value.int .i64 (v : Int)]).foldl (fun tmps (x : Tmp × Value) => match x with | (t, a) => tmps.setIfInBounds t a) a.tmps = a.tmps.setIfInBounds t (.int .i64 (v : Int)) := by simp
      rw [hfold] at hy
      have hl2 : (W.putObj (w.heap.size + 1) (.loop { rec .ready none with state := .busy })).heap[w.heap.size + 1]? = some (.loop { rec .ready none with state := .busy }) := World.putObj_heap_same hlt
      have hk2 : (W.putObj (w.heap.size + 1) (.loop { rec .ready none with state := .busy })).heap[w.heap.size]? = some (.deferred (some [])) := (World.putObj_heap_other (by omega)).trans hk
      have hbody := hround (w.heap.size + 1) pre v _ hpre (hI _ _ _ hi (Bk.put (.loop { rec .ready none with state := .busy }) (by omega) hl rfl))
      refine ⟨fn, _, assign, body, hy, roundIn_of_wpIn hfn ?_⟩
      refine hassign _ v W _ ?_
      refine ⟨_, run_beginRound hl (by rw [hrec]), ?_⟩
      refine wpIn_mono hbody ?_
      rintro e a3 W3 hp
      cases e with
      | normal =>
        obtain ⟨hk3, hi3⟩ := hp
        have hl3 := hk3.same _ _ (by omega) hl2 rfl
        have hend := run_endRound (P := Try.prog) none hl3
        refine ⟨_, _, hend, .inl ⟨rfl, hI _ _ _ hi3 (Bk.put _ (by omega) hl3 rfl), ?_, (World.putObj_heap_other (by omega)).trans (hk3.same _ _ (by omega) hk2 rfl)⟩⟩
        rw [World.putObj_heap_same (Array.getElem?_eq_some_iff.1 hl3).1, hrec]
        rfl
      | ret =>
        obtain ⟨hk3, hi3⟩ := hp
        have hl3 := hk3.same _ _ (by omega) hl2 rfl
        have hend := run_endRound (P := Try.prog) (some .ret) hl3
        refine ⟨_, _, hend, .inr ⟨rfl, hIx _ _ _ hi3 (Bk.put _ (by omega) hl3 rfl), ?_, (World.putObj_heap_other (by omega)).trans (hk3.same _ _ (by omega) hk2 rfl)⟩⟩
        rw [World.putObj_heap_same (Array.getElem?_eq_some_iff.1 hl3).1, hrec]
        rfl
      | exit id => exact hp.elim
      | goto t => exact hp.elim
      | panic ch => exact hp.elim
      | outgrown => exact hp.elim
    · rintro e W2 ⟨⟨v, rfl⟩, hcase⟩
      rcases hcase with ⟨hi, hl, hk⟩ | ⟨pre, x, hpre, hi, hl, hk⟩
      · refine ⟨none, _, ?_, hdone w.heap.size _ (Nat.le_refl _) (hI _ _ _ hi (Bk.put (.loop { rec .ready none with state := .exhausted }) (by omega) hl rfl)) ((World.putObj_heap_other (by omega)).trans hk)⟩
        have := run_endLoop (P := Try.prog) hl (by rw [hrec]; simp)
        rw [hrec] at this ⊢
        exact this
      · refine ⟨some .ret, _, ?_, hstop w.heap.size pre x _ (Nat.le_refl _) hpre (hIx _ _ _ hi (Bk.put (.loop { rec .done (some .ret) with state := .exhausted }) (by omega) hl rfl)) ((World.putObj_heap_other (by omega)).trans hk)⟩
        have := run_endLoop (P := Try.prog) hl (by rw [hrec]; simp)
        rw [hrec] at this ⊢
        exact this
end Go.Proofs.Ytkjfpdfkcfgfkaa

/- A region that draws its order, whose last operation writes what was read: by the name of its operations; in a round, too. -/
namespace Go.Proofs.Ytkjfpdfkcfgfkaa
open Go.RowKit Go.Shelf

section
variable {P : Program} {Q : Exit → Act → World → Prop} {S : World → Prop} {ops : Array Oper}
theorem region_inU {ops' : Array Oper} {id lp k : Nat} {a : Act} {w : World} (ops : Array Oper) (n : Nat) (S : World → Prop) (z : Nat) (ho : ops' = ops) (hn : ops.size = n) (hnd : noDefer ops.toList = true) (hQ : ∀ a w, ¬ Q .outgrown a w)
    (h : wpAnyU Try.prog .any ops Q S z n (Array.replicate n false) a w.drew) : (Code.region id ops' true).wpIn (Fence.wide.inRound lp) k Try.prog Q a w := by
  subst ho
  subst hn
  have := wpIn_U (l := ops'.toList) (id := id) (lp := lp) (k := k) (S := S) (a := a) (w := w) z hnd hQ (by simpa using h)
  simpa using this
theorem region_inH {ops' : Array Oper} {id lp k : Nat} {a : Act} {w : World} (ops : Array Oper) (n : Nat) (S : World → Prop) (ho : ops' = ops) (hn : ops.size = n) (hnd : noDefer ops.toList = true) (hQ : ∀ a w, ¬ Q .outgrown a w)
    (h : wpAnyH Try.prog .any ops Q S n (Array.replicate n false) a w.drew) : (Code.region id ops' true).wpIn (Fence.wide.inRound lp) k Try.prog Q a w := by
  subst ho
  subst hn
  have := wpIn_H (l := ops'.toList) (id := id) (lp := lp) (k := k) (S := S) (a := a) (w := w) hnd hQ (by simpa using h)
  simpa using this
def takeUB (ops : Array Oper) (listed : Array Bool) (z i : Nat) (d : Option Tmp) : Bool := takeB ops listed i d && Region.waitsFor .any ops z i
theorem takeU_at {z i : Nat} {d : Option Tmp} {v : Value} {fuel : Nat} {listed : Array Bool} {a : Act} {w : World} (hB : takeUB ops listed z i d = true) (hw : Region.wanted (opAt ops i) (yielded ops a.tmps) = true)
    (hQ : ∀ c a w, Q (.panic c) (a.put d v) w → Q (.panic c) a w) (hy : ∀ w, S w → (execOp a.eval (opAt ops i)).run P w = .ok (.value v) w) (hS : S w)
    (h : wpAnyU P .any ops Q S z fuel (listed.setIfInBounds i true) (a.put d v) w) : wpAnyU P .any ops Q S z (fuel + 1) listed a w := by
  simp only [takeUB, takeB, Bool.and_eq_true, decide_eq_true_eq] at hB
  obtain ⟨⟨⟨⟨⟨h1, h2⟩, h3⟩, h4⟩, h5⟩, h6⟩ := hB
  subst h5
  exact anyU_take (i := i) (oi := opAt ops i) (v := v) h6 (opAt_of h4) h1 h2 h3 hQ (.inl ⟨hw, hy⟩) hS h
theorem valueU_at {z i : Nat} {d : Option Tmp} {fuel : Nat} {listed : Array Bool} {a : Act} {w w' : World} {v : Value} (hB : oneB ops listed i d = true) (hw : Region.wanted (opAt ops i) (yielded ops a.tmps) = true)
    (hr : (execOp a.eval (opAt ops i)).run P w = .ok (.value v) w') (hS : i ≠ z → S w') (h : wpAnyU P .any ops Q S z fuel (listed.setIfInBounds i true) (a.put d v) w') : wpAnyU P .any ops Q S z (fuel + 1) listed a w := by
  simp only [oneB, Bool.and_eq_true, decide_eq_true_eq] at hB
  obtain ⟨⟨h3, h4⟩, h5⟩ := hB
  subst h5
  exact anyU_one h3 (op_value (opAt_of h4) hw hr ⟨hS, h⟩)
theorem skipU_at {z i : Nat} {d : Option Tmp} {fuel : Nat} {listed : Array Bool} {a : Act} {w w' : World} (hB : oneB ops listed i d = true) (hw : Region.wanted (opAt ops i) (yielded ops a.tmps) = true)
    (hr : (execOp a.eval (opAt ops i)).run P w = .ok .skip w') (hS : i ≠ z → S w') (h : wpAnyU P .any ops Q S z fuel (listed.setIfInBounds i true) (a.put d undef) w') : wpAnyU P .any ops Q S z (fuel + 1) listed a w := by
  simp only [oneB, Bool.and_eq_true, decide_eq_true_eq] at hB
  obtain ⟨⟨h3, h4⟩, h5⟩ := hB
  subst h5
  exact anyU_one h3 (op_skip (opAt_of h4) hw hr ⟨hS, h⟩)
end
/-- A store of one cell. -/
theorem exec_storeU {ev : Operand → Value} {o : Oper} {w : World} {b off : Nat} {v old : Value} (t : TypeId) (x y : Operand) (ho : o.op = .store t x y) (hx : ev x = .pointer (some ⟨b, off, none⟩)) (hy : ev y = v) (h1 : v.oneCell' = true) (hsz : (sizeOf t).run Try.prog w = .ok 1 w) (hc : w.cell? ⟨b, off, none⟩ = some old) (hf : w.frozen? ⟨b, off, none⟩ = false) :
    (execOp ev o).run Try.prog w = .ok .skip (w.setCell ⟨b, off, none⟩ v) := by
  have hs : (Sem.store Mode.plain (⟨b, off, none⟩ : Addr) v (.pure ())).run Try.prog w = .ok () (w.setCell ⟨b, off, none⟩ v) := by
    cases v <;> first
      | (simp [Value.oneCell'] at h1; done)
      | (unfold Sem.run; simp [hc, hf, Sem.run])
  have h1c : v.cells = #[v] := by cases v <;> first | rfl | (simp [Value.oneCell'] at h1; done)
  unfold execOp
  simp [ho, hx, hy, Instr.storeAt, Instr.sureAddr, storeVar, h1c, hsz, storeCells, Addr.add, store, hs, Result.andThen]
/-- Rounds of ranges over functions know no bound in the wide fence. -/
theorem yieldAt_any {m m' l : Nat} {args : Array Value} {W : World} {R : Ending → World → Prop} (h : YieldAt Fence.wide m Try.prog l args W R) : YieldAt Fence.wide m' Try.prog l args W R := by
  obtain ⟨fn, tmps, assign, body, hy, h1, h2⟩ := h
  exact ⟨fn, tmps, assign, body, hy, h1, fun c cs _ => h2 c cs (room_wide _)⟩
end Go.Proofs.Ytkjfpdfkcfgfkaa

/- A region that draws its order, in the wide fence: reads are taken first; a call may be a round of a range. -/
namespace Go.Proofs.Ytkjfpdfkcfgfkaa
open Go.RowKit Go.Shelf

/-- The type of a block of which nothing is frozen. -/
def tyAt (w : World) (k : Nat) : Option TypeId := match w.heap[k]? with
  | some (.cells _ t (0, 0)) => some t
  | _ => none
theorem Blk.tyAt {w : World} {k : Nat} {cur : Array Value} {e : TypeId} (h : Blk w k cur e) : tyAt w k = some e := by
  have h' : w.heap[k]? = some (.cells cur e (0, 0)) := h
  unfold Go.Proofs.Ytkjfpdfkcfgfkaa.tyAt
  rw [h']
  rfl
theorem blk_tyAt {w : World} {k : Nat} {e : TypeId} (h : tyAt w k = some e) : ∃ cur, Blk w k cur e := by
  unfold tyAt at h
  split at h
  · rename_i cur t he
    cases h
    exact ⟨cur, he⟩
  · cases h
/-- Blocks of a finite memory have finitely many types. -/
theorem Only.ofNot {w : World} {S : Nat → Prop} {e : TypeId} (h : ∀ k cur, S k → ¬ Blk w k cur e) : ∃ es, Only w S es ∧ e ∉ es := by
  classical
  refine ⟨(List.range w.heap.size).filterMap (fun k => if S k then tyAt w k else Option.none), ?_, ?_⟩
  · intro k cur t hk hb
    exact List.mem_filterMap.2 ⟨k, List.mem_range.2 hb.lt, by rw [if_pos hk]; exact hb.tyAt⟩
  · intro hm
    obtain ⟨k, _, hk⟩ := List.mem_filterMap.1 hm
    by_cases hs : S k
    · rw [if_pos hs] at hk
      obtain ⟨cur, hb⟩ := blk_tyAt hk
      exact h k cur hs hb
    · rw [if_neg hs] at hk
      cases hk
theorem WAt.frN {S : Nat → Prop} {w w' : World} {X : Nat} {zs : List Int} {s : WS} (h : WAt w X zs s) (f : Fr S w w') (hn : ∀ k, s.own X k → ¬ S k) (ho : ∀ k cur, S k → ¬ Blk w k cur 154) : WAt w' X zs s := by
  obtain ⟨es, h1, h2⟩ := Only.ofNot ho
  exact h.fr f hn h1 h2

section
variable {n : Nat} {P : Program} {ops : Array Oper} {Q : Exit → Act → World → Prop} {md : Region.Mode} {S : World → Prop}
theorem yieldsIf_wpOpIn {i : Nat} {o : Oper} {v : Value} {a : Act} (hi : ops[i]? = some o) (hy : YieldsIf P ops S o v a)
    {K : Act → World → Prop} {w : World} (hS : S w) (h : K (a.put o.dst v) w) : wpOpIn Fence.wide n P ops Q i K a w := by
  unfold Go.wpOpIn
  simp only [hi]
  rcases hy with ⟨hw, hv⟩ | ⟨hw, rfl⟩
  · simp only [hw, if_true, Oper.wpIn, show Fence.wide.round = none from rfl, Oper.semAt_none, hv w hS, Oper.uponIn]; exact ⟨fun _ _ => trivial, h⟩
  · simp only [hw, Bool.false_eq_true, if_false]; exact ⟨fun _ _ => trivial, h⟩
theorem wpOpIn_putIf {j : Nat} {oi oj : Oper} {v : Value} (hj : ops[j]? = some oj) (hap : oi.apart ops oj = true)
    (hsi : ∀ cs b, oi.op ≠ .select cs b) (hsj : ∀ cs b, oj.op ≠ .select cs b)
    (hQ : ∀ c a w, Q (.panic c) (a.put oi.dst v) w → Q (.panic c) a w) {K : Act → World → Prop} {a : Act} {w : World}
    (hy : YieldsIf P ops S oi v a) (h : wpOpIn Fence.wide n P ops Q j K (a.put oi.dst v) w) :
    wpOpIn Fence.wide n P ops Q j (fun a' w' => YieldsIf P ops S oi v a' ∧ K (a'.put oi.dst v) w') a w := by
  obtain ⟨h1, h2, h3⟩ := Oper.apart_spec hap
  have keep : ∀ (a : Act), YieldsIf P ops S oi v a → ∀ u, YieldsIf P ops S oi v (a.put oj.dst u) := fun a hy u =>
    hy.of_same (execOp_put oi hsi a oj.dst u h3) (wanted_put oi a oj.dst u h3)
  have keepD : ∀ d, YieldsIf P ops S oi v { a with defers := d :: a.defers } := fun d => hy.of_same rfl rfl
  unfold wpOpIn at *
  simp only [hj] at *
  rw [wanted_put oj a oi.dst v h1, about_put oj w a oi.dst v h1] at h
  split
  · rename_i hw
    simp only [hw, if_true] at h
    unfold Oper.wpIn at *
    rw [about_put oj w a oi.dst v h1] at h
    refine ⟨h.1, ?_⟩
    have h := h.2
    rw [show Fence.wide.round = none from rfl, Oper.semAt_none, execOp_put oj hsj a oi.dst v h1] at h
    rw [show Fence.wide.round = none from rfl, Oper.semAt_none]
    generalize (execOp a.eval oj).run P w = r at *
    cases r with
    | ok x w' =>
      cases x <;> simp only [Oper.uponIn] at h ⊢
      case value u => exact ⟨keep a hy u, by rw [← Act.put_comm a v u h2]; exact h⟩
      case skip => exact ⟨keep a hy _, by rw [← Act.put_comm a v undef h2]; exact h⟩
      case defer d =>
        refine ⟨keep _ (keepD d) _, ?_⟩
        rw [← Act.put_comm _ v undef h2, ← Act.put_defers]
        exact h
      case enter f args =>
        refine ⟨h.1, CallsIn.mono h.2 fun e w'' he => ?_⟩
        cases e with
        | returned u => exact ⟨keep a hy u, by rw [← Act.put_comm a v u h2]; exact he⟩
        | panicked c => exact hQ _ _ _ he
        | outgrown => exact he
      case row row args => exact ⟨h.1, RowsIn.mono h.2 fun u w'' he => ⟨keep a hy u, by rw [← Act.put_comm a v u h2]; exact he⟩⟩
      case round l f tmps assign body =>
        refine ⟨h.1, RoundIn.mono h.2 fun e w'' he => ?_⟩
        cases e with
        | returned u => exact ⟨keep a hy u, by rw [← Act.put_comm a v u h2]; exact he⟩
        | panicked c => exact hQ _ _ _ he
        | outgrown => exact he
    | halt x w' =>
      cases x <;> simp only [Oper.uponIn] at h ⊢
      case panic u => exact hQ _ _ _ h
  · rename_i hw
    simp only [hw] at h
    exact ⟨h.1, keep a hy _, by rw [← Act.put_comm a v undef h2]; exact h.2⟩
/-- Whatever order is picked from here on, in the wide fence, and S holds behind every operation. -/
def wpAnyI (n : Nat) (P : Program) (md : Region.Mode) (ops : Array Oper) (Q : Exit → Act → World → Prop) (S : World → Prop) : Nat → Array Bool → Act → World → Prop
  | 0, listed, a, w => Region.ready md ops listed = [] ∧ Q .normal a w
  | fuel + 1, listed, a, w => (Region.ready md ops listed = [] → Q .normal a w) ∧
    ∀ i ∈ Region.ready md ops listed, wpOpIn Fence.wide n P ops Q i (fun a' w' => S w' ∧ wpAnyI n P md ops Q S fuel (listed.setIfInBounds i true) a' w') a w
theorem anyIn_of_I : ∀ (fuel : Nat) (listed : Array Bool) (a : Act) (w : World), wpAnyI n P md ops Q S fuel listed a w → wpAnyIn Fence.wide n P md ops Q fuel listed a w
  | 0, _, _, _, h => h
  | fuel + 1, _, _, _, h => ⟨h.1, fun i hi => wpOpIn_mono (fun a' w' h' => anyIn_of_I fuel _ a' w' h'.2) (h.2 i hi)⟩
theorem wpAnyI_first {i : Nat} {oi : Oper} {v : Value} (hi : ops[i]? = some oi) (hsel : ∀ (j : Nat) (o : Oper) cs b, ops[j]? = some o → o.op ≠ .select cs b)
    (hQ : ∀ c a w, Q (.panic c) (a.put oi.dst v) w → Q (.panic c) a w) :
    ∀ (fuel : Nat) (listed : Array Bool) (a : Act) (w : World),
      (∀ j oj, ops[j]? = some oj → j ≠ i → listed.getD j true = false → (∀ e ∈ oj.after, Region.binds md e = true → e.on ≠ i) → oi.apart ops oj = true) →
      i ∈ Region.ready md ops listed → YieldsIf P ops S oi v a → S w →
      wpAnyI n P md ops Q S fuel (listed.setIfInBounds i true) (a.put oi.dst v) w → wpAnyI n P md ops Q S (fuel + 1) listed a w := by
  intro fuel
  induction fuel with
  | zero =>
    intro listed a w _ hr hy hS H
    refine ⟨fun h => (by rw [h] at hr; cases hr), fun j hj => ?_⟩
    by_cases hji : j = i
    · subst hji; exact yieldsIf_wpOpIn hi hy hS ⟨hS, H⟩
    · have := ready_mono hj hji
      rw [H.1] at this
      cases this
  | succ fuel ih =>
    intro listed a w hfree hr hy hS H
    refine ⟨fun h => (by rw [h] at hr; cases hr), fun j hj => ?_⟩
    by_cases hji : j = i
    · subst hji; exact yieldsIf_wpOpIn hi hy hS ⟨hS, H⟩
    · have h1 := H.2 j (ready_mono hj hji)
      obtain ⟨hjun, oj, hoj, hall⟩ := mem_ready.1 hj
      have hnot : ∀ e ∈ oj.after, Region.binds md e = true → e.on ≠ i := fun e he hb heq => by
        have h1 := hall e he hb
        have h0 := (mem_ready.1 hr).1
        rw [heq] at h1
        rcases Nat.lt_or_ge i listed.size with h' | h'
        · simp [h'] at h0 h1; rw [h0] at h1; cases h1
        · simp [Array.getElem?_eq_none h'] at h1
      have h2 := wpOpIn_putIf hoj (hfree j oj hoj hji hjun hnot) (fun cs b => hsel i oi cs b hi) (fun cs b => hsel j oj cs b hoj) hQ hy h1
      have hfree' : ∀ k ok, ops[k]? = some ok → k ≠ i → (listed.setIfInBounds j true).getD k true = false →
          (∀ e ∈ ok.after, Region.binds md e = true → e.on ≠ i) → oi.apart ops ok = true := fun k ok hk hki hun hno => by
        refine hfree k ok hk hki ?_ hno
        by_cases hjk : j = k
        · subst hjk; exact hjun
        · rw [getD_set_ne true hjk] at hun; exact hun
      refine wpOpIn_mono (fun a' w' h3 => ⟨h3.2.1, ih (listed.setIfInBounds j true) a' w' hfree' (ready_mono hr (Ne.symm hji)) h3.1 h3.2.1 ?_⟩) h2
      rw [Array.setIfInBounds_comm _ _ hji]
      exact h3.2.2
theorem region_I {ops' : Array Oper} {id k : Nat} {a : Act} {w : World} (ops : Array Oper) (n : Nat) (S : World → Prop) (ho : ops' = ops) (hn : ops.size = n) (hm : P.follows .mixedOrders = true)
    (h : wpAnyI k P .any ops (NoPanic Q) S n (Array.replicate n false) a w.drew) : (Code.region id ops' true).wpIn Fence.wide k P Q a w := by
  subst ho
  subst hn
  exact wpIn_mono (wpIn_region_any hm (anyIn_of_I _ _ _ _ h)) NoPanic.imp
theorem takeI_at {i : Nat} {d : Option Tmp} {v : Value} {fuel : Nat} {listed : Array Bool} {a : Act} {w : World} (hB : takeB ops listed i d = true) (hw : Region.wanted (opAt ops i) (yielded ops a.tmps) = true)
    (hQ : ∀ c a w, Q (.panic c) (a.put d v) w → Q (.panic c) a w) (hy : ∀ w, S w → (execOp a.eval (opAt ops i)).run P w = .ok (.value v) w) (hS : S w)
    (h : wpAnyI n P .any ops Q S fuel (listed.setIfInBounds i true) (a.put d v) w) : wpAnyI n P .any ops Q S (fuel + 1) listed a w := by
  simp only [takeB, Bool.and_eq_true, decide_eq_true_eq] at hB
  obtain ⟨⟨⟨⟨h1, h2⟩, h3⟩, h4⟩, h5⟩ := hB
  subst h5
  exact wpAnyI_first (opAt_of h4) (Region.noSelect_spec h1) hQ fuel listed a w (Region.free_spec (opAt_of h4) h2) (by simpa using h3) (.inl ⟨hw, hy⟩) hS h
theorem oneI {i : Nat} {d : Option Tmp} {fuel : Nat} {listed : Array Bool} {a : Act} {w : World} (hB : oneB ops listed i d = true) (hw : Region.wanted (opAt ops i) (yielded ops a.tmps) = true)
    (h : (opAt ops i).uponIn Fence.wide n P a (fun a' w' => S w' ∧ wpAnyI n P .any ops Q S fuel (listed.setIfInBounds i true) a' w') Q ((execOp a.eval (opAt ops i)).run P w)) : wpAnyI n P .any ops Q S (fuel + 1) listed a w := by
  simp only [oneB, Bool.and_eq_true, decide_eq_true_eq] at hB
  obtain ⟨⟨h3, h4⟩, h5⟩ := hB
  refine ⟨fun h0 => (by rw [h3] at h0; cases h0), fun j hj => ?_⟩
  rw [h3] at hj
  obtain rfl := List.mem_singleton.1 hj
  unfold wpOpIn
  simp only [opAt_of h4, hw, if_true]
  refine ⟨fun _ _ => trivial, ?_⟩
  rw [show Fence.wide.round = none from rfl, Oper.semAt_none]
  exact h
theorem skipI_at {i : Nat} {d : Option Tmp} {fuel : Nat} {listed : Array Bool} {a : Act} {w w' : World} (hB : oneB ops listed i d = true) (hw : Region.wanted (opAt ops i) (yielded ops a.tmps) = true)
    (hr : (execOp a.eval (opAt ops i)).run P w = .ok .skip w') (hS : S w') (h : wpAnyI n P .any ops Q S fuel (listed.setIfInBounds i true) (a.put d undef) w') : wpAnyI n P .any ops Q S (fuel + 1) listed a w := by
  have hd : (opAt ops i).dst = d := by simp only [oneB, Bool.and_eq_true, decide_eq_true_eq] at hB; exact hB.2
  subst hd
  refine oneI hB hw ?_
  rw [hr]
  exact ⟨hS, h⟩
theorem enterI_at {i : Nat} {d : Option Tmp} {fuel : Nat} {listed : Array Bool} {a : Act} {w w' : World} {f : FuncId} {args : Array Value} (hB : oneB ops listed i d = true) (hw : Region.wanted (opAt ops i) (yielded ops a.tmps) = true)
    (hr : (execOp a.eval (opAt ops i)).run P w = .ok (.enter f args) w')
    (h : Calls P f args w' (fun e w'' => ∃ v, e = .returned v ∧ S w'' ∧ wpAnyI n P .any ops Q S fuel (listed.setIfInBounds i true) (a.put d v) w'')) : wpAnyI n P .any ops Q S (fuel + 1) listed a w := by
  have hd : (opAt ops i).dst = d := by simp only [oneB, Bool.and_eq_true, decide_eq_true_eq] at hB; exact hB.2
  subst hd
  refine oneI hB hw ?_
  rw [hr]
  refine ⟨(fun h => by cases h), (callsIn_wide.2 h).mono ?_⟩
  rintro e w'' ⟨v, rfl, hs⟩
  exact hs
theorem roundI_at {i : Nat} {d : Option Tmp} {fuel : Nat} {listed : Array Bool} {a : Act} {w w' : World} {l : Nat} {f : FuncId} {tmps : Array Value} {assign body : Code} (hB : oneB ops listed i d = true) (hw : Region.wanted (opAt ops i) (yielded ops a.tmps) = true)
    (hr : (execOp a.eval (opAt ops i)).run P w = .ok (.round l f tmps assign body) w')
    (h : RoundIn Fence.wide (n - 1) P l f tmps assign body w' (fun e w'' => ∃ v, e = .returned v ∧ S w'' ∧ wpAnyI n P .any ops Q S fuel (listed.setIfInBounds i true) (a.put d v) w'')) : wpAnyI n P .any ops Q S (fuel + 1) listed a w := by
  have hd : (opAt ops i).dst = d := by simp only [oneB, Bool.and_eq_true, decide_eq_true_eq] at hB; exact hB.2
  subst hd
  refine oneI hB hw ?_
  rw [hr]
  refine ⟨(fun h => by cases h), h.mono ?_⟩
  rintro e w'' ⟨v, rfl, hs⟩
  exact hs
theorem doneI {listed : Array Bool} {a : Act} {w : World} (hr : Region.ready md ops listed = []) (h : Q .normal a w) : ∀ fuel, wpAnyI n P md ops Q S fuel listed a w
  | 0 => ⟨hr, h⟩
  | _ + 1 => ⟨fun _ => h, by rw [hr]; simp⟩
end
end Go.Proofs.Ytkjfpdfkcfgfkaa

/- Solutions: the words of going on. -/
namespace Go.Proofs.Ytkjfpdfkcfgfkaa
open Go.RowKit Go.Shelf

/-- What a range over solutions does with one: done are those that came, C are the blocks that are the range's own; J ahead of the next one, Jx behind the last. -/
structure YPost (J Jx : List (List Nat) → (Nat → Prop) → World → Prop) (done : List (List Nat)) (C : Nat → Prop) (L g : Nat) (W : World) (e : Ending) (W' : World) : Prop where
  ex : ∃ C' : Nat → Prop, (∀ k, C' k → C k ∨ k = g ∨ W.heap.size ≤ k) ∧ Fr (fun k => C k ∨ k = g ∨ k = L) W W' ∧ ((e = .returned (.bool true) ∧ J done C' W') ∨ (e = .returned (.bool false) ∧ Jx done C' W'))
structure Sink (X : Nat) (zs : List Int) (s : WS) (L N0 : Nat) (all : List (List Nat)) (J Jx : List (List Nat) → (Nat → Prop) → World → Prop) : Prop where
  st : ∀ done C S A B, J done C A → Fr S A B → (∀ k, S k → N0 ≤ k ∧ ¬ C k) → J done C B
  stx : ∀ done C S A B, Jx done C A → Fr S A B → (∀ k, S k → N0 ≤ k ∧ ¬ C k) → Jx done C B
  cells : ∀ done C A k, J done C A → C k → ∃ cur e, Blk A k cur e ∧ e ≠ 154
  cellsx : ∀ done C A k, Jx done C A → C k → ∃ cur e, Blk A k cur e ∧ e ≠ 154
  lrec : ∀ done C A, J done C A → ∃ r, A.heap[L]? = some (.loop r)
  yield : ∀ done C x g cap n W1, J done C W1 → WAt W1 X zs s → (done ++ [x]) <+: all → N0 ≤ g → ¬ C g → Row W1 (.slice (some ⟨g, 0, none⟩) x.length cap) 3 (ints x) →
    YieldAt Fence.wide n Try.prog L #[.slice (some ⟨g, 0, none⟩) x.length cap] W1 (YPost J Jx (done ++ [x]) C L g W1)
/-- What goOn needs apart from what lies in memory. -/
structure GoPre (G X : Nat) (s : WS) (L N0 : Nat) (rdy : List Value) (lv : Value) (C : Nat → Prop) : Prop where
  gN : N0 ≤ G
  gC : ¬ C G
  lN : ∀ k, lv.ownBlock = some k → N0 ≤ k ∧ ¬ C k
  rN : ∀ i k, i < 8 → (rdy.getD i undef).ownBlock = some k → N0 ≤ k ∧ ¬ C k
  LN : L < N0
  own : ∀ k, s.own X k → k < N0 ∧ k ≠ L ∧ ¬ C k
structure GoPost (J Jx : List (List Nat) → (Nat → Prop) → World → Prop) (G X : Nat) (s : WS) (L N0 : Nat) (rdy : List Value) (yv : Value) (done : List (List Nat)) (sol : List (List Nat)) (l : List Nat) (C : Nat → Prop) (lv : Value) (W : World) (e : Ending) (W' : World) : Prop where
  ex : ∃ (C' : Nat → Prop) (lv' : Value) (l' : List Nat), (∀ k, C' k → C k ∨ W.heap.size ≤ k) ∧ l <+: l' ∧ GoAt W' G X s.ts rdy lv' yv l' ∧ GoPre G X s L N0 rdy lv' C' ∧ (∀ k, lv'.ownBlock = some k → lv.ownBlock = some k ∨ W.heap.size ≤ k) ∧
    Fr (fun k => C k ∨ k = L ∨ k = G ∨ lv.ownBlock = some k) W W' ∧ ((e = .returned (.bool true) ∧ J (done ++ sol) C' W') ∨ (e = .returned (.bool false) ∧ ∃ p x, (p ++ [x]) <+: sol ∧ Jx (done ++ p ++ [x]) C' W'))
noncomputable def goReg2 : Array Oper := regOps Try.f59 2
noncomputable def goReg3 : Array Oper := regOps Try.f59 3
noncomputable def goReg4 : Array Oper := regOps Try.f59 4
noncomputable def goReg6 : Array Oper := regOps Try.f59 6
theorem GoAt.fr {S : Nat → Prop} {W W' : World} {G X : Nat} {ts : List Tab} {rdy : List Value} {lv yv : Value} {l : List Nat} (h : GoAt W G X ts rdy lv yv l) (f : Fr S W W') (hG : ¬ S G) (hl : ∀ k, lv.ownBlock = some k → ¬ S k) (hr : ∀ i k, i < 8 → (rdy.getD i undef).ownBlock = some k → ¬ S k) : GoAt W' G X ts rdy lv yv l :=
  ⟨h.blk.fr f hG, h.len, fun i hi => (h.rdy i hi).fr f (fun k hk => hr i k hi hk), h.list.fr f hl⟩
theorem GoPre.grow {W : World} {G X L N0 : Nat} {s : WS} {rdy : List Value} {lv yv : Value} {l : List Nat} {C C' : Nat → Prop} (h : GoPre G X s L N0 rdy lv C) (hA : GoAt W G X s.ts rdy lv yv l) (hC : ∀ k, C' k → C k ∨ W.heap.size ≤ k) : GoPre G X s L N0 rdy lv C' := by
  have hGl := hA.blk.lt
  have hno : ∀ k, k < W.heap.size → ¬ C k → ¬ C' k := fun k hk hn hc => (hC k hc).elim hn (fun h' => by omega)
  refine ⟨h.gN, hno _ hGl h.gC, fun k hk => ⟨(h.lN k hk).1, hno _ (hA.list.lt hk) (h.lN k hk).2⟩, fun i k hi hk => ⟨(h.rN i k hi hk).1, hno _ ((hA.rdy i hi).lt hk) (h.rN i k hi hk).2⟩, h.LN, fun k hk => ?_⟩
  obtain ⟨h1, h2, h3⟩ := h.own k hk
  have := h.gN
  exact ⟨h1, h2, hno k (by omega) h3⟩
/-- A round of a range, called as a function value. -/
theorem exec_yield {ev : Operand → Value} {o : Oper} {w : World} {nx : Next} {L : Nat} {v : Value} (x y : Operand) (ats : Array TypeId) (ho : o.op = .call { callee := .value x, args := #[y], argTypes := ats }) (hx : ev x = .func (.yield L) #[] #[]) (hy : ev y = v) (hr : (Instr.yield L #[v]).run Try.prog w = .ok nx w) : (execOp ev o).run Try.prog w = .ok nx w := by
  unfold execOp
  simp only [ho, resolve, hx]
  simp [go_sem, invoke]
  rw [hy]
  exact hr
/-- A result that lies in a cell. -/
theorem results_cell1 {fn : Func} {p : Tmp} {ty : TypeId} {tmps : Array Value} {w : World} {b off : Nat} {v : Value} (h : fn.results = #[.cell p ty]) (hp : tmps.getD p undef = .pointer (some ⟨b, off, none⟩)) (hag : (isAgg ty).run Try.prog w = .ok false w) (hc : w.cell? ⟨b, off, none⟩ = some v) : (results fn tmps).run Try.prog w = .ok v w := by
  have hp' : tmps[p]?.getD undef = .pointer (some ⟨b, off, none⟩) := by simpa using hp
  have hl : (Sem.load Mode.plain (⟨b, off, none⟩ : Addr) Sem.pure).run Try.prog w = .ok v w := by
    unfold Sem.run
    rw [hc]
    rfl
  simp [results, h, hp', asAddr, loadVar, hag, hl, Result.andThen, load]
/-- Two numbers are compared. -/
theorem exec_eqI {ev : Operand → Value} {o : Oper} {w : World} (a b : Int) (r : Bool) (x y : Operand) (ho : o.op = .binOp .eql 3 x y 3) (hx : ev x = .int .i64 a) (hy : ev y = .int .i64 b) (hr : (a == b) = r) : (execOp ev o).run Try.prog w = .ok (.value (.bool r)) w := by
  refine exec_eql x y 3 3 ho ?_ ?_
  · rw [hx, hy]; kernel_rfl
  · rw [hx, hy, ← hr]; kernel_rfl
/-- A box, the result, the number of values chosen. -/
structure GoBox (W : World) (B G v : Nat) (r : Bool) : Prop where
  b0 : Blk W B #[.pointer (some ⟨G, 0, none⟩)] 123
  b1 : Blk W (B + 1) #[.bool r] 4
  b2 : Blk W (B + 2) #[.int .i64 (v : Int)] 3
theorem GoBox.fr {S : Nat → Prop} {W W' : World} {B G v : Nat} {r : Bool} (h : GoBox W B G v r) (f : Fr S W W') (hn : ∀ k, S k → k < B ∨ B + 2 < k) : GoBox W' B G v r :=
  ⟨h.b0.fr f (fun h => by have := hn _ h; omega), h.b1.fr f (fun h => by have := hn _ h; omega), h.b2.fr f (fun h => by have := hn _ h; omega)⟩

/-- goOn, with m variables to go. -/
def GoOk (G X : Nat) (zs : List Int) (s : WS) (L N0 : Nat) (all : List (List Nat)) (J Jx : List (List Nat) → (Nat → Prop) → World → Prop) (rdy : List Value) (m : Nat) : Prop :=
  ∀ (l : List Nat) (lv : Value) (done : List (List Nat)) (C : Nat → Prop) (W : World), l.length + m = zs.length → J done C W → WAt W X zs s → GoAt W G X s.ts rdy lv (.func (.yield L) #[] #[]) l → GoPre G X s L N0 rdy lv C →
    (done ++ solN s.d s.bs m l) <+: all → (∀ q, q < l.length → (s.d.getD q 0).testBit (l.getD q 0) = true) →
    Calls Try.prog 59 #[.pointer (some ⟨G, 0, none⟩)] W (GoPost J Jx G X s L N0 rdy (.func (.yield L) #[] #[]) done (solN s.d s.bs m l) l C lv W)

set_option maxHeartbeats 3200000 in
set_option maxRecDepth 1000000 in
theorem goOn_zero (G X : Nat) (zs : List Int) (s : WS) (L N0 : Nat) (all : List (List Nat)) (J Jx : List (List Nat) → (Nat → Prop) → World → Prop) (hS : Sink X zs s L N0 all J Jx) (rdy : List Value) : GoOk G X zs s L N0 all J Jx rdy 0 := by
  intro l lv done C W hlm hJ hA hG hP hall hin
  obtain ⟨lo, lc, hlf, _⟩ := hG.list.form
  rw [show (ints l).length = l.length from by simp [ints]] at hlf
  subst hlf
  have hz := okSizes_len hA.mem.zok
  have c9 : W.cell? ⟨G, 9, none⟩ = some (.slice lo l.length lc) := (hG.blk.cell 9).trans (goCells_list _ _ _ _ hG.len)
  have hGl := hG.blk.lt
  have hl8 : (l.length : Int) ≤ 8 := by omega
  have HJ := hd hJ
  have HA := hd hA
  have HG := hd hG
  have HP := hd hP
  clear hJ hA hG hP
  refine (callsIn_wide (n := 9)).1 ?_
  refine callsIn_of_wp_marks Try.func59 rfl trivial ?_ rfl
  simp only [Try.ntmps59, List.size_toArray, List.length_cons, List.length_nil, Nat.reduceAdd, Nat.reduceSub, Array.replicate_succ, Array.replicate_zero, List.push_toArray, List.append_toArray, List.nil_append, List.cons_append]
  gi_wp2_with fail
  obtain ⟨W1, hW1⟩ : ∃ W1, W1 = ((W.alloc (.cells #[.pointer (some ⟨G, 0, none⟩)] 123)).alloc (.cells #[.bool false] 4)).alloc (.cells #[.int .i64 (l.length : Int)] 3) := ⟨_, rfl⟩
  have hf1 : Nw W W1 := by rw [hW1]; exact (((Fr.refl _ W).alloc _).alloc _).alloc _
  have hs1 : W1.heap.size = W.heap.size + 3 := by rw [hW1]; simp
  have hbx : GoBox W1 W.heap.size G l.length false := by
    rw [hW1]
    refine ⟨((Blk.new _ _ _).alloc _).alloc _, ?_, ?_⟩
    · have := (Blk.new (W.alloc (.cells #[.pointer (some ⟨G, 0, none⟩)] 123)) #[.bool false] 4).alloc (.cells #[.int .i64 (l.length : Int)] 3)
      simpa using this
    · have := Blk.new ((W.alloc (.cells #[.pointer (some ⟨G, 0, none⟩)] 123)).alloc (.cells #[.bool false] 4)) #[.int .i64 (l.length : Int)] 3
      simpa using this
  rw [← hW1]
  have HW1 := hd hW1
  clear hW1
  obtain ⟨so', sc, hszv, _⟩ := HA.out.mem.sz.form
  rw [List.length_map] at hszv
  have hK0 : GoBox W1.drew W.heap.size G l.length false ∧ Blk W1.drew G (goCells X rdy (.slice lo l.length lc) (.func (.yield L) #[] #[])) 110 ∧ Blk W1.drew X (workCells s.szv s.d (.slice s.so s.ts.length s.tcap) s.l) 82 :=
    ⟨hbx.fr ((Fr.refl (fun _ => False) W1).drew) (fun k h => h.elim), (HG.out.blk.nw hf1).drew, (HA.out.mem.blk.nw hf1).drew⟩
  refine region_I goReg2 10 (fun w'' => GoBox w'' W.heap.size G l.length false ∧ Blk w'' G (goCells X rdy (.slice lo l.length lc) (.func (.yield L) #[] #[])) 110 ∧ Blk w'' X (workCells s.szv s.d (.slice s.so s.ts.length s.tcap) s.l) 82) (by kernel_rfl) (by kernel_rfl) (by kernel_rfl) ?_
  refine takeI_at (i := 0) (d := some 10) (v := .int .i64 (l.length : Int)) (by kernel_rfl) (by kernel_rfl) (fun _ _ _ h => h) (fun w'' hS => exec_load 3 (.tmp 3) (by kernel_rfl) (by kernel_rfl) (by kernel_rfl) (hS.1.b2.cell 0)) hK0 ?_
  refine takeI_at (i := 1) (d := some 11) (v := .pointer (some ⟨G, 0, none⟩)) (by kernel_rfl) (by kernel_rfl) (fun _ _ _ h => h) (fun w'' hS => exec_load 123 (.tmp 1) (by kernel_rfl) (by kernel_rfl) (by kernel_rfl) (hS.1.b0.cell 0)) hK0 ?_
  refine takeI_at (i := 2) (d := some 12) (v := .pointer (some ⟨G, 0, none⟩)) (by kernel_rfl) (by kernel_rfl) (fun _ _ _ h => h) (fun w'' hS => by kernel_rfl) hK0 ?_
  refine takeI_at (i := 3) (d := some 13) (v := .pointer (some ⟨G, 0, none⟩)) (by kernel_rfl) (by kernel_rfl) (fun _ _ _ h => h) (fun w'' hS => by kernel_rfl) hK0 ?_
  refine takeI_at (i := 4) (d := some 14) (v := .pointer (some ⟨X, 0, none⟩)) (by kernel_rfl) (by kernel_rfl) (fun _ _ _ h => h) (fun w'' hS => exec_load 36 (.tmp 13) (by kernel_rfl) (by kernel_rfl) (by kernel_rfl) (hS.2.1.cell 0)) hK0 ?_
  refine takeI_at (i := 5) (d := some 15) (v := .pointer (some ⟨X, 0, none⟩)) (by kernel_rfl) (by kernel_rfl) (fun _ _ _ h => h) (fun w'' hS => by kernel_rfl) hK0 ?_
  refine takeI_at (i := 6) (d := some 16) (v := .pointer (some ⟨X, 0, none⟩)) (by kernel_rfl) (by kernel_rfl) (fun _ _ _ h => h) (fun w'' hS => by kernel_rfl) hK0 ?_
  refine takeI_at (i := 7) (d := some 17) (v := .slice so' zs.length sc) (by kernel_rfl) (by kernel_rfl) (fun _ _ _ h => h) (fun w'' hS => exec_load 22 (.tmp 16) (by kernel_rfl) (by kernel_rfl) (by kernel_rfl) ((hS.2.2.cell 0).trans ((workCells_sz ..).trans (by rw [hszv])))) hK0 ?_
  refine takeI_at (i := 8) (d := some 18) (v := .int .i64 (zs.length : Int)) (by kernel_rfl) (by kernel_rfl) (fun _ _ _ h => h) (fun w'' hS => by kernel_rfl) hK0 ?_
  refine takeI_at (i := 9) (d := some 19) (v := .bool true) (by kernel_rfl) (by kernel_rfl) (fun _ _ _ h => h) (fun w'' hS => exec_eqI (l.length : Int) (zs.length : Int) true (.tmp 10) (.tmp 18) (by kernel_rfl) (by kernel_rfl) (by kernel_rfl) (by simp; omega)) hK0 ?_
  refine doneI (by kernel_rfl) (NoPanic.normal ?_) _
  simp only [Act.put, List.setIfInBounds_toArray, List.set_cons_zero, List.set_cons_succ]
  clear hK0
  gi_wp2_with fail
  have hK0 : Blk W1.drew.drew W.heap.size #[.pointer (some ⟨G, 0, none⟩)] 123 ∧ Blk W1.drew.drew G (goCells X rdy (.slice lo l.length lc) (.func (.yield L) #[] #[])) 110 := ⟨hbx.b0.drew.drew, (HG.out.blk.nw hf1).drew.drew⟩
  obtain ⟨lb, rfl⟩ : ∃ lb, lo = some ⟨lb, 0, none⟩ := by
    obtain ⟨g, cap, he, hgo, _⟩ := HG.out.list.cell 0 (by simp [ints]; omega)
    injection he with e1 e2 e3
    exact ⟨g, e1⟩
  refine region_I goReg3 11 (fun w'' => Blk w'' W.heap.size #[.pointer (some ⟨G, 0, none⟩)] 123 ∧ Blk w'' G (goCells X rdy (.slice (some ⟨lb, 0, none⟩) l.length lc) (.func (.yield L) #[] #[])) 110) (by kernel_rfl) (by kernel_rfl) (by kernel_rfl) ?_
  refine takeI_at (i := 0) (d := some 20) (v := .pointer (some ⟨G, 0, none⟩)) (by kernel_rfl) (by kernel_rfl) (fun _ _ _ h => h) (fun w'' hS => exec_load 123 (.tmp 1) (by kernel_rfl) (by kernel_rfl) (by kernel_rfl) (hS.1.cell 0)) hK0 ?_
  refine takeI_at (i := 1) (d := some 21) (v := .pointer (some ⟨G, 0, none⟩)) (by kernel_rfl) (by kernel_rfl) (fun _ _ _ h => h) (fun w'' hS => by kernel_rfl) hK0 ?_
  refine takeI_at (i := 2) (d := some 22) (v := .pointer (some ⟨G, 10, none⟩)) (by kernel_rfl) (by kernel_rfl) (fun _ _ _ h => h) (fun w'' hS => by kernel_rfl) hK0 ?_
  refine takeI_at (i := 3) (d := some 23) (v := .func (.yield L) #[] #[]) (by kernel_rfl) (by kernel_rfl) (fun _ _ _ h => h) (fun w'' hS => exec_load 30 (.tmp 22) (by kernel_rfl) (by kernel_rfl) (by kernel_rfl) ((hS.2.cell 10).trans (goCells_yield _ _ _ _ HG.out.len))) hK0 ?_
  refine takeI_at (i := 4) (d := some 24) (v := .pointer (some ⟨G, 0, none⟩)) (by kernel_rfl) (by kernel_rfl) (fun _ _ _ h => h) (fun w'' hS => exec_load 123 (.tmp 1) (by kernel_rfl) (by kernel_rfl) (by kernel_rfl) (hS.1.cell 0)) hK0 ?_
  refine takeI_at (i := 5) (d := some 25) (v := .pointer (some ⟨G, 0, none⟩)) (by kernel_rfl) (by kernel_rfl) (fun _ _ _ h => h) (fun w'' hS => by kernel_rfl) hK0 ?_
  refine takeI_at (i := 6) (d := some 26) (v := .pointer (some ⟨G, 9, none⟩)) (by kernel_rfl) (by kernel_rfl) (fun _ _ _ h => h) (fun w'' hS => by kernel_rfl) hK0 ?_
  refine takeI_at (i := 7) (d := some 27) (v := .slice (some ⟨lb, 0, none⟩) l.length lc) (by kernel_rfl) (by kernel_rfl) (fun _ _ _ h => h) (fun w'' hS => exec_load 22 (.tmp 26) (by kernel_rfl) (by kernel_rfl) (by kernel_rfl) ((hS.2.cell 9).trans (goCells_list _ _ _ _ HG.out.len))) hK0 ?_
  refine enterI_at (i := 8) (d := some 28) (f := 49) (args := #[.slice (some ⟨lb, 0, none⟩) l.length lc]) (w' := W1.drew.drew) (by kernel_rfl) (by kernel_rfl) (by kernel_rfl) ?_
  have hcl := clone_any lb 0 lc (l.map (fun (x : Nat) => (x : Int))) W1.drew.drew (by simp; omega) (by simp; omega) (by
    have h9 := HG.out.list.nw hf1
    rw [ints_eq, ← List.length_map (f := fun (x : Nat) => (x : Int))] at h9
    exact h9.ints')
  rw [List.length_map, ← ints_eq] at hcl
  refine hcl.mono ?_
  rintro e W2 ⟨g, cap', rfl, hf2, hr2, hg2⟩
  have hf12 : Nw W W2 := (hf1.drew.drew).trans hf2 (fun i h => h.elim)
  have hg3 : W.heap.size + 3 ≤ g := by rw [← hs1]; exact hg2
  have hbx2 : GoBox W2 W.heap.size G l.length false := hbx.fr (((Fr.refl (fun _ => False) W1).drew.drew).trans hf2 (fun i h => h.elim)) (fun k h => h.elim)
  have hJ2 : J done C W2 := hS.st _ _ _ _ _ HJ.out hf12 (fun k h => h.elim)
  have hA2 := HA.out.nw hf12
  have hCl : ∀ k, C k → k < W.heap.size := fun k hk => by
    obtain ⟨cur, e, hb, _⟩ := hS.cells _ _ _ _ HJ.out hk
    exact hb.lt
  have hGN := HP.out.gN
  have hLN := HP.out.LN
  have hgC : ¬ C g := fun h => by have := hCl g h; omega
  have hK2 : Blk W2 W.heap.size #[.pointer (some ⟨G, 0, none⟩)] 123 ∧ Blk W2 G (goCells X rdy (.slice (some ⟨lb, 0, none⟩) l.length lc) (.func (.yield L) #[] #[])) 110 := ⟨hbx2.b0, HG.out.blk.nw hf12⟩
  refine ⟨_, rfl, hK2, ?_⟩
  obtain ⟨fn, tmps, assign, body, hy, hR⟩ := hS.yield done C l g cap' (9 - 1) W2 hJ2 hA2 hall (by omega) hgC hr2
  refine roundI_at (i := 9) (d := some 29) (l := L) (f := fn) (tmps := tmps) (assign := assign) (body := body) (w' := W2) (by kernel_rfl) (by kernel_rfl) (exec_yield (.tmp 23) (.tmp 28) #[22] (by kernel_rfl) (by kernel_rfl) (by kernel_rfl) hy) ?_
  refine hR.mono ?_
  rintro e W3 ⟨C', hC', hF3, hcase⟩
  obtain ⟨b, rfl, hb⟩ : ∃ b, e = .returned (.bool b) ∧ ((b = true ∧ J (done ++ [l]) C' W3) ∨ (b = false ∧ Jx (done ++ [l]) C' W3)) := by
    rcases hcase with ⟨h1, h2⟩ | ⟨h1, h2⟩
    · exact ⟨true, h1, .inl ⟨rfl, h2⟩⟩
    · exact ⟨false, h1, .inr ⟨rfl, h2⟩⟩
  have hnB : ∀ k, W.heap.size ≤ k → k < W.heap.size + 3 → ¬ (C k ∨ k = g ∨ k = L) := fun k h1 h2 h => by
    rcases h with h | h | h
    · have := hCl k h; omega
    · omega
    · omega
  have hbx3 : GoBox W3 W.heap.size G l.length false := ⟨hbx2.b0.fr hF3 (hnB _ (by omega) (by omega)), hbx2.b1.fr hF3 (hnB _ (by omega) (by omega)), hbx2.b2.fr hF3 (hnB _ (by omega) (by omega))⟩
  have hnG : ∀ k, N0 ≤ k → k < W.heap.size → ¬ C k → ¬ (C k ∨ k = g ∨ k = L) := fun k h1 h2 h3 h => by
    rcases h with h | h | h
    · exact h3 h
    · omega
    · omega
  have hG3 : GoAt W3 G X s.ts rdy (.slice (some ⟨lb, 0, none⟩) l.length lc) (.func (.yield L) #[] #[]) l := (HG.out.fr hf12 (fun h => h) (fun _ _ h => h) (fun _ _ _ _ h => h)).fr hF3 (hnG _ HP.out.gN hGl HP.out.gC) (fun k hk => hnG _ (HP.out.lN k hk).1 (HG.out.list.lt hk) (HP.out.lN k hk).2) (fun i k hi hk => hnG _ (HP.out.rN i k hi hk).1 ((HG.out.rdy i hi).lt hk) (HP.out.rN i k hi hk).2)
  refine ⟨_, rfl, ⟨hbx3.b0, hG3.blk⟩, ?_⟩
  have hF4 : Fr (fun k => k = W.heap.size + 1) W3 (W3.setCell ⟨W.heap.size + 1, 0, none⟩ (.bool b)) := (Fr.refl _ W3).setCell _ _ (.inl rfl)
  refine skipI_at (i := 10) (d := none) (w' := W3.setCell ⟨W.heap.size + 1, 0, none⟩ (.bool b)) (by kernel_rfl) (by kernel_rfl) (exec_storeU (old := .bool false) 4 (.tmp 2) (.tmp 29) (by kernel_rfl) (by kernel_rfl) (by kernel_rfl) rfl (by kernel_rfl) (hbx3.b1.cell 0) (hbx3.b1.free 0)) ⟨hbx3.b0.fr hF4 (by omega), hG3.blk.fr hF4 (by omega)⟩ ?_
  refine doneI (by kernel_rfl) (NoPanic.normal ?_) _
  simp only [Act.put, List.setIfInBounds_toArray, List.set_cons_zero, List.set_cons_succ]
  gi_wp2_with fail
  obtain ⟨W4, hW4⟩ : ∃ W4, W3.setCell ⟨W.heap.size + 1, 0, none⟩ (.bool b) = W4 := ⟨_, rfl⟩
  have hb4 : Blk W4 (W.heap.size + 1) #[.bool b] 4 := by rw [← hW4]; exact hbx3.b1.set 0 _
  rw [hW4] at hF4 ⊢
  refine ⟨_, results_cell1 (v := .bool b) rfl rfl (by kernel_rfl) (hb4.cell 0), ?_⟩
  have hC4 : ∀ k, C' k → C k ∨ W.heap.size ≤ k := fun k hk => by
    rcases hC' k hk with h | h | h
    · exact .inl h
    · exact .inr (by omega)
    · exact .inr (Nat.le_trans hf12.size h)
  have hn1 : ¬ C' (W.heap.size + 1) := fun h => by
    have h2 := hf2.size
    rcases hC' _ h with h | h | h
    · have := hCl _ h; omega
    · omega
    · have : W1.drew.drew.heap.size = W.heap.size + 3 := hs1
      omega
  refine ⟨C', _, l, hC4, List.prefix_refl l, hG3.fr hF4 (by omega) (fun k hk e => by have := HG.out.list.lt hk; omega) (fun i k hi hk e => by have := (HG.out.rdy i hi).lt hk; omega), HP.out.grow HG.out hC4, fun k hk => .inl hk, ?_, ?_⟩
  · refine (((hf12.mono (S' := fun k => C k ∨ k = L ∨ k = G ∨ (Value.slice (some ⟨lb, 0, none⟩) l.length lc).ownBlock = some k) (fun i h => h.elim)).trans hF3 ?_).trans hF4 (fun i h => .inr (by omega)))
    rintro i (h | h | h)
    · exact .inl (.inl h)
    · exact .inr (by omega)
    · exact .inl (.inr (.inl h))
  · rcases hb with ⟨rfl, hb⟩ | ⟨rfl, hb⟩
    · exact .inl ⟨rfl, hS.st _ _ _ _ _ hb hF4 (fun k hk => by subst hk; exact ⟨by omega, hn1⟩)⟩
    · exact .inr ⟨rfl, [], l, List.prefix_refl _, by simpa using hS.stx _ _ _ _ _ hb hF4 (fun k hk => by subst hk; exact ⟨by omega, hn1⟩)⟩
end Go.Proofs.Ytkjfpdfkcfgfkaa

/- Solutions: going on. -/
namespace Go.Proofs.Ytkjfpdfkcfgfkaa
open Go.RowKit Go.Shelf
attribute [local go_sem] Oper.semAt_some

/-- The solutions that go on from l with one of these values. -/
def solsOf (d : List Nat) (bs : List Tb) (m : Nat) (l : List Nat) (pre : List Nat) : List (List Nat) := pre.flatMap (fun v => if fitsB bs (l ++ [v]) then solN d bs m (l ++ [v]) else [])
theorem solsOf_app (d : List Nat) (bs : List Tb) (m : Nat) (l pre : List Nat) (v : Nat) : solsOf d bs m l (pre ++ [v]) = solsOf d bs m l pre ++ if fitsB bs (l ++ [v]) then solN d bs m (l ++ [v]) else [] := by
  simp [solsOf, List.flatMap_append]
theorem solsOf_pre (d : List Nat) (bs : List Tb) (m : Nat) (l : List Nat) {p q : List Nat} (h : p <+: q) : solsOf d bs m l p <+: solsOf d bs m l q := by
  obtain ⟨r, rfl⟩ := h
  exact ⟨solsOf d bs m l r, by simp [solsOf, List.flatMap_append]⟩
/-- The book-keeping of a range writes no cells. -/
theorem Bk.fr {lo : Nat} {A B : World} (h : Bk lo A B) : ∃ S : Nat → Prop, Fr S A B ∧ ∀ k, S k → lo ≤ k ∧ ∀ cur e, ¬ Blk A k cur e := by
  obtain ⟨row, hg, hr⟩ := h
  refine ⟨fun k => row = some k, (Fr.refl (fun k => row = some k) A).grown hg (fun k hk => .inl hk), fun k hk => ?_⟩
  obtain ⟨h1, o, ho, hc⟩ := hr k hk
  refine ⟨h1, fun cur e hb => ?_⟩
  have hb' : A.heap[k]? = some (.cells cur e (0, 0)) := hb
  rw [hb'] at ho
  cases ho
  cases hc
theorem GoAt.bk {lo : Nat} {A B : World} {G X : Nat} {ts : List Tab} {rdy : List Value} {lv yv : Value} {l : List Nat} (h : GoAt A G X ts rdy lv yv l) (hb : Bk lo A B) : GoAt B G X ts rdy lv yv l :=
  ⟨h.blk.bk hb, h.len, fun i hi => (h.rdy i hi).bk hb, h.list.bk hb⟩
theorem GoBox.bk {lo : Nat} {A B : World} {b G v : Nat} {r : Bool} (h : GoBox A b G v r) (hb : Bk lo A B) : GoBox B b G v r := ⟨h.b0.bk hb, h.b1.bk hb, h.b2.bk hb⟩
/-- Between two values: what lies in memory. -/
structure GoI (G X : Nat) (s : WS) (L N0 : Nat) (rdy : List Value) (l : List Nat) (C : Nat → Prop) (lv : Value) (W Wr : World) (C' : Nat → Prop) (lv' : Value) (l' : List Nat) : Prop where
  grow : ∀ k, C' k → C k ∨ W.heap.size + 3 ≤ k
  pre : l <+: l'
  at_ : GoAt Wr G X s.ts rdy lv' (.func (.yield L) #[] #[]) l'
  ok : GoPre G X s L N0 rdy lv' C'
  lgrow : ∀ k, lv'.ownBlock = some k → lv.ownBlock = some k ∨ W.heap.size + 3 ≤ k
  fr : Fr (fun k => C k ∨ k = L ∨ k = G ∨ lv.ownBlock = some k) W Wr
  box : GoBox Wr W.heap.size G l.length false
theorem GoI.bk {lo G X L N0 : Nat} {s : WS} {rdy : List Value} {l l' : List Nat} {C C' : Nat → Prop} {lv lv' : Value} {W A B : World} (h : GoI G X s L N0 rdy l C lv W A C' lv' l') (hb : Bk lo A B) (hl : W.heap.size ≤ lo) : GoI G X s L N0 rdy l C lv W B C' lv' l' :=
  ⟨h.grow, h.pre, h.at_.bk hb, h.ok, h.lgrow, h.fr.bk hb hl, h.box.bk hb⟩
theorem KeepsLo.trans {lo : Nat} {A B C : World} (h : KeepsLo lo A B) (k : KeepsLo lo B C) : KeepsLo lo A C := ⟨Nat.le_trans h.size k.size, fun i o hi ho hl => k.same i o hi (h.same i o hi ho hl) hl⟩
/-- A Work, behind what goOn writes. -/
theorem go_wat {G X L N0 : Nat} {zs : List Int} {s : WS} {all : List (List Nat)} {J Jx : List (List Nat) → (Nat → Prop) → World → Prop} {rdy : List Value} {lv yv : Value} {l : List Nat} {done : List (List Nat)} {C : Nat → Prop} {W W' : World} (hS : Sink X zs s L N0 all J Jx) (hJ : J done C W) (hA : WAt W X zs s) (hG : GoAt W G X s.ts rdy lv yv l) (hP : GoPre G X s L N0 rdy lv C)
    (f : Fr (fun k => C k ∨ k = L ∨ k = G ∨ lv.ownBlock = some k) W W') : WAt W' X zs s := by
  refine hA.frN f (fun k hk => ?_) (fun k cur hk hb => ?_)
  · obtain ⟨h1, h2, h3⟩ := hP.own k hk
    have := hP.gN
    rintro (h | h | h | h)
    · exact h3 h
    · exact h2 h
    · omega
    · have := (hP.lN k h).1; omega
  · have hb' : W.heap[k]? = some (.cells cur 154 (0, 0)) := hb
    rcases hk with h | h | h | h
    · obtain ⟨cur', e, hbe, he⟩ := hS.cells _ _ _ _ hJ h
      have h2 : W.heap[k]? = some (.cells cur' e (0, 0)) := hbe
      rw [h2] at hb'
      cases hb'
      exact he rfl
    · subst h
      obtain ⟨r, hr⟩ := hS.lrec _ _ _ hJ
      rw [hr] at hb'
      cases hb'
    · subst h
      have h2 : W.heap[k]? = some (.cells _ 110 (0, 0)) := hG.blk
      rw [h2] at hb'
      cases hb'
    · exact hG.list.ne hb (by decide) h
/-- The result is put down, and the mark of a range is taken. -/
theorem GoI.step {G X L N0 : Nat} {s : WS} {rdy : List Value} {l l' : List Nat} {C C' S : Nat → Prop} {lv lv' : Value} {W A B : World} (h : GoI G X s L N0 rdy l C lv W A C' lv' l') (hN : N0 ≤ W.heap.size) (hG : G < W.heap.size) (hlv : ∀ k, lv.ownBlock = some k → k < W.heap.size) (hC : ∀ k, C k → k < W.heap.size) (hCb : ∀ k, C' k → ∃ cur e, Blk A k cur e ∧ e ≠ 154)
    (f : Fr S A B) (hs : ∀ k, S k → k = W.heap.size + 1 ∨ (W.heap.size + 3 ≤ k ∧ ∀ cur e, ¬ Blk A k cur e)) :
    GoAt B G X s.ts rdy lv' (.func (.yield L) #[] #[]) l' ∧ Fr (fun k => C k ∨ k = L ∨ k = G ∨ lv.ownBlock = some k) W B ∧ ∀ k, S k → N0 ≤ k ∧ ¬ C' k := by
  refine ⟨h.at_.fr f (fun hk => ?_) (fun k hk hk' => ?_) (fun i k hi hk hk' => ?_), h.fr.trans f (fun k hk => ?_), fun k hk => ?_⟩
  · rcases hs _ hk with h1 | ⟨h1, _⟩ <;> omega
  · rcases hs k hk' with h1 | ⟨_, h2⟩
    · rcases h.lgrow k hk with h3 | h3
      · have := hlv k h3; omega
      · omega
    · obtain ⟨cur, hb, _⟩ := h.at_.list.blk hk
      exact h2 _ _ hb
  · rcases hs k hk' with h1 | ⟨_, h2⟩
    · subst h1
      exact (h.at_.rdy i hi).ne h.box.b1 (by decide) hk
    · obtain ⟨cur, hb, _⟩ := (h.at_.rdy i hi).blk hk
      exact h2 _ _ hb
  · rcases hs k hk with h1 | ⟨h1, _⟩ <;> exact .inr (by omega)
  · rcases hs k hk with h1 | ⟨h1, h2⟩
    · refine ⟨by omega, fun hc => ?_⟩
      rcases h.grow k hc with h3 | h3
      · have := hC k h3; omega
      · omega
    · refine ⟨by omega, fun hc => ?_⟩
      obtain ⟨cur, e, hb, _⟩ := hCb k hc
      exact h2 _ _ hb
/-- Q, but False at a panic and where memory runs out. -/
def NoPO (Q : Exit → Act → World → Prop) : Exit → Act → World → Prop
  | .panic _, _, _ => False
  | .outgrown, _, _ => False
  | e, a, w => Q e a w
theorem NoPO.imp {Q : Exit → Act → World → Prop} : ∀ (e : Exit) (a : Act) (w : World), NoPO Q e a w → Q e a w := fun e a w h => by
  cases e <;> first | exact h | exact (h : False).elim
theorem NoPO.normal {Q : Exit → Act → World → Prop} {a : Act} {w : World} (h : Q .normal a w) : NoPO Q .normal a w := h
theorem region_inP {Q : Exit → Act → World → Prop} {ops' : Array Oper} {id lp k : Nat} {a : Act} {w : World} (ops : Array Oper) (n : Nat) (S : World → Prop) (z : Nat) (ho : ops' = ops) (hn : ops.size = n) (hnd : noDefer ops.toList = true)
    (h : wpAnyU Try.prog .any ops (NoPO Q) S z n (Array.replicate n false) a w.drew) : (Code.region id ops' true).wpIn (Fence.wide.inRound lp) k Try.prog Q a w :=
  wpIn_mono (region_inU ops n S z ho hn hnd (fun _ _ h => h) h) NoPO.imp
theorem doneU {P : Program} {ops : Array Oper} {md : Region.Mode} {Q : Exit → Act → World → Prop} {S : World → Prop} {z : Nat} {listed : Array Bool} {a : Act} {w : World} (hr : Region.ready md ops listed = []) (h : Q .normal a w) : ∀ fuel, wpAnyU P md ops Q S z fuel listed a w
  | 0 => ⟨hr, h⟩
  | _ + 1 => ⟨fun _ => h, by rw [hr]; simp⟩
/-- The two operands of the append. -/
def goEv (x y : Value) : Operand → Value
  | .tmp 47 => x
  | .tmp _ => y
  | _ => undef
/-- The element of an array of domains in a Work. -/
theorem exec_idxD {ev : Operand → Value} {o : Oper} {w : World} {X i : Nat} (x y : Operand) (ho : o.op = .indexAddr 76 x y) (hx : ev x = .pointer (some ⟨X, 1, none⟩)) (hy : ev y = .int .i64 (i : Int)) (hi : i < 8) : (execOp ev o).run Try.prog w = .ok (.value (.pointer (some ⟨X, 1 + i, none⟩))) w := by
  unfold execOp
  simp only [ho, hx, hy]
  have hc : i = 0 ∨ i = 1 ∨ i = 2 ∨ i = 3 ∨ i = 4 ∨ i = 5 ∨ i = 6 ∨ i = 7 := by omega
  rcases hc with rfl | rfl | rfl | rfl | rfl | rfl | rfl | rfl <;> (show Sem.run _ _ _ = _; kernel_rfl)
/-- The head of a slice of numbers. -/
theorem exec_head {ev : Operand → Value} {o : Oper} {w : World} {ao : Option Addr} {m cap n : Nat} {xs : List Value} (x y : Operand) (ho : o.op = .slice 22 x none (some y) none) (hx : ev x = .slice ao m cap) (hy : ev y = .int .i64 (n : Int)) (hn : n ≤ cap) (hr : ∃ w', Row w' (.slice ao m cap) 3 xs) : (execOp ev o).run Try.prog w = .ok (.value (.slice ao n cap)) w := by
  obtain ⟨w', hr⟩ := hr
  have h1 := (slice_highI ao m cap n hn w).trans (by rw [hr.sliced0 n])
  unfold execOp
  simp [ho, hx, hy, h1, Result.andThen]

set_option maxHeartbeats 3200000 in
set_option maxRecDepth 1000000 in
theorem goOn_succ (G X : Nat) (zs : List Int) (s : WS) (L N0 : Nat) (all : List (List Nat)) (J Jx : List (List Nat) → (Nat → Prop) → World → Prop) (hS : Sink X zs s L N0 all J Jx) (rdy : List Value) (m : Nat) (ih : GoOk G X zs s L N0 all J Jx rdy m) : GoOk G X zs s L N0 all J Jx rdy (m + 1) := by
  intro l lv done C W hlm hJ hA hG hP hall hin
  obtain ⟨lo, lc, hlf, _⟩ := hG.list.form
  rw [show (ints l).length = l.length from by simp [ints]] at hlf
  subst hlf
  have hz := okSizes_len hA.mem.zok
  have c9 : W.cell? ⟨G, 9, none⟩ = some (.slice lo l.length lc) := (hG.blk.cell 9).trans (goCells_list _ _ _ _ hG.len)
  have hGl := hG.blk.lt
  have hl8 : (l.length : Int) ≤ 8 := by omega
  have HJ := hd hJ
  have HA := hd hA
  have HG := hd hG
  have HP := hd hP
  clear hJ hA hG hP
  refine (callsIn_wide (n := 9)).1 ?_
  refine callsIn_of_wp_marks Try.func59 rfl trivial ?_ rfl
  simp only [Try.ntmps59, List.size_toArray, List.length_cons, List.length_nil, Nat.reduceAdd, Nat.reduceSub, Array.replicate_succ, Array.replicate_zero, List.push_toArray, List.append_toArray, List.nil_append, List.cons_append]
  gi_wp2_with fail
  obtain ⟨W1, hW1⟩ : ∃ W1, W1 = ((W.alloc (.cells #[.pointer (some ⟨G, 0, none⟩)] 123)).alloc (.cells #[.bool false] 4)).alloc (.cells #[.int .i64 (l.length : Int)] 3) := ⟨_, rfl⟩
  have hf1 : Nw W W1 := by rw [hW1]; exact (((Fr.refl _ W).alloc _).alloc _).alloc _
  have hs1 : W1.heap.size = W.heap.size + 3 := by rw [hW1]; simp
  have hbx : GoBox W1 W.heap.size G l.length false := by
    rw [hW1]
    refine ⟨((Blk.new _ _ _).alloc _).alloc _, ?_, ?_⟩
    · have := (Blk.new (W.alloc (.cells #[.pointer (some ⟨G, 0, none⟩)] 123)) #[.bool false] 4).alloc (.cells #[.int .i64 (l.length : Int)] 3)
      simpa using this
    · have := Blk.new ((W.alloc (.cells #[.pointer (some ⟨G, 0, none⟩)] 123)).alloc (.cells #[.bool false] 4)) #[.int .i64 (l.length : Int)] 3
      simpa using this
  rw [← hW1]
  have HW1 := hd hW1
  clear hW1
  obtain ⟨so', sc, hszv, _⟩ := HA.out.mem.sz.form
  rw [List.length_map] at hszv
  have hK0 : GoBox W1.drew W.heap.size G l.length false ∧ Blk W1.drew G (goCells X rdy (.slice lo l.length lc) (.func (.yield L) #[] #[])) 110 ∧ Blk W1.drew X (workCells s.szv s.d (.slice s.so s.ts.length s.tcap) s.l) 82 :=
    ⟨hbx.fr ((Fr.refl (fun _ => False) W1).drew) (fun k h => h.elim), (HG.out.blk.nw hf1).drew, (HA.out.mem.blk.nw hf1).drew⟩
  refine region_I goReg2 10 (fun w'' => GoBox w'' W.heap.size G l.length false ∧ Blk w'' G (goCells X rdy (.slice lo l.length lc) (.func (.yield L) #[] #[])) 110 ∧ Blk w'' X (workCells s.szv s.d (.slice s.so s.ts.length s.tcap) s.l) 82) (by kernel_rfl) (by kernel_rfl) (by kernel_rfl) ?_
  refine takeI_at (i := 0) (d := some 10) (v := .int .i64 (l.length : Int)) (by kernel_rfl) (by kernel_rfl) (fun _ _ _ h => h) (fun w'' hS => exec_load 3 (.tmp 3) (by kernel_rfl) (by kernel_rfl) (by kernel_rfl) (hS.1.b2.cell 0)) hK0 ?_
  refine takeI_at (i := 1) (d := some 11) (v := .pointer (some ⟨G, 0, none⟩)) (by kernel_rfl) (by kernel_rfl) (fun _ _ _ h => h) (fun w'' hS => exec_load 123 (.tmp 1) (by kernel_rfl) (by kernel_rfl) (by kernel_rfl) (hS.1.b0.cell 0)) hK0 ?_
  refine takeI_at (i := 2) (d := some 12) (v := .pointer (some ⟨G, 0, none⟩)) (by kernel_rfl) (by kernel_rfl) (fun _ _ _ h => h) (fun w'' hS => by kernel_rfl) hK0 ?_
  refine takeI_at (i := 3) (d := some 13) (v := .pointer (some ⟨G, 0, none⟩)) (by kernel_rfl) (by kernel_rfl) (fun _ _ _ h => h) (fun w'' hS => by kernel_rfl) hK0 ?_
  refine takeI_at (i := 4) (d := some 14) (v := .pointer (some ⟨X, 0, none⟩)) (by kernel_rfl) (by kernel_rfl) (fun _ _ _ h => h) (fun w'' hS => exec_load 36 (.tmp 13) (by kernel_rfl) (by kernel_rfl) (by kernel_rfl) (hS.2.1.cell 0)) hK0 ?_
  refine takeI_at (i := 5) (d := some 15) (v := .pointer (some ⟨X, 0, none⟩)) (by kernel_rfl) (by kernel_rfl) (fun _ _ _ h => h) (fun w'' hS => by kernel_rfl) hK0 ?_
  refine takeI_at (i := 6) (d := some 16) (v := .pointer (some ⟨X, 0, none⟩)) (by kernel_rfl) (by kernel_rfl) (fun _ _ _ h => h) (fun w'' hS => by kernel_rfl) hK0 ?_
  refine takeI_at (i := 7) (d := some 17) (v := .slice so' zs.length sc) (by kernel_rfl) (by kernel_rfl) (fun _ _ _ h => h) (fun w'' hS => exec_load 22 (.tmp 16) (by kernel_rfl) (by kernel_rfl) (by kernel_rfl) ((hS.2.2.cell 0).trans ((workCells_sz ..).trans (by rw [hszv])))) hK0 ?_
  refine takeI_at (i := 8) (d := some 18) (v := .int .i64 (zs.length : Int)) (by kernel_rfl) (by kernel_rfl) (fun _ _ _ h => h) (fun w'' hS => by kernel_rfl) hK0 ?_
  refine takeI_at (i := 9) (d := some 19) (v := .bool false) (by kernel_rfl) (by kernel_rfl) (fun _ _ _ h => h) (fun w'' hS => exec_eqI (l.length : Int) (zs.length : Int) false (.tmp 10) (.tmp 18) (by kernel_rfl) (by kernel_rfl) (by kernel_rfl) (by rw [beq_eq_false_iff_ne]; omega)) hK0 ?_
  refine doneI (by kernel_rfl) (NoPanic.normal ?_) _
  simp only [Act.put, List.setIfInBounds_toArray, List.set_cons_zero, List.set_cons_succ]
  clear hK0
  gi_wp2_with fail
  have hK0 : GoBox W1.drew.drew W.heap.size G l.length false ∧ Blk W1.drew.drew G (goCells X rdy (.slice lo l.length lc) (.func (.yield L) #[] #[])) 110 ∧ Blk W1.drew.drew X (workCells s.szv s.d (.slice s.so s.ts.length s.tcap) s.l) 82 :=
    ⟨hbx.fr ((Fr.refl (fun _ => False) W1).drew.drew) (fun k h => h.elim), (HG.out.blk.nw hf1).drew.drew, (HA.out.mem.blk.nw hf1).drew.drew⟩
  have hd8 : s.d.length = 8 := HA.out.good.dm.len
  refine region_I goReg4 10 (fun w'' => GoBox w'' W.heap.size G l.length false ∧ Blk w'' G (goCells X rdy (.slice lo l.length lc) (.func (.yield L) #[] #[])) 110 ∧ Blk w'' X (workCells s.szv s.d (.slice s.so s.ts.length s.tcap) s.l) 82) (by kernel_rfl) (by kernel_rfl) (by kernel_rfl) ?_
  refine takeI_at (i := 0) (d := some 30) (v := .pointer (some ⟨G, 0, none⟩)) (by kernel_rfl) (by kernel_rfl) (fun _ _ _ h => h) (fun w'' hS => exec_load 123 (.tmp 1) (by kernel_rfl) (by kernel_rfl) (by kernel_rfl) (hS.1.b0.cell 0)) hK0 ?_
  refine takeI_at (i := 1) (d := some 31) (v := .pointer (some ⟨G, 0, none⟩)) (by kernel_rfl) (by kernel_rfl) (fun _ _ _ h => h) (fun w'' hS => by kernel_rfl) hK0 ?_
  refine takeI_at (i := 2) (d := some 32) (v := .pointer (some ⟨G, 0, none⟩)) (by kernel_rfl) (by kernel_rfl) (fun _ _ _ h => h) (fun w'' hS => by kernel_rfl) hK0 ?_
  refine takeI_at (i := 3) (d := some 33) (v := .pointer (some ⟨X, 0, none⟩)) (by kernel_rfl) (by kernel_rfl) (fun _ _ _ h => h) (fun w'' hS => exec_load 36 (.tmp 32) (by kernel_rfl) (by kernel_rfl) (by kernel_rfl) (hS.2.1.cell 0)) hK0 ?_
  refine takeI_at (i := 4) (d := some 34) (v := .int .i64 (l.length : Int)) (by kernel_rfl) (by kernel_rfl) (fun _ _ _ h => h) (fun w'' hS => exec_load 3 (.tmp 3) (by kernel_rfl) (by kernel_rfl) (by kernel_rfl) (hS.1.b2.cell 0)) hK0 ?_
  refine takeI_at (i := 5) (d := some 35) (v := .pointer (some ⟨X, 0, none⟩)) (by kernel_rfl) (by kernel_rfl) (fun _ _ _ h => h) (fun w'' hS => by kernel_rfl) hK0 ?_
  refine takeI_at (i := 6) (d := some 36) (v := .pointer (some ⟨X, 1, none⟩)) (by kernel_rfl) (by kernel_rfl) (fun _ _ _ h => h) (fun w'' hS => by kernel_rfl) hK0 ?_
  refine takeI_at (i := 7) (d := some 37) (v := .pointer (some ⟨X, 1 + l.length, none⟩)) (by kernel_rfl) (by kernel_rfl) (fun _ _ _ h => h) (fun w'' hS => exec_idxD (.tmp 36) (.tmp 34) (by kernel_rfl) (by kernel_rfl) (by kernel_rfl) (by omega)) hK0 ?_
  refine takeI_at (i := 8) (d := some 38) (v := .int .u8 ((s.d.getD l.length 0 : Nat) : Int)) (by kernel_rfl) (by kernel_rfl) (fun _ _ _ h => h) (fun w'' hS => exec_load 74 (.tmp 37) (by kernel_rfl) (by kernel_rfl) (by kernel_rfl) ((hS.2.2.cell (1 + l.length)).trans (workCells_dom _ _ _ _ _ (by omega)))) hK0 ?_
  refine takeI_at (i := 9) (d := some 39) (v := .func (.func 60) #[.int .u8 ((s.d.getD l.length 0 : Nat) : Int)] #[]) (by kernel_rfl) (by kernel_rfl) (fun _ _ _ h => h) (fun w'' hS => by kernel_rfl) hK0 ?_
  refine doneI (by kernel_rfl) (NoPanic.normal ?_) _
  simp only [Act.put, List.setIfInBounds_toArray, List.set_cons_zero, List.set_cons_succ]
  clear hK0
  gi_wp2_with fail
  have hs2 : W1.drew.drew.heap.size = W.heap.size + 3 := hs1
  have hf2 : Nw W W1.drew.drew := hf1.drew.drew
  have hGN := HP.out.gN
  have hLN := HP.out.LN
  have hCl : ∀ k, C k → k < W.heap.size := fun k hk => by
    obtain ⟨cur, e, hb, _⟩ := hS.cells _ _ _ _ HJ.out hk
    exact hb.lt
  have hd64 : s.d.getD l.length 0 < 64 := HA.out.good.dm.lt _
  have hJbk : ∀ (JJ : List (List Nat) → (Nat → Prop) → World → Prop) dn C' A B, (∀ done C S A B, JJ done C A → Fr S A B → (∀ k, S k → N0 ≤ k ∧ ¬ C k) → JJ done C B) → (∀ done C A k, JJ done C A → C k → ∃ cur e, Blk A k cur e ∧ e ≠ 154) → JJ dn C' A → Bk W1.drew.drew.heap.size A B → JJ dn C' B := fun JJ dn C' A B h1 h2 h3 hb => by
    obtain ⟨S, hf, hk⟩ := hb.fr
    refine h1 _ _ _ _ _ h3 hf (fun k hk' => ⟨?_, fun hc => ?_⟩)
    · have := (hk k hk').1
      omega
    · obtain ⟨cur, e, hb', _⟩ := h2 _ _ _ _ h3 hc
      exact (hk k hk').2 cur e hb'
  have hG1 := HG.out.fr hf2 (fun h => h) (fun _ _ h => h) (fun _ _ _ _ h => h)
  have HG1 := hd hG1
  clear hG1
  obtain ⟨W2, hW2⟩ : ∃ W2, W1.drew.drew = W2 := ⟨_, rfl⟩
  have hbx2 : GoBox W2 W.heap.size G l.length false := by rw [← hW2]; exact hbx.fr ((Fr.refl (fun _ => False) W1).drew.drew) (fun k h => h.elim)
  rw [hW2] at hs2 hf2 hJbk HG1 ⊢
  have hI0 : GoI G X s L N0 rdy l C (.slice lo l.length lc) W W2 C (.slice lo l.length lc) l := ⟨fun k h => .inl h, List.prefix_refl _, HG1.out, HP.out, fun k h => .inl h, hf2.mono (fun i h => h.elim), hbx2⟩
  have HI0 := hd hI0
  clear hI0 hbx hf1 hbx2
  refine wp_each2 (s := s.d.getD l.length 0) (by omega) rfl (by simp) (fun pre A => ∃ C' lv' l', GoI G X s L N0 rdy l C (.slice lo l.length lc) W A C' lv' l' ∧ J (done ++ solsOf s.d s.bs m l pre) C' A)
    (fun pre A => ∃ C' lv' l', GoI G X s L N0 rdy l C (.slice lo l.length lc) W A C' lv' l' ∧ ∃ p x, (p ++ [x]) <+: solN s.d s.bs (m + 1) l ∧ Jx (done ++ p ++ [x]) C' A)
    (fun pre A B h hb => ?bk) (fun pre A B h hb => ?bkx) ⟨C, _, l, HI0.out, ?j0⟩ ?round ?done ?stop
  case bk =>
    obtain ⟨C', lv', l', h1, h2⟩ := h
    exact ⟨C', lv', l', h1.bk hb (by omega), hJbk J _ _ _ _ hS.st hS.cells h2 hb⟩
  case bkx =>
    obtain ⟨C', lv', l', h1, p, x, h2, h3⟩ := h
    exact ⟨C', lv', l', h1.bk hb (by omega), p, x, h2, hJbk Jx _ _ _ _ hS.stx hS.cellsx h3 hb⟩
  case j0 => simpa [solsOf] using hS.st _ _ _ _ _ HJ.out hf2 (fun k h => h.elim)
  case round =>
    rintro lp pre v Wr hpre ⟨C', lv', l', hI, hJr⟩
    obtain ⟨lo', lc', hlf', _⟩ := hI.at_.list.form
    rw [show (ints l').length = l'.length from by simp [ints]] at hlf'
    subst hlf'
    have hll := hI.pre.length_le
    have hcap : l'.length ≤ lc' := by
      have := hI.at_.list.capG
      simpa [ints] using this
    have HI := hd hI
    have HJr := hd hJr
    clear hI hJr
    simp only [List.setIfInBounds_toArray, List.set_cons_zero, List.set_cons_succ]
    gi_wp2_with fail
    have hK0 : GoBox Wr.drew W.heap.size G l.length false ∧ Blk Wr.drew G (goCells X rdy (.slice lo' l'.length lc') (.func (.yield L) #[] #[])) 110 := ⟨HI.out.box.fr ((Fr.refl (fun _ => False) Wr).drew) (fun k h => h.elim), HI.out.at_.blk.drew⟩
    refine region_inP goReg6 13 (fun w'' => GoBox w'' W.heap.size G l.length false ∧ Blk w'' G (goCells X rdy (.slice lo' l'.length lc') (.func (.yield L) #[] #[])) 110) 12 (by kernel_rfl) (by kernel_rfl) (by kernel_rfl) ?_
    refine takeU_at (i := 0) (d := some 41) (v := .pointer (some ⟨G, 0, none⟩)) (by kernel_rfl) (by kernel_rfl) (fun _ _ _ h => h) (fun w'' hS => exec_load 123 (.tmp 1) (by kernel_rfl) (by kernel_rfl) (by kernel_rfl) (hS.1.b0.cell 0)) hK0 ?_
    refine takeU_at (i := 1) (d := some 42) (v := .pointer (some ⟨G, 0, none⟩)) (by kernel_rfl) (by kernel_rfl) (fun _ _ _ h => h) (fun w'' hS => exec_load 123 (.tmp 1) (by kernel_rfl) (by kernel_rfl) (by kernel_rfl) (hS.1.b0.cell 0)) hK0 ?_
    refine takeU_at (i := 2) (d := some 43) (v := .pointer (some ⟨G, 0, none⟩)) (by kernel_rfl) (by kernel_rfl) (fun _ _ _ h => h) (fun w'' hS => by kernel_rfl) hK0 ?_
    refine takeU_at (i := 3) (d := some 44) (v := .pointer (some ⟨G, 9, none⟩)) (by kernel_rfl) (by kernel_rfl) (fun _ _ _ h => h) (fun w'' hS => by kernel_rfl) hK0 ?_
    refine takeU_at (i := 4) (d := some 45) (v := .slice lo' l'.length lc') (by kernel_rfl) (by kernel_rfl) (fun _ _ _ h => h) (fun w'' hS => exec_load 22 (.tmp 44) (by kernel_rfl) (by kernel_rfl) (by kernel_rfl) ((hS.2.cell 9).trans (goCells_list _ _ _ _ HI.out.at_.len))) hK0 ?_
    refine takeU_at (i := 5) (d := some 46) (v := .int .i64 (l.length : Int)) (by kernel_rfl) (by kernel_rfl) (fun _ _ _ h => h) (fun w'' hS => exec_load 3 (.tmp 3) (by kernel_rfl) (by kernel_rfl) (by kernel_rfl) (hS.1.b2.cell 0)) hK0 ?_
    refine takeU_at (i := 6) (d := some 47) (v := .slice lo' l.length lc') (by kernel_rfl) (by kernel_rfl) (fun _ _ _ h => h) (fun w'' hS => exec_head (.tmp 45) (.tmp 46) (by kernel_rfl) (by kernel_rfl) (by kernel_rfl) (by omega) ⟨Wr, HI.out.at_.list⟩) hK0 ?_
    refine takeU_at (i := 7) (d := some 48) (v := .int .i64 (v : Int)) (by kernel_rfl) (by kernel_rfl) (fun _ _ _ h => h) (fun w'' hS => by kernel_rfl) hK0 ?_
    have hfa : Nw Wr (Wr.drew.alloc (.cells #[.int .i64 (v : Int)] 3)) := ((Fr.refl _ Wr).drew).alloc _
    obtain ⟨Wa, hWa⟩ : ∃ Wa, Wr.drew.alloc (.cells #[.int .i64 (v : Int)] 3) = Wa := ⟨_, rfl⟩
    have hba : Blk Wa Wr.heap.size #[.int .i64 (v : Int)] 3 := by rw [← hWa]; exact Blk.new _ _ _
    rw [hWa] at hfa
    have hKa : GoBox Wa W.heap.size G l.length false ∧ Blk Wa G (goCells X rdy (.slice lo' l'.length lc') (.func (.yield L) #[] #[])) 110 := ⟨HI.out.box.fr hfa (fun k h => h.elim), HI.out.at_.blk.nw hfa⟩
    refine valueU_at (i := 8) (d := some 49) (v := .slice (some ⟨Wr.heap.size, 0, none⟩) 1 1) (w' := Wa) (by kernel_rfl) (by kernel_rfl) (by rw [← hWa]; kernel_rfl) (fun _ => hKa) ?_
    obtain ⟨i0, hi0, hz0, hz1, hz2⟩ := info_parts Try.infoInt
    have hrow : Row Wa (.slice lo' l.length lc') 3 (ints l) := by
      have h1 := (HI.out.at_.list.nw hfa).take l.length (by simpa [ints] using hll)
      have h2 : (ints l').take l.length = ints l := by
        obtain ⟨r, rfl⟩ := HI.out.pre
        simp [ints]
      rw [h2] at h1
      exact h1
    obtain ⟨v', Wb, hrun, hA1, hA2, hA3⟩ := exec_append1 (c := 1) (ev := goEv (.slice lo' l.length lc') (.slice (some ⟨Wr.heap.size, 0, none⟩) 1 1)) (o := opAt goReg6 9) (w := Wa) 8 (.tmp 47) (.tmp 49) 22 (by kernel_rfl) (by kernel_rfl) (by kernel_rfl) Try.underlying22 hi0 hz0 hz1 hz2 rfl hrow (hba.cell 0) rfl (by simp [ints]; unfold maxLen; omega) (by simp [ints]; omega)
    obtain ⟨g', cap', rfl, hrb, hfb, hab, hltb⟩ := app1' hA1 hA2 hA3
    rw [show (ints l).length = l.length from by simp [ints]] at hrb hrun
    have hIl := HI.out.lgrow
    have hsame : (Value.slice lo' l.length lc').ownBlock = (Value.slice lo' l'.length lc').ownBlock := by cases lo' <;> rfl
    rw [hsame] at hfb hab
    have hCr : ∀ k, C' k → k < Wr.heap.size ∧ ∃ cur e, Blk Wr k cur e ∧ e ≠ 154 := fun k hk => by
      obtain ⟨cur, e, hb, he⟩ := hS.cells _ _ _ _ HJr.out hk
      exact ⟨hb.lt, cur, e, hb, he⟩
    have hsr : W.heap.size + 3 ≤ Wr.heap.size := by have := HI.out.box.b2.lt; omega
    have hnlB : ∀ k, (Value.slice lo' l'.length lc').ownBlock = some k → k < W.heap.size ∨ W.heap.size + 2 < k := fun k hk => by
      rcases hIl k hk with h | h
      · have := HG.out.list.lt h; omega
      · omega
    have hnlG : (Value.slice lo' l'.length lc').ownBlock ≠ some G := HI.out.at_.list.ne HI.out.at_.blk (by decide)
    have hKb : GoBox Wb W.heap.size G l.length false ∧ Blk Wb G (goCells X rdy (.slice lo' l'.length lc') (.func (.yield L) #[] #[])) 110 := ⟨hKa.1.fr hfb (fun k h => hnlB k h), hKa.2.fr hfb hnlG⟩
    refine valueU_at (i := 9) (d := some 50) (v := .slice (some ⟨g', 0, none⟩) (l.length + 1) cap') (w' := Wb) (by kernel_rfl) (by kernel_rfl) (Eq.trans (exec_same (s := .tmp 47) (y := .tmp 49) (t := 22) (by kernel_rfl) (by kernel_rfl)) hrun) (fun _ => hKb) ?_
    refine valueU_at (i := 10) (d := some 51) (v := .pointer (some ⟨G, 0, none⟩)) (w' := Wb) (by kernel_rfl) (by kernel_rfl) (by kernel_rfl) (fun _ => hKb) ?_
    refine valueU_at (i := 11) (d := some 52) (v := .pointer (some ⟨G, 9, none⟩)) (w' := Wb) (by kernel_rfl) (by kernel_rfl) (by kernel_rfl) (fun _ => hKb) ?_
    refine skipU_at (i := 12) (d := none) (w' := Wb.setCell ⟨G, 9, none⟩ (.slice (some ⟨g', 0, none⟩) (l.length + 1) cap')) (by kernel_rfl) (by kernel_rfl) (exec_storeU (old := .slice lo' l'.length lc') 22 (.tmp 52) (.tmp 50) (by kernel_rfl) (by kernel_rfl) (by kernel_rfl) rfl (by kernel_rfl) ((hKb.2.cell 9).trans (goCells_list _ _ _ _ HI.out.at_.len)) (hKb.2.free 9)) (fun h => absurd rfl h) ?_
    refine doneU (by kernel_rfl) (show _ from ?_) _
    simp only [Act.put, List.setIfInBounds_toArray, List.set_cons_zero, List.set_cons_succ]
    have hf5 : Fr (fun k => k = G ∨ (Value.slice lo' l'.length lc').ownBlock = some k) Wr (Wb.setCell ⟨G, 9, none⟩ (.slice (some ⟨g', 0, none⟩) (l.length + 1) cap')) := ((hfa.mono (fun i h => h.elim)).trans hfb (fun i h => .inl (.inr h))).setCell _ _ (.inl (.inl rfl))
    obtain ⟨W5, hW5⟩ : ∃ W5, Wb.setCell ⟨G, 9, none⟩ (.slice (some ⟨g', 0, none⟩) (l.length + 1) cap') = W5 := ⟨_, rfl⟩
    have hbG : Blk W5 G (goCells X rdy (.slice (some ⟨g', 0, none⟩) (l.length + 1) cap') (.func (.yield L) #[] #[])) 110 := by
      rw [← hW5, ← goCells_setList X rdy (.slice lo' l'.length lc') (.func (.yield L) #[] #[]) _ HI.out.at_.len]
      exact hKb.2.set 9 _
    have hgG : g' ≠ G := fun e => by
      subst e
      rcases hab with h | h
      · exact hnlG h
      · have := hKa.2.lt; omega
    have hrow5 : Row W5 (.slice (some ⟨g', 0, none⟩) (l.length + 1) cap') 3 (ints (l ++ [v])) := by
      have h1 : ints (l ++ [v]) = ints l ++ [.int .i64 (v : Int)] := by simp [ints]
      rw [h1, ← hW5]
      exact hrb.fr ((Fr.refl (fun k => k = G) Wb).setCell ⟨G, 9, none⟩ _ (.inl rfl)) (fun k hk e => by cases hk; exact hgG e)
    rw [hW5] at hf5 ⊢
    have hrdyN : ∀ i k, i < 8 → (rdy.getD i undef).ownBlock = some k → ¬ (k = G ∨ (Value.slice lo' l'.length lc').ownBlock = some k) := fun i k hi hk h => by
      rcases h with h | h
      · subst h
        exact (HI.out.at_.rdy i hi).ne HI.out.at_.blk (by decide) hk
      · exact HI.out.at_.list.ne_row (HI.out.at_.rdy i hi) (by decide) h hk
    have hG5 : GoAt W5 G X s.ts rdy (.slice (some ⟨g', 0, none⟩) (l.length + 1) cap') (.func (.yield L) #[] #[]) (l ++ [v]) := ⟨hbG, HI.out.at_.len, fun i hi => (HI.out.at_.rdy i hi).fr hf5 (fun k hk => hrdyN i k hi hk), hrow5⟩
    have hlg5 : ∀ k, (Value.slice (some ⟨g', 0, none⟩) (l.length + 1) cap').ownBlock = some k → k = g' := fun k hk => by cases hk; rfl
    have hsa := hfa.size
    have hP5 : GoPre G X s L N0 rdy (.slice (some ⟨g', 0, none⟩) (l.length + 1) cap') C' := by
      refine ⟨HI.out.ok.gN, HI.out.ok.gC, fun k hk => ?_, HI.out.ok.rN, HI.out.ok.LN, HI.out.ok.own⟩
      obtain rfl := hlg5 k hk
      rcases hab with h | h
      · exact HI.out.ok.lN _ h
      · exact ⟨by omega, fun hc => by have := (hCr _ hc).1; omega⟩
    have hbx5 : GoBox W5 W.heap.size G l.length false := HI.out.box.fr hf5 (fun k h => by
      rcases h with h | h
      · subst h; have := HG.out.blk.lt; omega
      · exact hnlB k h)
    have hJ5 : J (done ++ solsOf s.d s.bs m l pre) C' W5 := hS.st _ _ _ _ _ HJr.out hf5 (fun k h => by
      rcases h with h | h
      · subst h; exact ⟨HI.out.ok.gN, HI.out.ok.gC⟩
      · exact HI.out.ok.lN k h)
    have hfW5 : Fr (fun k => C k ∨ k = L ∨ k = G ∨ (Value.slice lo l.length lc).ownBlock = some k) W W5 := HI.out.fr.trans hf5 (fun i h => by
      rcases h with h | h
      · exact .inl (.inr (.inr (.inl h)))
      · rcases hIl i h with h | h
        · exact .inl (.inr (.inr (.inr h)))
        · exact .inr (by omega))
    have hA5 : WAt W5 X zs s := go_wat hS HJ.out HA.out HG.out HP.out hfW5
    have hI5 : GoI G X s L N0 rdy l C (.slice lo l.length lc) W W5 C' (.slice (some ⟨g', 0, none⟩) (l.length + 1) cap') (l ++ [v]) := by
      refine ⟨HI.out.grow, List.prefix_append _ _, hG5, hP5, fun k hk => ?_, hfW5, hbx5⟩
      obtain rfl := hlg5 k hk
      rcases hab with h | h
      · exact hIl _ h
      · exact .inr (by omega)
    have hvm : v ∈ vals (s.d.getD l.length 0) := hpre.subset (by simp)
    have hin5 : ∀ q, q < (l ++ [v]).length → (s.d.getD q 0).testBit ((l ++ [v]).getD q 0) = true := fun q hq => by
      rw [List.length_append, List.length_singleton] at hq
      by_cases h : q < l.length
      · have : (l ++ [v]).getD q 0 = l.getD q 0 := by simp [List.getD, List.getElem?_append_left h]
        rw [this]
        exact hin q h
      · obtain rfl : q = l.length := by omega
        have : (l ++ [v]).getD l.length 0 = v := by simp [List.getD]
        rw [this]
        exact (vals_mem hd64).1 hvm
    have hk5 : KeepsLo W2.heap.size Wr W5 := hf5.keepsLo (fun k h => by
      rcases h with h | h
      · subst h; exact .inr ⟨_, _, HI.out.at_.blk⟩
      · obtain ⟨cur, hb, _⟩ := HI.out.at_.list.blk h
        exact .inr ⟨_, _, hb⟩)
    have hfits := fits_any G X zs s rdy _ _ (l ++ [v]) W5 hA5 hG5 (by simp) (by simp; omega) hin5
    have hc0 : W5.cell? ⟨W.heap.size, 0, none⟩ = some (.pointer (some ⟨G, 0, none⟩)) := hbx5.b0.cell 0
    have Hfits := hd hfits
    have HI5 := hd hI5
    have HJ5 := hd hJ5
    have HA5 := hd hA5
    have Hin5 := hd hin5
    have Hk5 := hd hk5
    have HCr := hd hCr
    have Hf5 := hd hf5
    have HKb := hd hKb
    have HKa := hd hKa
    clear hfits hI5 hJ5 hA5 hin5 hk5 hG5 hP5 hbx5 hfW5 hf5 hrow5 hbG hKb hKa hK0 hCr hA1 hA2 hA3 hrun hrow hba hrb hfb hab hlg5 hrdyN hnlB hnlG hIl hfa hWa hW5 hvm hsame
    refine NoPO.normal ?_
    gi_wp2_with fail
    refine ⟨trivial, ?_⟩
    refine (CallsIn.inRound lp (callsIn_wide.2 Hfits.out)).mono ?_
    clear Hfits
    rintro e w' ⟨rfl, n5, rfl⟩
    have hc1 : (W5.drewN n5).cell? ⟨W.heap.size, 0, none⟩ = some (.pointer (some ⟨G, 0, none⟩)) := hc0
    have hfd : Fr (fun _ => False) W5 (W5.drewN n5) := (Fr.refl _ W5).drewN n5
    obtain ⟨fb, hfb⟩ : ∃ fb, fitsB s.bs (l ++ [v]) = fb := ⟨_, rfl⟩
    rw [hfb]
    have Hfb := hd hfb
    clear hfb
    cases fb with
    | false =>
      gi_wp2_with fail
      refine ⟨trivial, ?_⟩
      gi_wp2_with fail
      refine ⟨⟨Hk5.out.size, Hk5.out.same⟩, C', .slice (some ⟨g', 0, none⟩) (l.length + 1) cap', l ++ [v], ?_, ?_⟩
      · exact ⟨HI5.out.grow, HI5.out.pre, HI5.out.at_.fr hfd (fun h => h) (fun _ _ h => h) (fun _ _ _ _ h => h), HI5.out.ok, HI5.out.lgrow, HI5.out.fr.drewN n5, HI5.out.box.fr hfd (fun k h => h.elim)⟩
      · rw [solsOf_app, Hfb.out]
        simpa using hS.st _ _ _ _ _ HJ5.out hfd (fun k h => h.elim)
    | true =>
      gi_wp2_with fail
      refine ⟨trivial, ?_⟩
      have hpa : done ++ solsOf s.d s.bs m l pre ++ solN s.d s.bs m (l ++ [v]) <+: all := by
        have h1 := solsOf_pre s.d s.bs m l hpre
        rw [solsOf_app, Hfb.out, if_pos rfl] at h1
        have h2 : solsOf s.d s.bs m l (vals (s.d.getD l.length 0)) = solN s.d s.bs (m + 1) l := rfl
        rw [h2] at h1
        obtain ⟨r, hr⟩ := h1
        refine List.IsPrefix.trans ⟨r, ?_⟩ hall
        rw [List.append_assoc, List.append_assoc, ← hr]
        simp
      have hcall := ih (l ++ [v]) _ (done ++ solsOf s.d s.bs m l pre) C' (W5.drewN n5) (by simp; omega) (hS.st _ _ _ _ _ HJ5.out hfd (fun k h => h.elim)) (HA5.out.nw hfd) (HI5.out.at_.fr hfd (fun h => h) (fun _ _ h => h) (fun _ _ _ _ h => h)) HI5.out.ok hpa Hin5.out
      refine (CallsIn.inRound lp (callsIn_wide.2 hcall)).mono ?_
      clear hcall
      rintro e W6 ⟨C6, lv6, l6, hg6, hp6, hG6, hP6, hl6, hf6, hcase⟩
      have hGW := HG.out.blk.lt
      have hs5 : W.heap.size + 3 ≤ W5.heap.size := by have := HI5.out.box.b2.lt; omega
      have hI6 : GoI G X s L N0 rdy l C (.slice lo l.length lc) W W6 C6 lv6 l6 := by
        refine ⟨fun k hk => ?_, (List.prefix_append _ _).trans hp6, hG6, hP6, fun k hk => ?_, (HI5.out.fr.drewN n5).trans hf6 ?_, (HI5.out.box.fr hfd (fun k h => h.elim)).fr hf6 ?_⟩
        · rcases hg6 k hk with h | h
          · exact HI5.out.grow k h
          · exact .inr (Nat.le_trans hs5 h)
        · rcases hl6 k hk with h | h
          · exact HI5.out.lgrow k h
          · exact .inr (Nat.le_trans hs5 h)
        · rintro k (h | h | h | h)
          · rcases HI5.out.grow k h with h | h
            · exact .inl (.inl h)
            · exact .inr (by omega)
          · exact .inl (.inr (.inl h))
          · exact .inl (.inr (.inr (.inl h)))
          · rcases HI5.out.lgrow k h with h | h
            · exact .inl (.inr (.inr (.inr h)))
            · exact .inr (by omega)
        · rintro k (h | h | h | h)
          · rcases HI5.out.grow k h with h | h
            · have := hCl k h; omega
            · omega
          · omega
          · omega
          · rcases HI5.out.lgrow k h with h | h
            · have := HG.out.list.lt h; omega
            · omega
      have hk6 : KeepsLo W2.heap.size Wr W6 := Hk5.out.trans (KeepsLo.trans (hfd.keepsLo (fun k h => h.elim)) (hf6.keepsLo (fun k h => by
        rcases h with h | h | h | h
        · obtain ⟨cur, e, hb, _⟩ := hS.cells _ _ _ _ HJ5.out h
          exact .inr ⟨cur, e, hb⟩
        · exact .inl (by omega)
        · subst h; exact .inr ⟨_, _, HI5.out.at_.blk⟩
        · obtain ⟨cur, hb, _⟩ := HI5.out.at_.list.blk h
          exact .inr ⟨_, _, hb⟩)))
      have HI6 := hd hI6
      have Hk6 := hd hk6
      clear hI6 hk6 hg6 hl6 hf6 hG6 hP6 hp6
      have hb1 : W6.cell? ⟨W.heap.size + 1, 0, none⟩ = some (.bool false) := HI6.out.box.b1.cell 0
      have hb1f := HI6.out.box.b1.free 0
      rcases hcase with ⟨rfl, hJ6⟩ | ⟨rfl, p, x, hpx, hJ6⟩
      · have HJ6 := hd hJ6
        clear hJ6
        gi_wp2_with fail
        refine ⟨Hk6.out, C6, lv6, l6, HI6.out, ?_⟩
        rw [solsOf_app, Hfb.out, if_pos rfl, ← List.append_assoc]
        exact HJ6.out
      · have HJ6 := hd hJ6
        clear hJ6
        gi_wp2_with fail
        have hf7 : Fr (fun k => k = W.heap.size + 1) W6 (W6.setCell ⟨W.heap.size + 1, 0, none⟩ (.bool false)) := (Fr.refl _ W6).setCell _ _ (.inl rfl)
        obtain ⟨h71, h72, h73⟩ := HI6.out.step (by omega) hGW (fun k hk => HG.out.list.lt hk) hCl (fun k hk => hS.cellsx _ _ _ _ HJ6.out hk) hf7 (fun k h => .inl h)
        refine ⟨Hk6.out.trans (hf7.keepsLo (fun k h => by subst h; exact .inr ⟨_, _, HI6.out.box.b1⟩)), C6, lv6, l6, ⟨HI6.out.grow, HI6.out.pre, h71, HI6.out.ok, HI6.out.lgrow, h72, ?_⟩, solsOf s.d s.bs m l pre ++ p, x, ?_, ?_⟩
        · exact ⟨HI6.out.box.b0.fr hf7 (by omega), HI6.out.box.b1.set 0 _, HI6.out.box.b2.fr hf7 (by omega)⟩
        · have h1 := solsOf_pre s.d s.bs m l hpre
          rw [solsOf_app, Hfb.out, if_pos rfl] at h1
          refine List.IsPrefix.trans ?_ h1
          rw [List.append_assoc]
          exact (List.prefix_append_right_inj _).2 hpx
        · have h1 := hS.stx _ _ _ _ _ HJ6.out hf7 h73
          simpa [List.append_assoc] using h1
  case done =>
    rintro D Wd hD ⟨C', lv', l', hI, hJd⟩ hK
    have hGW := HG.out.blk.lt
    have hb1 : Wd.cell? ⟨W.heap.size + 1, 0, none⟩ = some (.bool false) := hI.box.b1.cell 0
    have hb1f := hI.box.b1.free 0
    have HI := hd hI
    have HJd := hd hJd
    clear hI hJd
    gi_wp2_with fail
    have hbd : Blk (Wd.setCell ⟨W.heap.size + 1, 0, none⟩ (.bool true)) (W.heap.size + 1) #[.bool true] 4 := HI.out.box.b1.set 0 _
    have hf7 : Fr (fun k => k = W.heap.size + 1) Wd (Wd.setCell ⟨W.heap.size + 1, 0, none⟩ (.bool true)) := (Fr.refl _ Wd).setCell _ _ (.inl rfl)
    have hDl := lt_of_block hK
    have hK7 : (Wd.setCell ⟨W.heap.size + 1, 0, none⟩ (.bool true)).heap[D]? = some (.deferred (some [])) := (hf7.block D hDl (by omega)).trans hK
    obtain ⟨W7, hW7⟩ : ∃ W7, Wd.setCell ⟨W.heap.size + 1, 0, none⟩ (.bool true) = W7 := ⟨_, rfl⟩
    rw [hW7] at hbd hf7 hK7 ⊢
    have hf8 : Fr (fun k => k = W.heap.size + 1 ∨ k = D) Wd (W7.putObj D (.deferred none)) := (hf7.mono (fun i h => .inl (.inl h))).trans (S' := fun k => k = D) ((Fr.refl (fun k => k = D) W7).grown (grownBy_putObj' W7 D _) (fun k hk => by cases hk; exact .inl rfl)) (fun i h => .inl (.inr h))
    have hb8 : Blk (W7.putObj D (.deferred none)) (W.heap.size + 1) #[.bool true] 4 := hbd.bk (Bk.put (lo := 0) (.deferred none) (Nat.zero_le _) hK7 rfl)
    obtain ⟨h71, h72, h73⟩ := HI.out.step (by omega) hGW (fun k hk => HG.out.list.lt hk) hCl (fun k hk => hS.cells _ _ _ _ HJd.out hk) hf8 (fun k h => by
      rcases h with h | h
      · exact .inl h
      · subst h
        refine .inr ⟨by omega, fun cur e hb => ?_⟩
        have hb' : Wd.heap[k]? = some (.cells cur e (0, 0)) := hb
        rw [hK] at hb'
        cases hb')
    refine ⟨by simp, .inl ⟨_, _, rfl, run_takeDeferred hK7, ?_⟩⟩
    refine ⟨_, results_cell1 (v := .bool true) rfl rfl (by kernel_rfl) (hb8.cell 0), ?_⟩
    exact ⟨C', lv', l', fun k hk => (HI.out.grow k hk).imp id (fun h => by omega), HI.out.pre, h71, HI.out.ok, fun k hk => (HI.out.lgrow k hk).imp id (fun h => by omega), h72, .inl ⟨rfl, hS.st _ _ _ _ _ HJd.out hf8 h73⟩⟩
  case stop =>
    rintro D pre v Wd hD hpre ⟨C', lv', l', hI, p, x, hpx, hJd⟩ hK
    have hGW := HG.out.blk.lt
    have HI := hd hI
    have HJd := hd hJd
    clear hI hJd
    gi_wp2_with fail
    have hDl := lt_of_block hK
    have hf8 : Fr (fun k => k = D) Wd (Wd.putObj D (.deferred none)) := (Fr.refl (fun k => k = D) Wd).grown (grownBy_putObj' Wd D _) (fun k hk => by cases hk; exact .inl rfl)
    have hb8 : Blk (Wd.putObj D (.deferred none)) (W.heap.size + 1) #[.bool false] 4 := HI.out.box.b1.bk (Bk.put (lo := 0) (.deferred none) (Nat.zero_le _) hK rfl)
    obtain ⟨h71, h72, h73⟩ := HI.out.step (by omega) hGW (fun k hk => HG.out.list.lt hk) hCl (fun k hk => hS.cellsx _ _ _ _ HJd.out hk) hf8 (fun k h => by
      subst h
      refine .inr ⟨by omega, fun cur e hb => ?_⟩
      have hb' : Wd.heap[k]? = some (.cells cur e (0, 0)) := hb
      rw [hK] at hb'
      cases hb')
    refine ⟨by simp, .inl ⟨_, _, rfl, run_takeDeferred hK, ?_⟩⟩
    refine ⟨_, results_cell1 (v := .bool false) rfl rfl (by kernel_rfl) (hb8.cell 0), ?_⟩
    exact ⟨C', lv', l', fun k hk => (HI.out.grow k hk).imp id (fun h => by omega), HI.out.pre, h71, HI.out.ok, fun k hk => (HI.out.lgrow k hk).imp id (fun h => by omega), h72, .inr ⟨rfl, p, x, hpx, hS.stx _ _ _ _ _ HJd.out hf8 h73⟩⟩
/-- goOn, whatever is to go. -/
theorem goOn_any (G X : Nat) (zs : List Int) (s : WS) (L N0 : Nat) (all : List (List Nat)) (J Jx : List (List Nat) → (Nat → Prop) → World → Prop) (hS : Sink X zs s L N0 all J Jx) (rdy : List Value) : ∀ m, GoOk G X zs s L N0 all J Jx rdy m
  | 0 => goOn_zero G X zs s L N0 all J Jx hS rdy
  | m + 1 => goOn_succ G X zs s L N0 all J Jx hS rdy m (goOn_any G X zs s L N0 all J Jx hS rdy m)
end Go.Proofs.Ytkjfpdfkcfgfkaa

/- Solutions: goThrough. -/
namespace Go.Proofs.Ytkjfpdfkcfgfkaa
open Go.RowKit Go.Shelf

def WS.busyAs (s : WS) (b : Bool) : WS := { s with l := ⟨s.l.backs, s.l.starts, b⟩ }
theorem workCells_setBusy (szv : Value) (d : List Nat) (tv : Value) (l : Rest) (h : d.length = 8) (b : Bool) : (workCells szv d tv l).setIfInBounds 12 (.bool b) = workCells szv d tv ⟨l.backs, l.starts, b⟩ := by
  match d, h with
  | [a0, a1, a2, a3, a4, a5, a6, a7], _ => rfl
theorem WAt.busy {W : World} {X : Nat} {zs : List Int} {s : WS} (h : WAt W X zs s) (b : Bool) : WAt (W.setCell ⟨X, 12, none⟩ (.bool b)) X zs (s.busyAs b) := by
  have hf : Fr (fun k => k = X) W (W.setCell ⟨X, 12, none⟩ (.bool b)) := (Fr.refl _ W).setCell _ _ (.inl rfl)
  have o : Only W (fun k => k = X) [82] := Only.one h.mem.blk
  refine ⟨⟨?_, h.mem.sz.frO hf o (by decide), h.mem.zok, h.mem.tabs.frO hf o (by decide), h.mem.inj, h.mem.t12, h.mem.fits, h.mem.tbok, ⟨h.mem.tr.starts.frO hf o (by decide), h.mem.tr.backs.frO hf o (by decide)⟩, fun u hu => (h.mem.un u hu).frO hf o (by decide) (.inr (by decide)), h.mem.apart⟩, h.good, h.cnt, h.sk, h.lev⟩
  have := h.mem.blk.set 12 (.bool b)
  rw [workCells_setBusy _ _ _ _ h.good.dm.len] at this
  exact this
/-- Every table has a variable. -/
theorem WAt.pos {W : World} {X : Nat} {zs : List Int} {s : WS} (h : WAt W X zs s) : ∀ i, i < s.ts.length → 1 ≤ (s.ts.getD i tab0).vars.length := fun i hi => by
  have hb : i < s.bs.length := by rw [← h.mem.fits.1]; exact hi
  rw [h.mem.fits.2 i hb]
  exact (h.mem.tbok i hb).1.pos
theorem WS.busy_back {s : WS} (h : s.l.busy = false) : (s.busyAs true).busyAs false = s := by
  unfold WS.busyAs
  rw [← h]
set_option maxHeartbeats 400000 in
theorem goEnd_d (B X : Nat) (old : Value) (u : FrameMode) (w : World) (h1 : w.cell? ⟨B, 0, none⟩ = some (.pointer (some ⟨X, 0, none⟩))) (h2 : w.cell? ⟨X, 12, none⟩ = some old) (h3 : w.frozen? ⟨X, 12, none⟩ = false) :
    CallsD Try.prog 58 #[.pointer (some ⟨B, 0, none⟩)] u w fun e u' w' => u' = u ∧ (e = .returned (.tuple #[]) ∧ w' = w.setCell ⟨X, 12, none⟩ (.bool false)) := by
  go_enter_d Try.func58, Try.ntmps58
  go_wp2
  go_end0
  exact ⟨rfl, rfl⟩

/-- A function value is stored. -/
theorem store_func {w : World} {a : Addr} {old : Value} (fn : Fn) (fs cs : Array Value) (hc : w.cell? a = some old) (hf : w.frozen? a = false) : (store a (.func fn fs cs)).run Try.prog w = .ok () (w.setCell a (.func fn fs cs)) := by
  unfold store
  show (Sem.store Mode.plain a (.func fn fs cs) (.pure ())).run Try.prog w = _
  unfold Sem.run
  simp [hc, hf, Sem.run]
/-- The ready tables, as they are laid by. -/
structure RdyAt (W : World) (N : Nat) (ts : List Tab) (rdy : List Value) : Prop where
  len : rdy.length = 8
  row : ∀ i, i < 8 → Row W (rdy.getD i undef) 93 ((readyOf ts i).map Tab.val)
  new : ∀ i k, i < 8 → (rdy.getD i undef).ownBlock = some k → N ≤ k
  inj : ∀ i j k, i < 8 → j < 8 → (rdy.getD i undef).ownBlock = some k → (rdy.getD j undef).ownBlock = some k → i = j
theorem readyOf_take (ts : List Tab) (k i : Nat) (hk : k < ts.length) : readyOf (ts.take (k + 1)) i = readyOf (ts.take k) i ++ if lastOf (ts.getD k tab0).vars = (i : Int) then [ts.getD k tab0] else [] := by
  have h1 : ts.take (k + 1) = ts.take k ++ [ts.getD k tab0] := by
    rw [List.take_add_one, List.getElem?_eq_getElem hk]
    simp [List.getD, hk]
  rw [h1]
  unfold readyOf
  rw [List.filter_append]
  congr 1
  obtain ⟨x, hx⟩ : ∃ x, ts.getD k tab0 = x := ⟨_, rfl⟩
  rw [hx]
  by_cases h : lastOf x.vars = (i : Int)
  · rw [if_pos h, List.filter_cons_of_pos (by simpa using h)]
    rfl
  · rw [if_neg h, List.filter_cons_of_neg (by simpa using h)]
    rfl
theorem getD_setS (l : List Value) (j : Nat) (v : Value) (h : j < l.length) : (l.set j v).getD j undef = v := by
  simp [List.getD, h]
theorem getD_setN (l : List Value) (i j : Nat) (v : Value) (h : j ≠ i) : (l.set j v).getD i undef = l.getD i undef := by
  simp [List.getD, List.getElem?_set_ne h]
/-- While the ready tables are laid by. -/
structure ThrI (W W1 wr : World) (X L : Nat) (ts : List Tab) (k : Nat) (rdy : List Value) : Prop where
  fr : Fr (fun j => j = W.heap.size + 1) W1 wr
  gb : Blk wr (W.heap.size + 1) (goCells X rdy (.slice none 0 0) (.func (.yield L) #[] #[])) 110
  r : RdyAt wr (W.heap.size + 2) (ts.take k) rdy
theorem goCells_setRdy (X : Nat) (rdy : List Value) (lv yv v : Value) (i : Nat) (h : i < rdy.length) : (goCells X rdy lv yv).setIfInBounds (1 + i) v = goCells X (rdy.set i v) lv yv := by
  rw [Nat.add_comm]
  simp [goCells, List.set_append_left, h]
structure ThroughPost (J Jx : List (List Nat) → (Nat → Prop) → World → Prop) (X : Nat) (zs : List Int) (s : WS) (L : Nat) (all : List (List Nat)) (C : Nat → Prop) (W : World) (e : Ending) (W' : World) : Prop where
  ex : (∃ v, e = .returned v) ∧ ∃ C' : Nat → Prop, (∀ k, C' k → C k ∨ W.heap.size ≤ k) ∧ WAt W' X zs s ∧ Fr (fun k => C k ∨ k = L ∨ k = X) W W' ∧ (J all C' W' ∨ ∃ p x, (p ++ [x]) <+: all ∧ Jx (p ++ [x]) C' W')

set_option maxHeartbeats 3200000 in
set_option maxRecDepth 1000000 in
theorem goThrough_any (X : Nat) (zs : List Int) (s : WS) (L : Nat) (J Jx : List (List Nat) → (Nat → Prop) → World → Prop) (C : Nat → Prop) (W : World) (hA : WAt W X zs s) (hbz : s.l.busy = false) (hS : Sink X zs (s.busyAs true) L W.heap.size (solN s.d s.bs zs.length []) J Jx)
    (hX : ∀ done C A B, J done C A → Fr (fun k => k = X) A B → J done C B) (hXx : ∀ done C A B, Jx done C A → Fr (fun k => k = X) A B → Jx done C B) (hJ : J [] C W) (hC : ∀ k, s.own X k → ¬ C k) (hpos : ∀ i, i < s.ts.length → 1 ≤ (s.ts.getD i tab0).vars.length) :
    Calls Try.prog 46 #[.pointer (some ⟨X, 0, none⟩), .func (.yield L) #[] #[]] W (ThroughPost J Jx X zs s L (solN s.d s.bs zs.length []) C W) := by
  have hd8 : s.d.length = 8 := hA.good.dm.len
  have hcb : W.cell? ⟨X, 12, none⟩ = some (.bool false) := (hA.mem.blk.cell 12).trans ((workCells_busy _ _ _ _ hd8).trans (by rw [hbz]))
  have hcf := hA.mem.blk.free 12
  have hXl := hA.mem.blk.lt
  have hct : W.cell? ⟨X, 9, none⟩ = some (.slice s.so s.ts.length s.tcap) := (hA.mem.blk.cell 9).trans (workCells_tabs _ _ _ _ hd8)
  have ht12 := hA.mem.t12
  have hmf : ∀ (fn : Fn) (first cap : Array Value) (w : World), (Instr.makeFunc fn first cap).run Try.prog w = .ok (.func fn first cap) w := fun _ _ _ _ => rfl
  have hnf : ∀ w : World, (binOp .eql 30 (.func (.yield L) #[] #[]) .nilFunc).run Try.prog w = .ok (.bool false) w := fun _ => by kernel_rfl
  have hst := fun (W0 : World) (hW0 : W0.heap.size = W.heap.size + 1) => store_func (w := W0.alloc (.cells #[.pointer (some ⟨X, 0, none⟩), .slice none 0 0, .slice none 0 0, .slice none 0 0, .slice none 0 0, .slice none 0 0, .slice none 0 0, .slice none 0 0, .slice none 0 0, .slice none 0 0, .nilFunc] 110)) (a := ⟨W.heap.size + 1, 10, none⟩) (old := .nilFunc) (.yield L) #[] #[] (by rw [← hW0]; exact (Blk.new W0 _ _).cell 10) (by rw [← hW0]; exact (Blk.new W0 _ _).free 10)
  have hst0 := hst ((W.setCell ⟨X, 12, none⟩ (.bool true)).alloc (.cells #[.pointer (some ⟨X, 0, none⟩)] 36)) (by simp [World.setCell])
  clear hst
  have HA := hd hA
  have HJ := hd hJ
  have HC := hd hC
  clear hA hJ hC
  go_enter_defers Try.func46, Try.ntmps46
  go_wp2_with fail
  obtain ⟨W1, hW1⟩ : ∃ W1, W1 = ((W.setCell ⟨X, 12, none⟩ (.bool true)).alloc (.cells #[.pointer (some ⟨X, 0, none⟩)] 36)).alloc (.cells #[.pointer (some ⟨X, 0, none⟩), .slice none 0 0, .slice none 0 0, .slice none 0 0, .slice none 0 0, .slice none 0 0, .slice none 0 0, .slice none 0 0, .slice none 0 0, .slice none 0 0, .func (.yield L) #[] #[]] 110) := ⟨_, rfl⟩
  have hsz0 : (W.setCell ⟨X, 12, none⟩ (.bool true)).heap.size = W.heap.size := by simp [World.setCell]
  have hfX : Fr (fun k => k = X) W W1 := by rw [hW1]; exact (((Fr.refl (fun k => k = X) W).setCell _ _ (.inl rfl)).alloc _).alloc _
  have hs1 : W1.heap.size = W.heap.size + 2 := by rw [hW1]; simp [hsz0]
  have hbB : Blk W1 W.heap.size #[.pointer (some ⟨X, 0, none⟩)] 36 := by
    have h1 := Blk.new (W.setCell ⟨X, 12, none⟩ (.bool true)) #[.pointer (some ⟨X, 0, none⟩)] 36
    rw [hsz0] at h1
    rw [hW1]
    exact h1.alloc _
  have hbG : Blk W1 (W.heap.size + 1) (goCells X (List.replicate 8 (.slice none 0 0)) (.slice none 0 0) (.func (.yield L) #[] #[])) 110 := by
    have h1 := Blk.new ((W.setCell ⟨X, 12, none⟩ (.bool true)).alloc (.cells #[.pointer (some ⟨X, 0, none⟩)] 36)) #[.pointer (some ⟨X, 0, none⟩), .slice none 0 0, .slice none 0 0, .slice none 0 0, .slice none 0 0, .slice none 0 0, .slice none 0 0, .slice none 0 0, .slice none 0 0, .slice none 0 0, .func (.yield L) #[] #[]] 110
    rw [show ((W.setCell ⟨X, 12, none⟩ (.bool true)).alloc (.cells #[.pointer (some ⟨X, 0, none⟩)] 36)).heap.size = W.heap.size + 1 from by simp [hsz0]] at h1
    rw [hW1]
    exact h1
  have hA1 : WAt W1 X zs (s.busyAs true) := by
    rw [hW1]
    exact (HA.out.busy true).nw (((Fr.refl _ _).alloc _).alloc _)
  rw [← hW1]
  have HW1 := hd hW1
  have HbB := hd hbB
  have HbG := hd hbG
  have HA1 := hd hA1
  have HfX := hd hfX
  clear hW1 hbB hbG hA1 hfX hst0 hcb hcf hct
  have hrep : ∀ i, i < 8 → (List.replicate 8 (Value.slice none 0 0)).getD i undef = .slice none 0 0 := fun i hi => by simp only [List.getD, List.getElem?_replicate, if_pos hi, Option.getD_some]
  obtain ⟨i0, hi0, hz0, hz1, hz2⟩ := info_parts Try.infoTable
  go_loopw [6, 27] (fun _ i wr => ∃ (k : Nat) (rdy : List Value), k ≤ s.ts.length ∧ i = .int .i64 (k : Int) ∧ Hid (ThrI W W1 wr X L s.ts k rdy)) (fun _ i _ => s.ts.length - (intOf i).toNat)
  case atStart =>
    refine ⟨0, List.replicate 8 (.slice none 0 0), by omega, rfl, ⟨Fr.refl _ _, HbG.out, rfl, fun i hi => ?_, fun i k hi hk => ?_, fun i j k hi hj hk => ?_⟩⟩
    · rw [hrep i hi]
      exact Row.nil _ _
    · rw [hrep i hi] at hk
      cases hk
    · rw [hrep i hi] at hk
      cases hk
  case round =>
    obtain ⟨k, rdy, hk, rfl, HT⟩ := hrel
    by_cases hlt : k < s.ts.length
    · have hdk : (k : Int) < (s.ts.length : Int) := by omega
      have hAr : WAt wr X zs (s.busyAs true) := HA1.out.fr HT.out.fr (fun j hj e => by
        have := HA.out.mem.lt hj
        omega) (Only.one HbG.out) (by decide)
      obtain ⟨tg, tcap', hre, hrgo, hck, _⟩ := hAr.mem.tabs.row.cell k (by rw [List.length_map]; exact hlt)
      have hso : s.so = some ⟨tg, 0, none⟩ := by
        injection hre
      have hat := hAr.mem.tabs.at_ k hlt
      have h4 := hAr.mem.tabs.four k hlt
      have hok := hAr.mem.tabs.ok k hlt
      have hp := hpos k hlt
      have hxk : s.ts[k]'hlt = s.ts.getD k tab0 := by simp [List.getD, hlt]
      have hck2 : wr.cell? ⟨tg, k, none⟩ = some (s.ts.getD k tab0).val := by
        rw [hck, ← hxk]
        simp only [List.getElem_map]
        rfl
      obtain ⟨x, hx⟩ : ∃ x, s.ts.getD k tab0 = x := ⟨_, rfl⟩
      have hx' : (s.busyAs true).ts.getD k tab0 = x := hx
      rw [hx'] at hat h4 hok
      rw [hx] at hp hck2
      obtain ⟨j, hj, hj8⟩ : ∃ j : Nat, lastOf x.vars = (j : Int) ∧ j < 8 := by
        obtain ⟨i, hi, he⟩ := maxTo_mem x.vars x.vars.length (by omega)
        have := hok i hi
        exact ⟨(lastOf x.vars).toNat, by unfold lastOf; omega, by unfold lastOf; omega⟩
      have hcG := hat.vars.1
      have HvI := hd hat.vars.2
      have hmc := TS.meth_last x.t x.G _ wr hcG
      have hGlt := hat.lt (.inl rfl)
      have hcT : wr.cell? ⟨tg, k, none⟩ = some (.iface x.t.ty (.pointer (some ⟨x.G, 0, none⟩))) := hck2
      obtain ⟨ty, hty⟩ : ∃ ty, x.t.ty = ty := ⟨_, rfl⟩
      rw [hty] at hcT hmc
      have Hx := hd hx
      have Hty := hd hty
      have Hat := hd hat
      have HAr := hd hAr
      have htl := hAr.mem.tabs.row.lt hrgo
      rw [hso]
      clear hx hx' hty hat hAr hck hck2 hxk hre hrgo hok
      go_wp2_with fail
      have hl1 := last_any x.g 0 x.cap x.vars wr hp h4 HvI.out
      rw [hj] at hl1
      refine hl1.mono ?_
      clear hl1 hmc
      rintro e w1 ⟨rfl, hf1⟩
      have hcG1 : w1.cell? ⟨x.G, 0, none⟩ = some (.slice (some ⟨x.g, 0, none⟩) x.vars.length x.cap) := (hf1.cell hGlt (fun h => h)).trans hcG
      have hmc1 := TS.meth_last x.t x.G _ w1 hcG1
      rw [Hty.out] at hmc1
      go_wp2_with fail
      have hl2 := last_any x.g 0 x.cap x.vars w1 hp h4 (HvI.out.nw hf1)
      rw [hj] at hl2
      refine hl2.mono ?_
      clear hl2 hmc1
      rintro e w2 ⟨rfl, hf2⟩
      have hf02 : Nw wr w2 := hf1.trans hf2 (fun i h => h.elim)
      have hG2 := HT.out.gb.nw hf02
      have hr2 := (HT.out.r.row j hj8).nw hf02
      obtain ⟨rv, hrv⟩ : ∃ rv, rdy.getD j undef = rv := ⟨_, rfl⟩
      rw [hrv] at hr2
      obtain ⟨xs, hxs⟩ : ∃ xs, (readyOf (s.ts.take k) j).map Tab.val = xs := ⟨_, rfl⟩
      rw [hxs] at hr2
      obtain ⟨ro, rc, hrf, _⟩ := hr2.form
      have hln : (readyOf (s.ts.take k) j).length ≤ 12 := by
        have h1 := List.length_filter_le (fun x => decide (lastOf x.vars = (j : Int))) (s.ts.take k)
        have h2 : (s.ts.take k).length ≤ k := by simp; omega
        unfold readyOf
        omega
      have hxl : xs.length ≤ 12 := by rw [← hxs, List.length_map]; exact hln
      have hcr : w2.cell? ⟨W.heap.size + 1, 1 + j, none⟩ = some rv := (hG2.cell _).trans ((goCells_rdy _ _ _ _ _ (by rw [HT.out.r.len]; exact hj8)).trans (by rw [hrv]))
      have hnG : rv.ownBlock ≠ some (W.heap.size + 1) := hr2.ne hG2 (by decide)
      have hj8' : (j : Int) < 8 := by omega
      subst hrf
      have HG2 := hd hG2
      have Hr2 := hd hr2
      have Hrv := hd hrv
      have Hf02 := hd hf02
      have HnG := hd hnG
      have Hxs := hd hxs
      clear hG2 hrv hf1 hf2 hf02 hcG1 hcG hnG hcT hxs hln
      go_wp2_with (at_builtin; refine wpList_append_own_at _ rfl _ _ 77 rfl 0 93 i0 .nilIface 1 16 Try.underlying77 hi0 hz0 hz1 hz2 rfl (by decide) _ _ _ rfl (Row.alloc hr2 _) ⟨_, 0, none⟩ 1 1 [.iface ty (.pointer (some ⟨x.G, 0, none⟩))] rfl rfl (cell_one_new _ _ _) (by simp [Value.oneCell']) (by unfold maxLen; omega) (by omega) (Nat.zero_le _) ?_; intro v' w3 hown' hgrow _ hat; obtain ⟨g', cap', rfl, hr3, hf3, ha3, hlt3⟩ := app1 hown' hgrow hat; have hG3 := HG2.out.fr hf3 HnG.out; have hfz3 := hG3.free (1 + j); have hcr3 := (hG3.cell (1 + j)).trans (goCells_rdy X rdy (.slice none 0 0) (.func (.yield L) #[] #[]) j (by rw [HT.out.r.len]; exact hj8)); have HG3 := hd hG3; clear hG3 hown' hgrow hat)
      have hown : ∀ q, (Value.slice ro xs.length rc).ownBlock = some q → W.heap.size + 2 ≤ q := fun q hq => HT.out.r.new j q hj8 (by rw [Hrv.out]; exact hq)
      have hg' : W.heap.size + 2 ≤ g' := by
        rcases ha3 with h | h
        · exact hown g' h
        · have := HT.out.fr.size
          have := Hf02.out.size
          omega
      have hf4 : Fr (fun q => (Value.slice ro xs.length rc).ownBlock = some q ∨ q = W.heap.size + 1) w2 (w3.setCell ⟨W.heap.size + 1, 1 + j, none⟩ (.slice (some ⟨g', 0, none⟩) (xs.length + 1) cap')) := (hf3.mono (fun i h => .inl (.inl h))).setCell _ _ (.inl (.inr rfl))
      have hset : ∀ i, i < 8 → i ≠ j → (rdy.set j (.slice (some ⟨g', 0, none⟩) (xs.length + 1) cap')).getD i undef = rdy.getD i undef := fun i _ hne => getD_setN _ _ _ _ (fun e => hne e.symm)
      have hsetj : (rdy.set j (.slice (some ⟨g', 0, none⟩) (xs.length + 1) cap')).getD j undef = .slice (some ⟨g', 0, none⟩) (xs.length + 1) cap' := getD_setS _ _ _ (by rw [HT.out.r.len]; exact hj8)
      have hoth : ∀ i q, i < 8 → i ≠ j → (rdy.getD i undef).ownBlock = some q → (Value.slice ro xs.length rc).ownBlock ≠ some q ∧ q ≠ g' := fun i q hi hne hq => by
        have h1 : (Value.slice ro xs.length rc).ownBlock ≠ some q := fun h => hne (HT.out.r.inj i j q hi hj8 hq (by rw [Hrv.out]; exact h))
        refine ⟨h1, fun e => ?_⟩
        subst e
        rcases ha3 with h | h
        · exact h1 h
        · have := ((HT.out.r.row i hi).nw Hf02.out).lt hq
          omega
      refine ⟨⟨k + 1, rdy.set j (.slice (some ⟨g', 0, none⟩) (xs.length + 1) cap'), by omega, by simp, ⟨?_, ?_, ⟨?_, fun i hi => ?_, fun i q hi hq => ?_, fun i i' q hi hi' hq hq' => ?_⟩⟩⟩, by simp [intOf]; omega⟩
      · refine (HT.out.fr.trans Hf02.out (fun i h => h.elim)).trans hf4 (fun i h => ?_)
        rcases h with h | h
        · have := hown i h
          exact .inr (by omega)
        · exact .inl h
      · rw [← goCells_setRdy X rdy _ _ _ j (by rw [HT.out.r.len]; exact hj8)]
        exact HG3.out.set (1 + j) _
      · rw [List.length_set]
        exact HT.out.r.len
      · rw [readyOf_take s.ts k i hlt, Hx.out, hj]
        by_cases h : i = j
        · subst h
          rw [hsetj, if_pos rfl, List.map_append, Hxs.out]
          have h5 : [x].map Tab.val = [.iface ty (.pointer (some ⟨x.G, 0, none⟩))] := by simp [Tab.val, Hty.out]
          rw [h5]
          exact hr3.fr ((Fr.refl (fun q => q = W.heap.size + 1) w3).setCell ⟨W.heap.size + 1, 1 + i, none⟩ _ (.inl rfl)) (fun q hq e => by cases hq; have e' : g' = W.heap.size + 1 := e; omega)
        · rw [hset i hi h, if_neg (by omega), List.append_nil]
          exact ((HT.out.r.row i hi).nw Hf02.out).fr hf4 (fun q hq hh => by
            rcases hh with hh | hh
            · exact (hoth i q hi h hq).1 hh
            · have := HT.out.r.new i q hi hq; omega)
      · by_cases h : i = j
        · subst h
          rw [hsetj] at hq
          cases hq
          exact hg'
        · rw [hset i hi h] at hq
          exact HT.out.r.new i q hi hq
      · by_cases h : i = j
        · by_cases h' : i' = j
          · rw [h, h']
          · subst h
            rw [hsetj] at hq
            rw [hset i' hi' h'] at hq'
            cases hq
            exact absurd rfl (hoth i' g' hi' h' hq').2
        · by_cases h' : i' = j
          · subst h'
            rw [hsetj] at hq'
            rw [hset i hi h] at hq
            cases hq'
            exact absurd rfl (hoth i g' hi h hq).2
          · rw [hset i hi h] at hq
            rw [hset i' hi' h'] at hq'
            exact HT.out.r.inj i i' q hi hi' hq hq'
    · obtain rfl : k = s.ts.length := by omega
      have hr := HT.out.r
      rw [List.take_length] at hr
      have hAr : WAt wr X zs (s.busyAs true) := HA1.out.fr HT.out.fr (fun j hj e => by
        have := HA.out.mem.lt hj
        omega) (Only.one HbG.out) (by decide)
      have hCl : ∀ q, C q → q < W.heap.size := fun q hq => by
        obtain ⟨cur, e, hb, _⟩ := hS.cells _ _ _ _ HJ.out hq
        exact hb.lt
      obtain ⟨lr, hlr⟩ := hS.lrec _ _ _ HJ.out
      have hLl := lt_of_block hlr
      have hJr : J [] C wr := hS.st _ _ _ _ _ (hX _ _ _ _ HJ.out HfX.out) HT.out.fr (fun q hq => ⟨by omega, fun hc => by have := hCl q hc; omega⟩)
      have hGo : GoAt wr (W.heap.size + 1) X s.ts rdy (.slice none 0 0) (.func (.yield L) #[] #[]) [] := ⟨HT.out.gb, hr.len, hr.row, Row.nil _ _⟩
      have hPre : GoPre (W.heap.size + 1) X (s.busyAs true) L W.heap.size rdy (.slice none 0 0) C := by
        refine ⟨by omega, fun hc => ?_, fun q hq => (by cases hq), fun i q hi hq => ⟨?_, fun hc => ?_⟩, hLl, fun q hq => ⟨HA.out.mem.lt hq, fun e => ?_, HC.out q hq⟩⟩
        · have := hCl _ hc; omega
        · have := hr.new i q hi hq; omega
        · have := hr.new i q hi hq
          have := hCl _ hc
          omega
        · subst e
          obtain ⟨cur, e, hb, _⟩ := HA.out.mem.ty hq
          have hb' : W.heap[q]? = some (.cells cur e (0, 0)) := hb
          rw [hlr] at hb'
          cases hb'
      have hcall := goOn_any (W.heap.size + 1) X zs (s.busyAs true) L W.heap.size (solN s.d s.bs zs.length []) J Jx hS rdy zs.length [] (.slice none 0 0) [] C wr (by simp) hJr hAr hGo hPre (List.prefix_refl _) (fun q hq => absurd hq (Nat.not_lt_zero _))
      have Hcall := hd hcall
      clear hcall
      go_wp2_with fail
      refine Hcall.out.mono ?_
      rintro e W6 ⟨C6, lv6, l6, hg6, hp6, hG6, hP6, hl6, hf6, hcase⟩
      have hA6 : WAt W6 X zs (s.busyAs true) := go_wat hS hJr hAr hGo hPre hf6
      have hsr : W.heap.size + 2 ≤ wr.heap.size := by have := HT.out.fr.size; omega
      have hb6 : Blk W6 W.heap.size #[.pointer (some ⟨X, 0, none⟩)] 36 := (HbB.out.fr HT.out.fr (by omega)).fr hf6 (fun h => by
        rcases h with h | h | h | h
        · have := hCl _ h; omega
        · omega
        · omega
        · cases h)
      obtain ⟨b, rfl, hb⟩ : ∃ b, e = .returned (.bool b) ∧ ((b = true ∧ J (solN s.d s.bs zs.length []) C6 W6) ∨ (b = false ∧ ∃ p x, (p ++ [x]) <+: solN s.d s.bs zs.length [] ∧ Jx (p ++ [x]) C6 W6)) := by
        rcases hcase with ⟨h1, h2⟩ | ⟨h1, p, x, h2, h3⟩
        · exact ⟨true, h1, .inl ⟨rfl, by simpa [WS.busyAs] using h2⟩⟩
        · exact ⟨false, h1, .inr ⟨rfl, p, x, h2, by simpa using h3⟩⟩
      have HA6 := hd hA6
      have Hb6 := hd hb6
      have Hf6 := hd hf6
      have Hb := hd hb
      have Hg6 := hd hg6
      clear hA6 hb6 hf6 hb hg6 hG6 hP6 hl6 hp6 hcase Hcall
      go_wp2_with fail
      refine leaves_cons (f := 58) (args := #[.pointer (some ⟨W.heap.size, 0, none⟩)]) (by simp) (by simp [go_sem]) ?_
      refine (goEnd_d W.heap.size X (.bool true) .returning _ (Hb6.out.cell 0) ((HA6.out.mem.blk.cell 12).trans (workCells_busy _ _ _ _ hd8)) (HA6.out.mem.blk.free 12)).mono ?_
      rintro e u' w'' ⟨rfl, rfl, rfl⟩
      have hfe : Fr (fun q => q = X) W6 (W6.setCell ⟨X, 12, none⟩ (.bool false)) := (Fr.refl _ W6).setCell _ _ (.inl rfl)
      refine ⟨_, results_none rfl _ _ _, ⟨⟨_, rfl⟩, C6, fun q hq => (Hg6.out q hq).imp id (fun h => by omega), ?_, ?_, ?_⟩⟩
      · have h1 := HA6.out.busy false
        rw [WS.busy_back hbz] at h1
        exact h1
      · refine (((HfX.out.mono (S' := fun q => C q ∨ q = L ∨ q = X) (fun i h => .inl (.inr (.inr h)))).trans HT.out.fr (fun i h => .inr (by omega))).trans Hf6.out (fun i h => ?_)).trans hfe (fun i h => .inl (.inr (.inr h)))
        rcases h with h | h | h | h
        · exact .inl (.inl h)
        · exact .inl (.inr (.inl h))
        · exact .inr (by omega)
        · cases h
      · rcases Hb.out with ⟨_, h⟩ | ⟨_, p, x, h1, h2⟩
        · exact .inl (hX _ _ _ _ h hfe)
        · exact .inr ⟨p, x, h1, hXx _ _ _ _ h2 hfe⟩
end Go.Proofs.Ytkjfpdfkcfgfkaa

/- Solutions: a range over them. -/
namespace Go.Proofs.Ytkjfpdfkcfgfkaa
open Go.RowKit Go.Shelf
attribute [local go_sem] Oper.semAt_some

set_option maxHeartbeats 400000 in
theorem solutions_any (X : Nat) (w : World) : Calls Try.prog 26 #[.pointer (some ⟨X, 0, none⟩)] w fun e w' => e = .returned (.func (.func 46) #[.pointer (some ⟨X, 0, none⟩)] #[]) ∧ w' = w := by
  have hmf : ∀ (fn : Fn) (first cap : Array Value) (w : World), (Instr.makeFunc fn first cap).run Try.prog w = .ok (.func fn first cap) w := fun _ _ _ _ => rfl
  go_enter Try.func26, Try.ntmps26
  go_wp2
  go_ret
  exact ⟨rfl, rfl⟩

/-- How the body of a round is left: at its end, or by a break. -/
def solPost (I Ix : (Nat → Prop) → World → Prop) (id : Nat) (C : Nat → Prop) (g : Nat) (W : World) : Exit → Act → World → Prop
  | .normal, _, W' => ∃ C' : Nat → Prop, (∀ k, C' k → C k ∨ k = g ∨ W.heap.size ≤ k) ∧ Fr (fun k => C k ∨ k = g) W W' ∧ I C' W'
  | .exit i, _, W' => i = id ∧ ∃ C' : Nat → Prop, (∀ k, C' k → C k ∨ k = g ∨ W.heap.size ≤ k) ∧ Fr (fun k => C k ∨ k = g) W W' ∧ Ix C' W'
  | _, _, _ => False
/-- What a range over solutions keeps: C are its own blocks. -/
structure SolInv (X N : Nat) (I : List (List Nat) → (Nat → Prop) → World → Prop) : Prop where
  st : ∀ done C S A B, I done C A → Fr S A B → (∀ k, S k → (N ≤ k ∧ ¬ C k) ∨ k = X) → I done C B
  cells : ∀ done C A k, I done C A → C k → ∃ cur e, Blk A k cur e ∧ e ≠ 154

set_option maxHeartbeats 1600000 in
/-- **'for x := range w.Solutions() { body }', where a body may break.** -/
theorem wp_sols {n X : Nat} {zs : List Int} {s : WS} {g : Operand} {t : Tmp} {id : Nat} {assign body : Code} {Q : Exit → Act → World → Prop} {a : Act} {w : World} (av : Value → Act)
    (hg : a.eval g = .func (.func 46) #[.pointer (some ⟨X, 0, none⟩)] #[]) (hA : WAt w X zs s) (hbz : s.l.busy = false) (hpos : ∀ i, i < s.ts.length → 1 ≤ (s.ts.getD i tab0).vars.length)
    (hassign : ∀ (l : Nat) (v : Value) (W : World) (K : Act → World → Prop), K (av v) W → assign.wpIn (Fence.wide.inRound l) (n - 1 - 1) Try.prog (Exit.then K (fun _ _ _ => False)) { tmps := a.tmps.setIfInBounds t v, defers := [] } W)
    (I Ix : List (List Nat) → (Nat → Prop) → World → Prop) (hI : SolInv X w.heap.size I) (hIx : SolInv X w.heap.size Ix) (C : Nat → Prop) (hC : ∀ k, s.own X k → ¬ C k) (h0 : I [] C w)
    (hround : ∀ (l : Nat) (done : List (List Nat)) (C : Nat → Prop) (x : List Nat) (b cap : Nat) (W : World), (done ++ [x]) <+: solN s.d s.bs zs.length [] → I done C W → WAt W X zs (s.busyAs true) → w.heap.size ≤ b → ¬ C b → Row W (.slice (some ⟨b, 0, none⟩) x.length cap) 3 (ints x) →
      body.wpIn (Fence.wide.inRound l) (n - 1 - 1) Try.prog (solPost (I (done ++ [x])) (Ix (done ++ [x])) id C b W) (av (.slice (some ⟨b, 0, none⟩) x.length cap)) W)
    (hdone : ∀ (D : Nat) (C' : Nat → Prop) (W : World), w.heap.size ≤ D → (∀ k, C' k → C k ∨ w.heap.size ≤ k) → I (solN s.d s.bs zs.length []) C' W → WAt W X zs s → Fr (fun k => C k ∨ k = X) w W → W.heap[D]? = some (.deferred (some [])) → Q .normal { a with defers := mark D :: a.defers } W)
    (hstop : ∀ (D : Nat) (C' : Nat → Prop) (p : List (List Nat)) (x : List Nat) (W : World), w.heap.size ≤ D → (∀ k, C' k → C k ∨ w.heap.size ≤ k) → (p ++ [x]) <+: solN s.d s.bs zs.length [] → Ix (p ++ [x]) C' W → WAt W X zs s → Fr (fun k => C k ∨ k = X) w W → W.heap[D]? = some (.deferred (some [])) → (Code.exit id).wpIn Fence.wide n Try.prog Q { a with defers := mark D :: a.defers } W) :
    (Code.rangeFunc g #[t] assign body).wpIn Fence.wide n Try.prog Q a w := by
  refine wpIn_rangeFunc ?_
  intro fn hfn
  obtain ⟨rec, hrec⟩ : ∃ rec : LoopState → Option Code → Loop, rec = fun st pe => { state := st, pending := pe, fn, tmps := a.tmps, params := #[t], assign, body, defers := w.heap.size } := ⟨_, rfl⟩
  obtain ⟨W1, hW1⟩ : ∃ W1, (w.alloc (.deferred (some []))).alloc (.loop (rec .ready none)) = W1 := ⟨_, rfl⟩
  have hf1 : Nw w W1 := by rw [← hW1]; exact ((Fr.refl _ w).alloc _).alloc _
  have hs1 : W1.heap.size = w.heap.size + 2 := by rw [← hW1]; simp
  have hL1 : W1.heap[w.heap.size + 1]? = some (.loop (rec .ready none)) := by
    rw [← hW1]
    have := heap_alloc_new (w.alloc (.deferred (some []))) (.loop (rec .ready none))
    simpa using this
  have hK1 : W1.heap[w.heap.size]? = some (.deferred (some [])) := by
    rw [← hW1]; exact (Below.heap_alloc _ _ _ (by simp)).trans (heap_alloc_new w _)
  have hI1 : I [] C W1 := hI.st _ _ _ _ _ h0 hf1 (fun k h => h.elim)
  have hXl := hA.mem.blk.lt
  have hb0 : ∀ (k : Nat) (A : World) (cur : Array Value) (e : TypeId) (o : Obj), A.heap[k]? = some o → loopy o = true → ¬ Blk A k cur e := fun k A cur e o ho hl hb => by
    have hb' : A.heap[k]? = some (.cells cur e (0, 0)) := hb
    rw [hb'] at ho
    cases ho
    cases hl
  have hSink : Sink X zs (s.busyAs true) (w.heap.size + 1) W1.heap.size (solN s.d s.bs zs.length [])
      (fun done C A => I done C A ∧ A.heap[w.heap.size + 1]? = some (.loop (rec .ready none)) ∧ A.heap[w.heap.size]? = some (.deferred (some [])))
      (fun done C A => Ix done C A ∧ A.heap[w.heap.size + 1]? = some (.loop (rec .done (some (.exit id)))) ∧ A.heap[w.heap.size]? = some (.deferred (some []))) := by
    refine ⟨?_, ?_, ?_, ?_, ?_, ?_⟩
    · rintro done C S A B ⟨h1, h2, h3⟩ hf hs
      exact ⟨hI.st _ _ _ _ _ h1 hf (fun k hk => .inl ⟨by have := (hs k hk).1; omega, (hs k hk).2⟩), (hf.block _ (lt_of_block h2) (fun hk => by have := (hs _ hk).1; omega)).trans h2, (hf.block _ (lt_of_block h3) (fun hk => by have := (hs _ hk).1; omega)).trans h3⟩
    · rintro done C S A B ⟨h1, h2, h3⟩ hf hs
      exact ⟨hIx.st _ _ _ _ _ h1 hf (fun k hk => .inl ⟨by have := (hs k hk).1; omega, (hs k hk).2⟩), (hf.block _ (lt_of_block h2) (fun hk => by have := (hs _ hk).1; omega)).trans h2, (hf.block _ (lt_of_block h3) (fun hk => by have := (hs _ hk).1; omega)).trans h3⟩
    · exact fun done C A k h hc => hI.cells _ _ _ _ h.1 hc
    · exact fun done C A k h hc => hIx.cells _ _ _ _ h.1 hc
    · exact fun done C A h => ⟨_, h.2.1⟩
    · rintro done C x b cap m W ⟨hi, hl, hk⟩ hAW hpre hbN hbC hrow
      refine yieldAt_any (m := n - 1 - 1) ?_
      have hlt : w.heap.size + 1 < W.heap.size := lt_of_block hl
      obtain ⟨v, hv⟩ : ∃ v, Value.slice (some ⟨b, 0, none⟩) x.length cap = v := ⟨_, rfl⟩
      have hy := run_yield (P := Try.prog) (args := #[v]) hl (by rw [hrec]; rfl)
      rw [hrec] at hy
      dsimp only at hy
      have hfold : ((#[t] : Array Tmp).zip #[v]).foldl (fun tmps (x : Tmp × Value) => match x with | (t, a) => tmps.setIfInBounds t a) a.tmps = a.tmps.setIfInBounds t v := by simp
      rw [hfold] at hy
      obtain ⟨Wy, hWy⟩ : ∃ Wy, W.putObj (w.heap.size + 1) (.loop { rec .ready none with state := .busy }) = Wy := ⟨_, rfl⟩
      have hfy : Fr (fun k => k = w.heap.size + 1) W Wy := by rw [← hWy]; exact (Fr.refl (fun k => k = w.heap.size + 1) W).grown (grownBy_putObj' W _ _) (fun k hk => by cases hk; exact .inl rfl)
      have hl2 : Wy.heap[w.heap.size + 1]? = some (.loop { rec .ready none with state := .busy }) := by rw [← hWy]; exact World.putObj_heap_same hlt
      have hk2 : Wy.heap[w.heap.size]? = some (.deferred (some [])) := by rw [← hWy]; exact (World.putObj_heap_other (by omega)).trans hk
      have hCW : ∀ k, C k → ∃ cur e, Blk W k cur e ∧ e ≠ 154 := fun k hk => hI.cells _ _ _ _ hi hk
      have hLC : ¬ C (w.heap.size + 1) := fun hc => by
        obtain ⟨cur, e, hb, _⟩ := hCW _ hc
        exact hb0 _ _ _ _ _ hl rfl hb
      have hDC : ¬ C w.heap.size := fun hc => by
        obtain ⟨cur, e, hb, _⟩ := hCW _ hc
        exact hb0 _ _ _ _ _ hk rfl hb
      have hiy : I done C Wy := hI.st _ _ _ _ _ hi hfy (fun k hk => .inl ⟨by omega, by rw [hk]; exact hLC⟩)
      have hAy : WAt Wy X zs (s.busyAs true) := hAW.frN hfy (fun k hk e => by
        obtain ⟨cur, e', hb, _⟩ := hAW.mem.ty hk
        rw [e] at hb
        exact hb0 _ _ _ _ _ hl rfl hb) (fun k cur hk hb => by
        rw [hk] at hb
        exact hb0 _ _ _ _ _ hl rfl hb)
      have hry : Row Wy (.slice (some ⟨b, 0, none⟩) x.length cap) 3 (ints x) := hrow.fr hfy (fun k hk e => by cases hk; have e' : b = w.heap.size + 1 := e; omega)
      have hbody := hround (w.heap.size + 1) done C x b cap Wy hpre hiy hAy (by omega) hbC hry
      rw [hv] at hbody ⊢
      refine ⟨fn, _, assign, body, hy, roundIn_of_wpIn hfn ?_⟩
      refine hassign _ v W _ ?_
      refine ⟨Wy, ?_, ?_⟩
      · rw [← hWy]
        exact run_beginRound hl (by rw [hrec])
      refine wpIn_mono hbody ?_
      have hsy := hfy.size
      have hnS : ∀ k, k = w.heap.size + 1 ∨ k = w.heap.size → ¬ (C k ∨ k = b) := fun k hk h => by
        rcases hk with rfl | rfl
        · rcases h with h | h
          · exact hLC h
          · omega
        · rcases h with h | h
          · exact hDC h
          · omega
      have hend : ∀ (C' : Nat → Prop) (W3 : World) (o : Obj), (∀ k, C' k → C k ∨ k = b ∨ Wy.heap.size ≤ k) → Fr (fun k => C k ∨ k = b) Wy W3 → (∀ k, C' k → C k ∨ k = b ∨ W.heap.size ≤ k) ∧ Fr (fun k => C k ∨ k = b ∨ k = w.heap.size + 1) W (W3.putObj (w.heap.size + 1) o) ∧ Fr (fun k => k = w.heap.size + 1) W3 (W3.putObj (w.heap.size + 1) o) ∧ ¬ C' (w.heap.size + 1) := fun C' W3 o h1 h2 => by
        have hp : Fr (fun k => k = w.heap.size + 1) W3 (W3.putObj (w.heap.size + 1) o) := (Fr.refl (fun k => k = w.heap.size + 1) W3).grown (grownBy_putObj' W3 _ _) (fun k hk => by cases hk; exact .inl rfl)
        have h1' : ∀ k, C' k → C k ∨ k = b ∨ W.heap.size ≤ k := fun k hk => (h1 k hk).imp (fun h => h) (fun h => h.imp (fun h => h) (fun h => by omega))
        refine ⟨h1', (((hfy.mono (S' := fun k => C k ∨ k = b ∨ k = w.heap.size + 1) (fun i h => .inl (.inr (.inr h)))).trans h2 (fun i h => .inl (h.imp (fun h => h) .inl))).trans hp (fun i h => .inl (.inr (.inr h)))), hp, fun hc => ?_⟩
        rcases h1' _ hc with h | h | h
        · exact hLC h
        · omega
        · omega
      rintro e a3 W3 hp
      cases e with
      | normal =>
        obtain ⟨C', hg3, hf3, hi3⟩ := hp
        have hl3 := (hf3.block _ (lt_of_block hl2) (hnS _ (.inl rfl))).trans hl2
        have hk3 := (hf3.block _ (lt_of_block hk2) (hnS _ (.inr rfl))).trans hk2
        have he := run_endRound (P := Try.prog) none hl3
        refine ⟨_, _, he, ?_⟩
        obtain ⟨h1, h2, h3, h4⟩ := hend C' W3 _ hg3 hf3
        refine ⟨C', h1, h2, .inl ⟨rfl, hI.st _ _ _ _ _ hi3 h3 (fun k hk => .inl ⟨by omega, by rw [hk]; exact h4⟩), ?_, (World.putObj_heap_other (by omega)).trans hk3⟩⟩
        rw [World.putObj_heap_same (lt_of_block hl3), hrec]
        rfl
      | exit i =>
        obtain ⟨rfl, C', hg3, hf3, hi3⟩ := hp
        have hl3 := (hf3.block _ (lt_of_block hl2) (hnS _ (.inl rfl))).trans hl2
        have hk3 := (hf3.block _ (lt_of_block hk2) (hnS _ (.inr rfl))).trans hk2
        have he := run_endRound (P := Try.prog) (some (.exit i)) hl3
        refine ⟨_, _, he, ?_⟩
        obtain ⟨h1, h2, h3, h4⟩ := hend C' W3 _ hg3 hf3
        refine ⟨C', h1, h2, .inr ⟨rfl, hIx.st _ _ _ _ _ hi3 h3 (fun k hk => .inl ⟨by omega, by rw [hk]; exact h4⟩), ?_, (World.putObj_heap_other (by omega)).trans hk3⟩⟩
        rw [World.putObj_heap_same (lt_of_block hl3), hrec]
        rfl
      | ret => exact hp.elim
      | goto t => exact hp.elim
      | panic ch => exact hp.elim
      | outgrown => exact hp.elim
  refine ⟨w.heap.size + 1, [mark w.heap.size], W1, { target := .fn (.func 46) #[], args := #[.pointer (some ⟨X, 0, none⟩), .func (.yield (w.heap.size + 1)) #[] #[]] }, W1, 46,
    #[.pointer (some ⟨X, 0, none⟩), .func (.yield (w.heap.size + 1)) #[] #[]], W1, ?_, ?_, ?_, ?_, (fun h => by cases h), ?_⟩
  · rw [← hW1, hrec]; exact run_enterLoop_outer _ _ _ _ _
  · simp only [resolve, hg]
    simp [go_sem]
  · intro f' _; trivial
  · simp [invoke, go_sem]
  · refine (callsIn_wide.2 (goThrough_any X zs s (w.heap.size + 1) _ _ C W1 (hA.nw hf1) hbz hSink ?_ ?_ ⟨hI1, hL1, hK1⟩ hC hpos)).mono ?_
    · rintro done C A B ⟨h1, h2, h3⟩ hf
      exact ⟨hI.st _ _ _ _ _ h1 hf (fun k hk => .inr hk), (hf.block _ (lt_of_block h2) (by omega)).trans h2, (hf.block _ (lt_of_block h3) (by omega)).trans h3⟩
    · rintro done C A B ⟨h1, h2, h3⟩ hf
      exact ⟨hIx.st _ _ _ _ _ h1 hf (fun k hk => .inr hk), (hf.block _ (lt_of_block h2) (by omega)).trans h2, (hf.block _ (lt_of_block h3) (by omega)).trans h3⟩
    have hfin : ∀ (C' : Nat → Prop) (W2 : World) (o : Obj) (r : Loop), (∀ k, C' k → C k ∨ W1.heap.size ≤ k) → WAt W2 X zs s → Fr (fun k => C k ∨ k = w.heap.size + 1 ∨ k = X) W1 W2 → W2.heap[w.heap.size + 1]? = some (.loop r) → (∀ k, C' k → C k ∨ w.heap.size ≤ k) ∧ WAt (W2.putObj (w.heap.size + 1) o) X zs s ∧ Fr (fun k => C k ∨ k = X) w (W2.putObj (w.heap.size + 1) o) ∧ Fr (fun k => k = w.heap.size + 1) W2 (W2.putObj (w.heap.size + 1) o) ∧ ((∀ k, C k → k < w.heap.size) → ¬ C' (w.heap.size + 1)) := fun C' W2 o r h1 h2 h3 h4 => by
      have hp : Fr (fun k => k = w.heap.size + 1) W2 (W2.putObj (w.heap.size + 1) o) := (Fr.refl (fun k => k = w.heap.size + 1) W2).grown (grownBy_putObj' W2 _ _) (fun k hk => by cases hk; exact .inl rfl)
      refine ⟨fun k hk => (h1 k hk).imp (fun h => h) (fun h => by omega), ?_, ?_, hp, fun hlt hc => ?_⟩
      · refine h2.frN hp (fun k hk e => ?_) (fun k cur hk hb => ?_)
        · obtain ⟨cur, e', hb, _⟩ := h2.mem.ty hk
          rw [e] at hb
          exact hb0 _ _ _ _ _ h4 rfl hb
        · rw [hk] at hb
          exact hb0 _ _ _ _ _ h4 rfl hb
      · refine ((hf1.mono (fun i h => h.elim)).trans h3 (fun i h => ?_)).trans hp (fun i h => .inr (by omega))
        rcases h with h | h | h
        · exact .inl (.inl h)
        · exact .inr (by omega)
        · exact .inl (.inr h)
      · rcases h1 _ hc with h | h
        · have := hlt _ h; omega
        · omega
    have hCl : ∀ k, C k → k < w.heap.size := fun k hk => by
      obtain ⟨cur, e, hb, _⟩ := hI.cells _ _ _ _ h0 hk
      exact hb.lt
    rintro e W2 ⟨⟨v, rfl⟩, C', hgr, hA2, hf2, hcase⟩
    rcases hcase with ⟨hi, hl, hk⟩ | ⟨p, x, hpre, hi, hl, hk⟩
    · obtain ⟨h1, h2, h3, h4, h5⟩ := hfin C' W2 (.loop { rec .ready none with state := .exhausted }) _ hgr hA2 hf2 hl
      refine ⟨none, _, ?_, hdone w.heap.size C' _ (Nat.le_refl _) h1 (hI.st _ _ _ _ _ hi h4 (fun k hk => .inl ⟨by omega, by rw [hk]; exact h5 hCl⟩)) h2 h3 ((World.putObj_heap_other (by omega)).trans hk)⟩
      have := run_endLoop (P := Try.prog) hl (by rw [hrec]; simp)
      rw [hrec] at this ⊢
      exact this
    · obtain ⟨h1, h2, h3, h4, h5⟩ := hfin C' W2 (.loop { rec .done (some (.exit id)) with state := .exhausted }) _ hgr hA2 hf2 hl
      refine ⟨some (.exit id), _, ?_, hstop w.heap.size C' p x _ (Nat.le_refl _) h1 hpre (hIx.st _ _ _ _ _ hi h4 (fun k hk => .inl ⟨by omega, by rw [hk]; exact h5 hCl⟩)) h2 h3 ((World.putObj_heap_other (by omega)).trans hk)⟩
      have := run_endLoop (P := Try.prog) hl (by rw [hrec]; simp)
      rw [hrec] at this ⊢
      exact this
end Go.Proofs.Ytkjfpdfkcfgfkaa

/- Count. -/
namespace Go.Proofs.Ytkjfpdfkcfgfkaa
open Go.RowKit Go.Shelf
attribute [local go_sem] Oper.semAt_some

set_option maxHeartbeats 3200000 in
set_option maxRecDepth 1000000 in
theorem count_any (X : Nat) (zs : List Int) (s : WS) (most : Nat) (W : World) (hA : WAt W X zs s) (hbz : s.l.busy = false) (hm : (most : Int) < 9223372036854775807) (hpos : ∀ i, i < s.ts.length → 1 ≤ (s.ts.getD i tab0).vars.length) :
    Calls Try.prog 27 #[.pointer (some ⟨X, 0, none⟩), .int .i64 (most : Int)] W fun e W' => e = .returned (.tuple #[.int .i64 ((min most (solN s.d s.bs zs.length []).length : Nat) : Int), .int .i64 0]) ∧ WAt W' X zs s ∧ Fr (s.own X) W W' := by
  have hd8 : s.d.length = 8 := hA.good.dm.len
  have hcb : W.cell? ⟨X, 12, none⟩ = some (.bool false) := (hA.mem.blk.cell 12).trans ((workCells_busy _ _ _ _ hd8).trans (by rw [hbz]))
  have hXl := hA.mem.blk.lt
  have hge : ¬ ((most : Int) < 0) := by omega
  refine (callsIn_wide (n := 9)).1 ?_
  refine callsIn_of_wp_marks Try.func27 rfl trivial ?_ rfl
  simp only [Try.ntmps27, List.size_toArray, List.length_cons, List.length_nil, Nat.reduceAdd, Nat.reduceSub, Array.replicate_succ, Array.replicate_zero, List.push_toArray, List.append_toArray, List.nil_append, List.cons_append]
  gi_wp2_with (refine ⟨trivial, ?_⟩; gi_at_call 26; refine (callsIn_wide.2 (solutions_any X _)).mono ?_; rintro e w' ⟨rfl, rfl⟩)
  obtain ⟨W1, hW1⟩ : ∃ W1, (W.alloc (.cells #[.int .i64 (most : Int)] 3)).alloc (.cells #[.int .i64 0] 3) = W1 := ⟨_, rfl⟩
  have hf1 : Nw W W1 := by rw [← hW1]; exact ((Fr.refl _ W).alloc _).alloc _
  have hs1 : W1.heap.size = W.heap.size + 2 := by rw [← hW1]; simp
  have hb0 : Blk W1 W.heap.size #[.int .i64 (most : Int)] 3 := by rw [← hW1]; exact (Blk.new _ _ _).alloc _
  have hb1 : Blk W1 (W.heap.size + 1) #[.int .i64 0] 3 := by
    have h := Blk.new (W.alloc (.cells #[.int .i64 (most : Int)] 3)) #[.int .i64 0] 3
    rw [hW1] at h
    simpa using h
  rw [hW1]
  have HA := hd hA
  clear hA hW1 hcb
  have hinv : ∀ (R : List (List Nat) → Prop) (c : List (List Nat) → Nat), SolInv X W1.heap.size (fun done C A => (∀ k, C k ↔ k = W.heap.size + 1) ∧ Blk A W.heap.size #[.int .i64 (most : Int)] 3 ∧ Blk A (W.heap.size + 1) #[.int .i64 (c done : Int)] 3 ∧ R done) := fun R c => by
    refine ⟨?_, ?_⟩
    · rintro done C S A B ⟨h1, h2, h3, h4⟩ hf hs
      refine ⟨h1, h2.fr hf (fun h => ?_), h3.fr hf (fun h => ?_), h4⟩
      · rcases hs _ h with h | h <;> omega
      · rcases hs _ h with h | h <;> omega
    · rintro done C A k ⟨h1, h2, h3, h4⟩ hk
      rw [(h1 k).1 hk]
      exact ⟨_, _, h3, by decide⟩
  refine wp_sols (id := 1) (zs := zs) (s := s) (fun v => { tmps := #[.pointer (some ⟨X, 0, none⟩), .int .i64 (most : Int), undef, .pointer (some ⟨W.heap.size, 0, none⟩), .int .i64 0, .int .i64 0, .pointer (some ⟨W.heap.size + 1, 0, none⟩), .bool false, .pointer (some ⟨X, 0, none⟩), .pointer (some ⟨X, 0, none⟩), .pointer (some ⟨X, 12, none⟩), .bool false, .bool false, .int .i64 (most : Int), .bool false, .pointer (some ⟨X, 0, none⟩), .func (.func 46) #[.pointer (some ⟨X, 0, none⟩)] #[], v, undef, undef, undef, undef, undef, undef], defers := [] }) rfl (HA.out.nw hf1) hbz hpos (fun l v W' K hK => ?asg)
    (fun done C A => (∀ k, C k ↔ k = W.heap.size + 1) ∧ Blk A W.heap.size #[.int .i64 (most : Int)] 3 ∧ Blk A (W.heap.size + 1) #[.int .i64 ((done.length : Nat) : Int)] 3 ∧ done.length ≤ most)
    (fun done C A => (∀ k, C k ↔ k = W.heap.size + 1) ∧ Blk A W.heap.size #[.int .i64 (most : Int)] 3 ∧ Blk A (W.heap.size + 1) #[.int .i64 ((most : Nat) : Int)] 3 ∧ done.length = most + 1)
    (hinv (fun done => done.length ≤ most) (fun done => done.length)) (hinv (fun done => done.length = most + 1) (fun _ => most)) (fun k => k = W.heap.size + 1) (fun k hk e => by have := HA.out.mem.lt hk; omega) ⟨fun k => Iff.rfl, hb0, hb1, Nat.zero_le _⟩ ?round ?done ?stop
  case asg =>
    gi_wp2
    exact hK
  case round =>
    rintro lp done C x b cap Wr hpre ⟨hC, h0, h1, hle⟩ hAr hbN hbC hrow
    have c0 : Wr.cell? ⟨W.heap.size, 0, none⟩ = some (.int .i64 (most : Int)) := h0.cell 0
    have c1 : Wr.cell? ⟨W.heap.size + 1, 0, none⟩ = some (.int .i64 ((done.length : Nat) : Int)) := h1.cell 0
    have c1f := h1.free 0
    have H0 := hd h0
    have H1 := hd h1
    have HC := hd hC
    clear h0 h1 hC hAr hrow
    by_cases he : done.length = most
    · have he' : ((done.length : Int) == (most : Int)) = true := by simp [he]
      gi_wp2_with fail
      exact ⟨rfl, C, fun k h => .inl h, Fr.refl _ _, HC.out, H0.out, by rw [← he]; exact H1.out, by simp [he]⟩
    · have he' : ((done.length : Int) == (most : Int)) = false := by rw [beq_eq_false_iff_ne]; omega
      have hlt : (done.length : Int) + 1 < 9223372036854775808 := by omega
      gi_wp2_with fail
      have hf5 : Fr (fun k => k = W.heap.size + 1) Wr (Wr.setCell ⟨W.heap.size + 1, 0, none⟩ (.int .i64 ((done.length : Int) + 1))) := (Fr.refl _ Wr).setCell _ _ (.inl rfl)
      refine ⟨C, fun k h => .inl h, hf5.mono (fun i h => .inl (.inl ((HC.out i).2 h))), HC.out, H0.out.fr hf5 (by omega), ?_, by simp; omega⟩
      have h5 := H1.out.set 0 (.int .i64 ((done.length : Int) + 1))
      have e5 : (((done ++ [x]).length : Nat) : Int) = (done.length : Int) + 1 := by simp
      rw [e5]
      exact h5
  case done =>
    rintro D C' Wd hD hg ⟨hC, h0, h1, hle⟩ hAd hfd hK
    have c1 : Wd.cell? ⟨W.heap.size + 1, 0, none⟩ = some (.int .i64 (((solN s.d s.bs zs.length []).length : Nat) : Int)) := h1.cell 0
    gi_wp2_with fail
    have hpD : Fr (fun k => k = D) Wd (Wd.putObj D (.deferred none)) := (Fr.refl (fun k => k = D) Wd).grown (grownBy_putObj' Wd D _) (fun k hk => by cases hk; exact .inl rfl)
    have hnb : ∀ cur e, ¬ Blk Wd D cur e := fun cur e hb => by
      have hb' : Wd.heap[D]? = some (.cells cur e (0, 0)) := hb
      rw [hK] at hb'
      cases hb'
    refine ⟨by simp, .inl ⟨_, _, rfl, run_takeDeferred hK, ?_⟩⟩
    refine ⟨_, results_tmp2 rfl _ _ _, ?_, hAd.frN hpD (fun k hk e => ?_) (fun k cur hk hb => ?_), ?_⟩
    · have e5 : min most (solN s.d s.bs zs.length []).length = (solN s.d s.bs zs.length []).length := by omega
      rw [e5]
      rfl
    · obtain ⟨cur, e', hb, _⟩ := hAd.mem.ty hk
      rw [e] at hb
      exact hnb _ _ hb
    · rw [hk] at hb
      exact hnb _ _ hb
    · refine ((hf1.mono (fun i h => h.elim)).trans hfd (fun i h => ?_)).trans hpD (fun i h => .inr (by omega))
      rcases h with h | h
      · exact .inr (by omega)
      · exact .inl (.inl h)
  case stop =>
    rintro D C' p x Wd hD hg hpx ⟨hC, h0, h1, hle⟩ hAd hfd hK
    have c1 : Wd.cell? ⟨W.heap.size + 1, 0, none⟩ = some (.int .i64 ((most : Nat) : Int)) := h1.cell 0
    gi_wp2_with fail
    have hpD : Fr (fun k => k = D) Wd (Wd.putObj D (.deferred none)) := (Fr.refl (fun k => k = D) Wd).grown (grownBy_putObj' Wd D _) (fun k hk => by cases hk; exact .inl rfl)
    have hnb : ∀ cur e, ¬ Blk Wd D cur e := fun cur e hb => by
      have hb' : Wd.heap[D]? = some (.cells cur e (0, 0)) := hb
      rw [hK] at hb'
      cases hb'
    refine ⟨by simp, .inl ⟨_, _, rfl, run_takeDeferred hK, ?_⟩⟩
    refine ⟨_, results_tmp2 rfl _ _ _, ?_, hAd.frN hpD (fun k hk e => ?_) (fun k cur hk hb => ?_), ?_⟩
    · have h6 := hpx.length_le
      have e5 : min most (solN s.d s.bs zs.length []).length = most := by omega
      rw [e5]
      rfl
    · obtain ⟨cur, e', hb, _⟩ := hAd.mem.ty hk
      rw [e] at hb
      exact hnb _ _ hb
    · rw [hk] at hb
      exact hnb _ _ hb
    · refine ((hf1.mono (fun i h => h.elim)).trans hfd (fun i h => ?_)).trans hpD (fun i h => .inr (by omega))
      rcases h with h | h
      · exact .inr (by omega)
      · exact .inl (.inl h)
end Go.Proofs.Ytkjfpdfkcfgfkaa

/- counted. -/
namespace Go.Proofs.Ytkjfpdfkcfgfkaa
open Go.RowKit

def rowsC : List (List Int) := [[0, 1], [1, 2]]
def tbC : Tb := ⟨[0, 1], rowsC, false⟩
def dC0 : List Nat := [7, 7, 0, 0, 0, 0, 0, 0]
def dC1 : List Nat := [3, 6, 0, 0, 0, 0, 0, 0]
def dC2 : List Nat := [1, 2, 0, 0, 0, 0, 0, 0]
theorem n_fullC : fullTo [3, 3] [(3 : Int), 3].length = dC0 := by decide
theorem cloC1 : Closure 2 [tbC] dC0 dC1 := clo_live (k := 1) (by decide +kernel) rfl (by decide +kernel) (by decide +kernel)
theorem cloC2 : Closure 2 [tbC] (dC1.set 1 (remV (dC1.getD 1 0) 2)) dC2 := clo_live (k := 1) (by decide +kernel) rfl (by decide +kernel) (by decide +kernel)
theorem dC1_dm : Dm dC1 := dmB_of (by decide)
theorem dC2_dm : Dm dC2 := dmB_of (by decide)
theorem solC1 : (solN dC1 [tbC] 2 []).length = 2 := by decide +kernel
theorem solC2 : (solN dC2 [tbC] 2 []).length = 1 := by decide +kernel
/-- Count, of a Work that is new since w0. -/
theorem count_ws {X : Nat} {zs : List Int} {s : WS} {w0 w : World} (most n : Nat) (h : WAt w X zs s) (hbz : s.l.busy = false) (hm : (most : Int) < 9223372036854775807) (hsi : Since w0 X s) (hf : Nw w0 w) (hn : min most (solN s.d s.bs zs.length []).length = n) :
    Calls Try.prog 27 #[.pointer (some ⟨X, 0, none⟩), .int .i64 (most : Int)] w fun e w' => e = .returned (.tuple #[.int .i64 (n : Int), .int .i64 0]) ∧ WAt w' X zs s ∧ Nw w0 w' ∧ Fr (s.own X) w w' := by
  refine (count_any X zs s most w h hbz hm h.pos).mono ?_
  rintro e w' ⟨rfl, h1, h2⟩
  rw [hn]
  exact ⟨rfl, h1, hf.trans h2 (fun i hi => .inr (hsi i hi)), h2⟩

set_option maxHeartbeats 3200000 in
set_option maxRecDepth 1000000 in
theorem counted_ok (w : World) : Calls Try.prog 24 #[] w fun e w' => e = .returned (.bool true) ∧ Nw w w' := by
  go_enter Try.func24, Try.ntmps24
  go_wp2_with fail
  have hb0 : Blk (w.alloc (.cells #[.int .i64 3, .int .i64 3] 3)) w.heap.size #[.int .i64 3, .int .i64 3] 3 := Blk.new _ _ _
  have hf0 : Nw w (w.alloc (.cells #[.int .i64 3, .int .i64 3] 3)) := (Fr.refl _ w).alloc _
  refine (new_any w.heap.size 0 2 [3, 3] _ (by decide) (by decide) (ints2 hb0)).mono ?_
  rintro e w1 ⟨hf1, hcase⟩
  rcases hcase with ⟨hok, X, szv, rfl, hX1, hs1, hXl, hsl⟩ | ⟨hno, _⟩
  · have hA := new_wat hok hX1 hs1
    have hsi : Since w X (ws0 [3, 3] szv) := fun k hk => by
      simp at hXl hsl
      rcases ws0_own hk with rfl | hk
      · omega
      · have := hsl k hk
        omega
    have hf1' : Nw w w1 := hf0.trans hf1 (fun i h => h.elim)
    have hds : (ws0 [3, 3] szv).d = dC0 := n_fullC
    obtain ⟨s, hs⟩ : ∃ s, ws0 [3, 3] szv = s := ⟨_, rfl⟩
    have hbs : s.bs = [] := by rw [← hs]; rfl
    have hsk : s.sk = [] := by rw [← hs]; rfl
    have htl : s.ts.length = 0 := by rw [← hs]; rfl
    have hbz : s.l.busy = false := by rw [← hs]; rfl
    rw [hs] at hA hsi hds
    have HA := hd hA
    have Hsi := hd hsi
    have Hf := hd hf1'
    clear hb0 hf0 hf1 hX1 hs1 hXl hsl hA hsi hf1' hs
    go_wp2_with fail
    obtain ⟨U, hU⟩ : ∃ U, U = (((w1.alloc (.cells #[.int .i64 0, .int .i64 1] 3)).alloc (.cells #[.int .i64 0, .int .i64 1] 3)).alloc (.cells #[.int .i64 1, .int .i64 2] 3)).alloc (.cells #[.slice (some ⟨w1.heap.size + 1, 0, none⟩) 2 2, .slice (some ⟨w1.heap.size + 1 + 1, 0, none⟩) 2 2] 22) := ⟨_, rfl⟩
    have hfU : Nw w1 U := by rw [hU]; exact ((((Fr.refl _ w1).alloc _).alloc _).alloc _).alloc _
    have hk0 : Blk U w1.heap.size #[.int .i64 0, .int .i64 1] 3 := by rw [hU]; exact (((Blk.new _ _ _).alloc _).alloc _).alloc _
    have hk1 : Blk U (w1.heap.size + 1) #[.int .i64 0, .int .i64 1] 3 := by
      rw [hU]
      have := ((Blk.new (w1.alloc (.cells #[.int .i64 0, .int .i64 1] 3)) #[.int .i64 0, .int .i64 1] 3).alloc (.cells #[.int .i64 1, .int .i64 2] 3)).alloc (.cells #[.slice (some ⟨w1.heap.size + 1, 0, none⟩) 2 2, .slice (some ⟨w1.heap.size + 1 + 1, 0, none⟩) 2 2] 22)
      simpa using this
    have hk2 : Blk U (w1.heap.size + 1 + 1) #[.int .i64 1, .int .i64 2] 3 := by
      rw [hU]
      have := (Blk.new ((w1.alloc (.cells #[.int .i64 0, .int .i64 1] 3)).alloc (.cells #[.int .i64 0, .int .i64 1] 3)) #[.int .i64 1, .int .i64 2] 3).alloc (.cells #[.slice (some ⟨w1.heap.size + 1, 0, none⟩) 2 2, .slice (some ⟨w1.heap.size + 1 + 1, 0, none⟩) 2 2] 22)
      simpa using this
    have hk3 : Blk U (w1.heap.size + 1 + 1 + 1) #[.slice (some ⟨w1.heap.size + 1, 0, none⟩) 2 2, .slice (some ⟨w1.heap.size + 1 + 1, 0, none⟩) 2 2] 22 := by
      rw [hU]
      have := Blk.new (((w1.alloc (.cells #[.int .i64 0, .int .i64 1] 3)).alloc (.cells #[.int .i64 0, .int .i64 1] 3)).alloc (.cells #[.int .i64 1, .int .i64 2] 3)) #[.slice (some ⟨w1.heap.size + 1, 0, none⟩) 2 2, .slice (some ⟨w1.heap.size + 1 + 1, 0, none⟩) 2 2] 22
      simpa using this
    have hrw : RowsAt U (some ⟨w1.heap.size + 1 + 1 + 1, 0, none⟩) rowsC := fun i hi => by
      match i, hi with
      | 0, _ => exact ⟨_, 0, _, 2, rfl, hk3.lt, hk3.cell 0, ints2 hk1⟩
      | 1, _ => exact ⟨_, 0, _, 2, rfl, hk3.lt, hk3.cell 1, ints2 hk2⟩
    rw [← hU]
    have hA0 := HA.out.nw hfU
    have hf0 := Hf.out.trans hfU (fun i h => h.elim)
    refine (post_clo (zs := [3, 3]) (s := s) (vars := [0, 1]) (rows := rowsC) (nt := false) (way := 2) hA0 hbz (by decide) (ints2 hk0) hrw (by unfold postOf; rw [htl, hsk, hds]; decide) (r := dC1) dC1_dm (by rw [hbs, hds]; exact cloC1)).mono ?_
    rintro e x1 ⟨rfl, s1, hA1, hst, hds1, hbs1, hsk1, hbz1, htl1⟩
    obtain ⟨hsi1, hfx1⟩ := hst.since Hsi.out hf0
    rw [hbs] at hbs1
    have HA1 := hd hA1
    have Hsi1 := hd hsi1
    have Hf1 := hd hfx1
    clear HA Hf Hsi hU hfU hk0 hk1 hk2 hk3 hrw hA0 hf0 hst hA1 hsi1 hfx1
    go_wp2_with fail
    refine (count_ws (zs := [3, 3]) (s := s1) 9 2 HA1.out hbz1 (by decide) Hsi1.out Hf1.out (by rw [hds1, hbs1]; exact congrArg (min 9) solC1)).mono ?_
    rintro e x2 ⟨rfl, hA2, hf2, _⟩
    have HA2 := hd hA2
    have Hf2 := hd hf2
    clear HA1 Hf1 hA2 hf2
    go_wp2_with fail
    refine (remove_clo (zs := [3, 3]) (s := s1) (v := 1) (value := 2) HA2.out hbz1 (by rw [hds1]; decide) (r := dC2) dC2_dm (by rw [hds1, hbs1]; exact cloC2)).mono ?_
    rintro e x3 ⟨rfl, s3, hA3, hst3, hds3, hbs3, hsk3, hbz3⟩
    obtain ⟨hsi3, hf3⟩ := hst3.since Hsi1.out Hf2.out
    rw [hbs1] at hbs3
    have HA3 := hd hA3
    have Hsi3 := hd hsi3
    have Hf3 := hd hf3
    clear HA2 Hf2 Hsi1 hA3 hsi3 hf3 hst3
    go_wp2_with fail
    refine (count_ws (zs := [3, 3]) (s := s3) 9 1 HA3.out hbz3 (by decide) Hsi3.out Hf3.out (by rw [hds3, hbs3]; exact congrArg (min 9) solC2)).mono ?_
    rintro e x4 ⟨rfl, hA4, hf4, _⟩
    have Hf4 := hd hf4
    clear HA3 Hf3 Hsi3 hA4 hf4
    go_wp2
    go_ret
    exact ⟨rfl, Hf4.out⟩
  · exact absurd hno (by decide)
end Go.Proofs.Ytkjfpdfkcfgfkaa

/- Alike: two fretworks, whose tables are the same but for their order and their ways. -/
namespace Go.Proofs.Ytkjfpdfkcfgfkaa
open Go.RowKit

/-- Values removed one by one. -/
def remAll (st : List Nat) (l : List (Nat × Nat)) : List Nat := l.foldl (fun st p => st.set p.1 (remV (st.getD p.1 0) p.2)) st
/-- What was asked of a Work at level 0, and what it is. -/
structure PSem (zs : List Int) (s : WS) (bs : List Tb) (st : List Nat) : Prop where
  busy : s.l.busy = false
  sk : s.sk = []
  clo : Closure zs.length bs st s.d
  all : Full zs.length s.d → s.bs = bs
  few : s.ts.length ≤ bs.length
  sdm : Dm st
theorem PSem.of_posted {w0 w : World} {X : Nat} {zs : List Int} {s : WS} {bs : List Tb} {st : List Nat} (h : Posted w0 w X zs s bs st) : PSem zs s bs st := ⟨h.busy, h.sk, h.clo, h.all, h.few, h.sdm⟩
/-- Two fretworks side by side. -/
structure Two (w0 w : World) (X Y : Nat) (zs : List Int) (s t : WS) : Prop where
  a : WAt w X zs s
  b : WAt w Y zs t
  apart : ∀ q, t.own Y q → ¬ s.own X q
  sa : Since w0 X s
  sb : Since w0 Y t
  nw : Nw w0 w
/-- A table with the other way. -/
def Tw.flip (t : Tw) : Tw := ⟨t.tb, 3 - t.way⟩
end Go.Proofs.Ytkjfpdfkcfgfkaa
