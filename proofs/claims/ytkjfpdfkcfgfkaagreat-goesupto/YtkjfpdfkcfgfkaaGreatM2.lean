/- Parts of the proof, number 2: contracts of the functions that the statement calls. -/
import Derived.Test.YtkjfpdfkcfgfkaaGreatM1
import Derived.Sort.CutIn
import Derived.Deep.MidRow

namespace Go.Proofs.YtkjfpdfkcfgfkaaGreat
open Go.RowKit Go.Maps Go.Shelf
attribute [local go_sem] Oper.semAt_some

set_option maxHeartbeats 3200000 in
set_option maxRecDepth 1000000 in
theorem build_goB (b M Dm : Nat) (vo : Option Addr) (vcap : Nat) (trv : Value) (way : Int) (vars : List Int) (dn : List Nat) (m i : Nat)
  (h8 : dn.length = 8) (h4 : vars.length ≤ 4) (hv : ∀ i, i < vars.length → 0 ≤ vars.getD i 0 ∧ vars.getD i 0 < 8) (hd64 : ∀ q, dn.getD q 0 < 64)
  (hi : i < vars.length) (ih : BuildOk b M Dm vo vcap trv true way vars dn m (i + 1)) (rows : List (List Int)) (ns : List (List Nat)) (nv : Value) (ro : Option Addr) (rcap : Nat) (w : World)
  (hrl : rows.length ≤ 60) (hrow : ∀ j, j < rows.length → (rows.getD j []).length = vars.length) (hne : rows = []) (hcnt : ns.length + cnt (m + 1) < 100000) (hB : Bld w b M nv ns) (hvs : IntsIn w (fun k => ¬ FP b M nv k) vo vars) (hrs : RowsIn w (fun k => ¬ FP b M nv k) ro rows) (hDm : Blk w Dm (domV dn) 60) :
  Calls Tryz.prog 67 #[.pointer (some ⟨b, 0, none⟩), .agg #[.slice vo vars.length vcap, trv, .bool true, .int .i64 way], .slice ro rows.length rcap, .int .i64 i, .pointer (some ⟨Dm, 0, none⟩)] w fun e w' =>
   e = .returned (.int .i64 ((bldTo vars true dn (m + 1) i rows ns).2 : Nat)) ∧ ∃ nv', Bld w' b M nv' (bldTo vars true dn (m + 1) i rows ns).1 ∧ Fr (FP b M nv) w w' ∧ (∀ k, nv'.ownBlock = some k → nv.ownBlock = some k ∨ w.heap.size ≤ k) := by
 have hmf : ∀ (fn : Fn) (first cap : Array Value) (w : World), (Instr.makeFunc fn first cap).run Tryz.prog w = .ok (.func fn first cap) w := fun _ _ _ _ => rfl
 obtain ⟨hv0, hv8⟩ := hv i hi
 obtain ⟨q, hq⟩ : ∃ q : Nat, vars.getD i 0 = (q : Int) := ⟨(vars.getD i 0).toNat, by omega⟩
 obtain ⟨vb, vof, hvo, hvbl, hvbN, hvc⟩ := hvs i hi
 subst hvo
 rw [hq] at hv0 hv8 hvc
 have hq8 : q < 8 := by omega
 have hDN : ¬ FP b M nv Dm := hB.other hDm (by decide) (by decide)
 obtain ⟨sx, hsxe⟩ : ∃ sx, dn.getD q 0 = sx := ⟨_, rfl⟩
 have hsx := hd64 q
 rw [hsxe] at hsx
 obtain ⟨fin, hfin⟩ : ∃ fin, (vals sx).foldl (bldStep (bldTo vars true dn m (i + 1)) rows i) (ns, zero6) = fin := ⟨_, rfl⟩
 have hbt : bldTo vars true dn (m + 1) i rows ns = numberTo fin.1 fin.2 := by
  have hne' : (rows.isEmpty && !true) = false := by simp
  rw [bldTo, hne', hq, Int.toNat_natCast, hsxe, hfin]
  simp
 rw [hbt]
 have hg1 : ((rows.length : Int) == 0) = true := by rw [hne]; rfl
 have Hne := hd hne
 clear hne
 have hin0 : ((i : Int) == (vars.length : Int)) = false := by simp; omega
 obtain ⟨W, hW⟩ : ∃ W, W = boxedB w b #[.slice (some ⟨vb, vof, none⟩) vars.length vcap, trv, .bool true, .int .i64 way] (.slice ro rows.length rcap) i Dm := ⟨_, rfl⟩
 have hfW : Nw w W := by rw [hW]; exact boxedB_nw ..
 have hbx : BBox W w.heap.size b #[.slice (some ⟨vb, vof, none⟩) vars.length vcap, trv, .bool true, .int .i64 way] (.slice ro rows.length rcap) i Dm := by rw [hW]; exact boxedB_box ..
 have hsW : W.heap.size = w.heap.size + 5 := by rw [hW]; simp [boxedB]
 have a1 : W.cell? ⟨w.heap.size + 1, 0, none⟩ = some (.slice (some ⟨vb, vof, none⟩) vars.length vcap) := hbx.b1.cell 0
 have a2 : W.cell? ⟨w.heap.size + 1, 2, none⟩ = some (.bool true) := hbx.b1.cell 2
 have a3 : W.cell? ⟨w.heap.size + 1 + 1, 0, none⟩ = some (.slice ro rows.length rcap) := hbx.b2.cell 0
 have a4 : W.cell? ⟨w.heap.size + 1 + 1 + 1, 0, none⟩ = some (.int .i64 (i : Int)) := hbx.b3.cell 0
 have HW := hd hW
 have Hbx := hd hbx
 have HsW := hd hsW
 have HB := hd hB
 have Hvs := hd hvs
 have Hrs := hd hrs
 have HDm := hd hDm
 have Hfin := hd hfin
 have Hsxe := hd hsxe
 have Hq := hd hq
 have Hih := hd ih
 clear hW hbx hsW hB hvs hrs hDm hfin hsxe hq hbt ih
 refine (callsIn_wide (n := 9)).1 ?_
 refine callsIn_of_wp_marks Tryz.func67 rfl trivial ?_ rfl
 simp only [Tryz.ntmps67, List.size_toArray, List.length_cons, List.length_nil, Nat.reduceAdd, Nat.reduceSub, Array.replicate_succ, Array.replicate_zero, List.push_toArray, List.append_toArray, List.nil_append, List.cons_append]
 gi_upto_region 1 with fail
 rw [show ((((w.alloc (.cells #[.pointer (some ⟨b, 0, none⟩)] 113)).alloc (.cells #[.slice (some ⟨vb, vof, none⟩) vars.length vcap, trv, .bool true, .int .i64 way] 41)).alloc (.cells #[.slice ro rows.length rcap] 26)).alloc (.cells #[.int .i64 (i : Int)] 3)).alloc (.cells #[.pointer (some ⟨Dm, 0, none⟩)] 116) = W from HW.out.symm]
 clear HW
 gi_upto_region 7 with fail
 gi_upto_region 8 with fail
 obtain ⟨Z, hZ⟩ : ∃ Z, Z = W.alloc (.cells (nodeC zero6).toArray 151) := ⟨_, rfl⟩
 have hfZ : Nw W Z := by rw [hZ]; exact (Fr.refl _ W).alloc _
 have hbZ : Blk Z W.heap.size (nodeC zero6).toArray 151 := by rw [hZ]; exact Blk.new _ _ _
 rw [show W.alloc (Obj.cells #[Value.int .i64 0, .int .i64 0, .int .i64 0, .int .i64 0, .int .i64 0, .int .i64 0] 151) = Z from hZ.symm]
 have hwZ : Nw w Z := hfW.trans hfZ (fun i h => h.elim)
 have hMl : M < w.heap.size := HB.out.lt (.inr (.inl rfl))
 have hbl : b < w.heap.size := HB.out.lt (.inl rfl)
 have hI0 : BldI w Z b M Dm nv #[.slice (some ⟨vb, vof, none⟩) vars.length vcap, trv, .bool true, .int .i64 way] (.slice ro rows.length rcap) i W.heap.size (ns, zero6) :=
  ⟨hwZ.mono (fun i h => h.elim), Hbx.out.fr hfZ (fun k _ _ x => x), hbZ, ⟨nv, HB.out.nw hwZ, fun k hk => .inl hk, fun e => by have := HB.out.lt (.inr (.inr e)); have := HsW.out; omega⟩⟩
 have a1' : Z.cell? ⟨w.heap.size + 1, 0, none⟩ = some (.slice (some ⟨vb, vof, none⟩) vars.length vcap) := hI0.bx.b1.cell 0
 have a4' : Z.cell? ⟨w.heap.size + 1 + 1 + 1, 0, none⟩ = some (.int .i64 (i : Int)) := hI0.bx.b3.cell 0
 have a5' : Z.cell? ⟨w.heap.size + 1 + 1 + 1 + 1, 0, none⟩ = some (.pointer (some ⟨Dm, 0, none⟩)) := hI0.bx.b4.cell 0
 have aV : Z.cell? ⟨vb, vof + i, none⟩ = some (.int .i64 (q : Int)) := (hwZ.cell hvbl (fun x => x)).trans hvc
 have aD : Z.cell? ⟨Dm, q, none⟩ = some (.int .u8 (sx : Int)) := by rw [← Hsxe.out]; exact ((HDm.out.nw hwZ).cell q).trans (domV_get dn q (by omega))
 have hszZ : w.heap.size + 6 ≤ Z.heap.size := by have := hbZ.lt; have := HsW.out; omega
 have HI0 := hd hI0
 have hiV : (i : Int) < (vars.length : Int) := by omega
 clear hI0 hZ hbZ a1 a2 a3 a4 hvc
 refine wpIn_wide.2 ?_
 go_still (by kernel_rfl)
 go_wp2
 gi_wp2_with fail
 show Code.wpIn _ _ _ _ _ _ Z.drew
 have hszZd : Z.drew.heap.size = Z.heap.size := rfl
 refine wp_each (show sx < 256 by omega) rfl (by simp) (fun pre A => BldI w A b M Dm nv #[.slice (some ⟨vb, vof, none⟩) vars.length vcap, trv, .bool true, .int .i64 way] (.slice ro rows.length rcap) i W.heap.size (pre.foldl (bldStep (bldTo vars true dn m (i + 1)) rows i) (ns, zero6)))
  (fun pre A B h hb => h.bk hb (by rw [hszZd]; omega) (by rw [hszZd]; omega)) HI0.out.drew ?body ?done
 case body =>
  rintro l pre v A hpre hI
  have hmem : v ∈ vals sx := hpre.subset (List.mem_append_right pre (List.mem_singleton.2 rfl))
  have hv6 : v < 6 := vals_lt6 hsx hmem
  have hplen : pre.length + 1 ≤ 6 := by
   have h1 := hpre.length_le
   have h2 := vals_len hsx
   simp at h1
   omega
  obtain ⟨st, hst⟩ : ∃ st, pre.foldl (bldStep (bldTo vars true dn m (i + 1)) rows i) (ns, zero6) = st := ⟨_, rfl⟩
  rw [hst] at hI
  have hstep : (pre ++ [v]).foldl (bldStep (bldTo vars true dn m (i + 1)) rows i) (ns, zero6) = bldStep (bldTo vars true dn m (i + 1)) rows i st v := by rw [List.foldl_append, hst]; rfl
  rw [hstep]
  obtain ⟨hlen, hs6, hsx6⟩ := bldFold vars true dn hd64 m i rows ns HB.out.two pre st hst
  have hcm : st.1.length + cnt m < 100000 := by
   have h1 : pre.length * cnt m ≤ 5 * cnt m := Nat.mul_le_mul_right _ (by omega)
   simp only [cnt] at hcnt
   omega
  obtain ⟨nvk, hBk, hnk, hnN⟩ := hI.bld
  obtain ⟨r, hre⟩ : ∃ r, bldTo vars true dn m (i + 1) (bearRows rows i v) st.1 = r := ⟨_, rfl⟩
  have hrl2 := bldTo_len vars true dn hd64 m (i + 1) (bearRows rows i v) st.1 (by have := HB.out.two; omega)
  rw [hre] at hrl2
  obtain ⟨st', hst'⟩ : ∃ st', bldStep (bldTo vars true dn m (i + 1)) rows i st v = st' := ⟨_, rfl⟩
  have hst2 : st' = (r.1, st.2.set v r.2) := by rw [← hst']; unfold bldStep; rw [hre]
  rw [hst']
  have Hst2 := hd hst2
  clear hst hstep hst' hst2 hpre hmem a1' a4' a5' aV aD HI0
  have HI := hd hI
  have HBk := hd hBk
  have Hre := hd hre
  clear hI hBk hre
  gi_wp2_with fail
  have hK0 : BBox A.drew w.heap.size b #[.slice (some ⟨vb, vof, none⟩) vars.length vcap, trv, .bool true, .int .i64 way] (.slice ro rows.length rcap) i Dm := ⟨HI.out.bx.b0, HI.out.bx.b1, HI.out.bx.b2, HI.out.bx.b3, HI.out.bx.b4⟩
  refine wpIn_H (S := fun w'' => BBox w'' w.heap.size b #[.slice (some ⟨vb, vof, none⟩) vars.length vcap, trv, .bool true, .int .i64 way] (.slice ro rows.length rcap) i Dm) (by kernel_rfl) (fun a w h => h) ?_
  refine wpAnyH_take (i := 0) (v := .int .i64 (v : Int)) rfl (by kernel_rfl) (by kernel_rfl) (by kernel_rfl) (fun _ _ _ h => h) (.inl ⟨by kernel_rfl, fun w'' hS => by kernel_rfl⟩) hK0 ?_
  refine wpAnyH_take (i := 1) (v := .pointer (some ⟨b, 0, none⟩)) rfl (by kernel_rfl) (by kernel_rfl) (by kernel_rfl) (fun _ _ _ h => h) (.inl ⟨by kernel_rfl, fun w'' hS => ?_⟩) hK0 ?_
  ·have q0 : w''.cell? ⟨w.heap.size, 0, none⟩ = some (.pointer (some ⟨b, 0, none⟩)) := hS.b0.cell 0
   clear hK0 hS hg1 hin0 hcnt hv0 hv8 hcm hlen hrl2 hplen hnk hnN hrow hv hd64 hmf
   simp only [Act.put, List.setIfInBounds_toArray, List.set_cons_zero, List.set_cons_succ, List.getElem_toArray, List.getElem_cons_zero, List.getElem_cons_succ]
   go_simp
  refine wpAnyH_take (i := 2) (v := .agg #[.slice (some ⟨vb, vof, none⟩) vars.length vcap, trv, .bool true, .int .i64 way]) rfl (by kernel_rfl) (by kernel_rfl) (by kernel_rfl) (fun _ _ _ h => h) (.inl ⟨by kernel_rfl, fun w'' hS => ?_⟩) hK0 ?_
  ·have q0 : w''.cell? ⟨w.heap.size + 1, 0, none⟩ = some (.slice (some ⟨vb, vof, none⟩) vars.length vcap) := hS.b1.cell 0
   have q1 : w''.cell? ⟨w.heap.size + 1, 1, none⟩ = some trv := hS.b1.cell 1
   have q2 : w''.cell? ⟨w.heap.size + 1, 2, none⟩ = some (.bool true) := hS.b1.cell 2
   have q3 : w''.cell? ⟨w.heap.size + 1, 3, none⟩ = some (.int .i64 way) := hS.b1.cell 3
   clear hK0 hS hg1 hin0 hcnt hv0 hv8 hcm hlen hrl2 hplen hnk hnN hrow hv hd64 hmf
   simp only [Act.put, List.setIfInBounds_toArray, List.set_cons_zero, List.set_cons_succ, List.getElem_toArray, List.getElem_cons_zero, List.getElem_cons_succ]
   go_simp
  refine wpAnyH_take (i := 3) (v := .slice ro rows.length rcap) rfl (by kernel_rfl) (by kernel_rfl) (by kernel_rfl) (fun _ _ _ h => h) (.inl ⟨by kernel_rfl, fun w'' hS => ?_⟩) hK0 ?_
  ·have q0 : w''.cell? ⟨w.heap.size + 1 + 1, 0, none⟩ = some (.slice ro rows.length rcap) := hS.b2.cell 0
   clear hK0 hS hg1 hin0 hcnt hv0 hv8 hcm hlen hrl2 hplen hnk hnN hrow hv hd64 hmf
   simp only [Act.put, List.setIfInBounds_toArray, List.set_cons_zero, List.set_cons_succ, List.getElem_toArray, List.getElem_cons_zero, List.getElem_cons_succ]
   go_simp
  refine wpAnyH_take (i := 4) (v := .int .i64 (i : Int)) rfl (by kernel_rfl) (by kernel_rfl) (by kernel_rfl) (fun _ _ _ h => h) (.inl ⟨by kernel_rfl, fun w'' hS => ?_⟩) hK0 ?_
  ·have q0 : w''.cell? ⟨w.heap.size + 1 + 1 + 1, 0, none⟩ = some (.int .i64 (i : Int)) := hS.b3.cell 0
   clear hK0 hS hg1 hin0 hcnt hv0 hv8 hcm hlen hrl2 hplen hnk hnN hrow hv hd64 hmf
   simp only [Act.put, List.setIfInBounds_toArray, List.set_cons_zero, List.set_cons_succ, List.getElem_toArray, List.getElem_cons_zero, List.getElem_cons_succ]
   go_simp
  refine wpAnyH_take (i := 5) (v := .int .i64 (v : Int)) rfl (by kernel_rfl) (by kernel_rfl) (by kernel_rfl) (fun _ _ _ h => h) (.inl ⟨by kernel_rfl, fun w'' hS => by kernel_rfl⟩) hK0 ?_
  refine wpAnyH_take (i := 7) (v := .int .i64 (i : Int)) rfl (by kernel_rfl) (by kernel_rfl) (by kernel_rfl) (fun _ _ _ h => h) (.inl ⟨by kernel_rfl, fun w'' hS => ?_⟩) hK0 ?_
  ·have q0 : w''.cell? ⟨w.heap.size + 1 + 1 + 1, 0, none⟩ = some (.int .i64 (i : Int)) := hS.b3.cell 0
   clear hK0 hS hg1 hin0 hcnt hv0 hv8 hcm hlen hrl2 hplen hnk hnN hrow hv hd64 hmf
   simp only [Act.put, List.setIfInBounds_toArray, List.set_cons_zero, List.set_cons_succ, List.getElem_toArray, List.getElem_cons_zero, List.getElem_cons_succ]
   go_simp
  refine wpAnyH_take (i := 8) (v := .int .i64 ((i + 1 : Nat) : Int)) rfl (by kernel_rfl) (by kernel_rfl) (by kernel_rfl) (fun _ _ _ h => h) (.inl ⟨by kernel_rfl, fun w'' hS => ?_⟩) hK0 ?_
  ·clear hK0 hS hg1 hin0 hcnt hv0 hv8 hcm hlen hrl2 hplen hnk hnN hrow hv hd64 hmf
   simp only [Act.put, List.setIfInBounds_toArray, List.set_cons_zero, List.set_cons_succ, List.getElem_toArray, List.getElem_cons_zero, List.getElem_cons_succ]
   go_simp
   rw [IntKind.wrap_i64]
   omega
  refine wpAnyH_take (i := 9) (v := .pointer (some ⟨Dm, 0, none⟩)) rfl (by kernel_rfl) (by kernel_rfl) (by kernel_rfl) (fun _ _ _ h => h) (.inl ⟨by kernel_rfl, fun w'' hS => ?_⟩) hK0 ?_
  ·have q0 : w''.cell? ⟨w.heap.size + 1 + 1 + 1 + 1, 0, none⟩ = some (.pointer (some ⟨Dm, 0, none⟩)) := hS.b4.cell 0
   clear hK0 hS hg1 hin0 hcnt hv0 hv8 hcm hlen hrl2 hplen hnk hnN hrow hv hd64 hmf
   simp only [Act.put, List.setIfInBounds_toArray, List.set_cons_zero, List.set_cons_succ, List.getElem_toArray, List.getElem_cons_zero, List.getElem_cons_succ]
   go_simp
  refine wpAnyH_take (i := 11) (v := .pointer (some ⟨W.heap.size, 0, none⟩)) rfl (by kernel_rfl) (by kernel_rfl) (by kernel_rfl) (fun _ _ _ h => h) (.inl ⟨by kernel_rfl, fun w'' hS => by kernel_rfl⟩) hK0 ?_
  refine wpAnyH_all (rs := [6]) (by kernel_rfl) (by simp) (fun j hj => ?_)
  obtain rfl : j = 6 := by simpa using hj
  have hNstep : ∀ k, k < w.heap.size → ¬ FP b M nv k → ¬ FP b M nv k ∧ ¬ FP b M nvk k := fun k hk hn => ⟨hn, fun h => by
   rcases h with h | h | h
   ·exact hn (.inl h)
   ·exact hn (.inr (.inl h))
   ·rcases hnk k h with h1 | h1
    ·exact hn (.inr (.inr h1))
    ·omega⟩
  have hrsA : RowsIn A (fun k => ¬ FP b M nvk k) ro rows := Hrs.out.fr HI.out.fr hNstep
  have hvsA : IntsIn A (fun k => ¬ FP b M nvk k) (some ⟨vb, vof, none⟩) vars := Hvs.out.fr HI.out.fr hNstep
  have hDA : Blk A Dm (domV dn) 60 := HDm.out.fr HI.out.fr hDN
  refine op_enter (f := 86) (args := #[.slice ro rows.length rcap, .int .i64 (i : Int), .int .i64 (v : Int)]) (w' := A.drew) rfl (by kernel_rfl) (by kernel_rfl) ?_
  refine (bearing_any ro rcap rows i v A.drew hrl (fun k => ¬ FP b M nvk k) (hrsA.fr ((Fr.refl (fun _ => False) A).drew) (fun k _ hk => ⟨fun x => x, hk⟩)) (fun j hj => by rw [hrow j hj]; exact ⟨hi, h4⟩)).mono ?_
  rintro e A1 ⟨ro', rc', rfl, hf1, hrs1⟩
  have hf1' : Nw A A1 := hf1.of_drew
  have hbx1 : BBox A1 w.heap.size b #[.slice (some ⟨vb, vof, none⟩) vars.length vcap, trv, .bool true, .int .i64 way] (.slice ro rows.length rcap) i Dm := HI.out.bx.fr hf1' (fun k _ _ x => x)
  refine ⟨_, rfl, hbx1, ?_⟩
  refine wpAnyH_all (rs := [10]) (by kernel_rfl) (by simp) (fun j hj => ?_)
  obtain rfl : j = 10 := by simpa using hj
  have hB1 := HBk.out.nw hf1'
  have hrs1' : RowsIn A1 (fun k => ¬ FP b M nvk k) ro' (bearRows rows i v) := hrs1.fr (Fr.refl (fun _ => False) A1) (fun k _ hk => ⟨fun x => x, by
   rcases hk with h | h
   ·exact h
   ·intro hF
    have := HBk.out.lt hF
    have h' : A.heap.size ≤ k := h
    omega⟩)
  have hbl1 : (bearRows rows i v).length ≤ 60 := Nat.le_trans (List.length_filter_le _ _) hrl
  have hbrow : ∀ j, j < (bearRows rows i v).length → ((bearRows rows i v).getD j []).length = vars.length := fun j hj => by
   have hmem : (bearRows rows i v)[j] ∈ rows := (List.mem_filter.1 (List.getElem_mem hj)).1
   obtain ⟨t, ht, he⟩ := List.getElem_of_mem hmem
   have h1 := hrow t ht
   simp only [List.getD, List.getElem?_eq_getElem ht, Option.getD_some, he] at h1
   simpa [List.getD, hj] using h1
  refine op_enter (f := 67) (args := #[.pointer (some ⟨b, 0, none⟩), .agg #[.slice (some ⟨vb, vof, none⟩) vars.length vcap, trv, .bool true, .int .i64 way], .slice ro' (bearRows rows i v).length rc', .int .i64 ((i + 1 : Nat) : Int), .pointer (some ⟨Dm, 0, none⟩)]) (w' := A1) rfl (by kernel_rfl) (by kernel_rfl) ?_
  refine (Hih.out (bearRows rows i v) st.1 nvk ro' rc' A1 hbl1 hbrow hcm hB1 (hvsA.fr hf1' (fun k _ hk => ⟨fun x => x, hk⟩)) hrs1' (hDA.nw hf1')).mono ?_
  rw [Hre.out]
  rintro e A2 ⟨rfl, nv2, hB2, hf2, hn2⟩
  have hs1 := hf1'.size
  have hAs : W.heap.size < A.heap.size := HI.out.bN.lt
  have hWs := HsW.out
  have hFPb : ∀ k, FP b M nvk k → k < A.heap.size := fun k hk => HBk.out.lt hk
  have hbxN : ∀ k, w.heap.size ≤ k → k ≤ w.heap.size + 4 → ¬ FP b M nvk k := fun k h1 h2 => by
   have hk : k = w.heap.size ∨ k = w.heap.size + 1 ∨ k = w.heap.size + 1 + 1 ∨ k = w.heap.size + 1 + 1 + 1 ∨ k = w.heap.size + 1 + 1 + 1 + 1 := by omega
   rcases hk with rfl | rfl | rfl | rfl | rfl
   ·exact HBk.out.other HI.out.bx.b0 (by decide) (by decide)
   ·exact HBk.out.other HI.out.bx.b1 (by decide) (by decide)
   ·exact HBk.out.other HI.out.bx.b2 (by decide) (by decide)
   ·exact HBk.out.other HI.out.bx.b3 (by decide) (by decide)
   ·exact HBk.out.other HI.out.bx.b4 (by decide) (by decide)
  have hNnF : ¬ FP b M nvk W.heap.size := by
   rintro (h | h | h)
   ·omega
   ·omega
   ·exact hnN h
  have hbx2 : BBox A2 w.heap.size b #[.slice (some ⟨vb, vof, none⟩) vars.length vcap, trv, .bool true, .int .i64 way] (.slice ro rows.length rcap) i Dm := hbx1.fr hf2 hbxN
  have hN2 : Blk A2 W.heap.size (nodeC st.2).toArray 151 := (HI.out.bN.nw hf1').fr hf2 hNnF
  refine ⟨_, rfl, hbx2, ?_⟩
  refine wpAnyH_all (rs := [12]) (by kernel_rfl) (by simp) (fun j hj => ?_)
  obtain rfl : j = 12 := by simpa using hj
  refine op_value (v := .pointer (some ⟨W.heap.size, v, none⟩)) (w' := A2) rfl (by kernel_rfl) ?_ ⟨hbx2, ?_⟩
  ·have hv0' : (0 : Int) ≤ (v : Int) := by omega
   have hv6' : (v : Int) < 6 := by omega
   clear hK0 hg1 hin0 hcnt hv0 hv8 hcm hlen hrl2 hplen hnk hnN hrow hv hd64 hmf hrsA hvsA hDA hf1 hrs1 hf1' hbx1 hB1 hrs1' hbl1 hbrow hB2 hf2 hn2 hs1 hAs hWs hFPb hbxN hNnF hbx2 hN2 hNstep
   simp only [Act.put, List.setIfInBounds_toArray, List.set_cons_zero, List.set_cons_succ, List.getElem_toArray, List.getElem_cons_zero, List.getElem_cons_succ]
   go_simp
  refine wpAnyH_all (rs := [13]) (by kernel_rfl) (by simp) (fun j hj => ?_)
  obtain rfl : j = 13 := by simpa using hj
  have hvl : v < (nodeC st.2).toArray.size := by simp [nodeC, hs6]; omega
  obtain ⟨ov, hcN⟩ : ∃ ov, A2.cell? ⟨W.heap.size, v, none⟩ = some ov := ⟨_, (hN2.cell v).trans (Array.getElem?_eq_getElem hvl)⟩
  have hfN := hN2.free v
  obtain ⟨A3, hA3⟩ : ∃ A3, A3 = A2.setCell ⟨W.heap.size, v, none⟩ (.int .i64 (r.2 : Int)) := ⟨_, rfl⟩
  have hf3 : Fr (fun k => k = W.heap.size) A2 A3 := by rw [hA3]; exact (Fr.refl _ A2).setCell _ _ (.inl rfl)
  have hbx3 : BBox A3 w.heap.size b #[.slice (some ⟨vb, vof, none⟩) vars.length vcap, trv, .bool true, .int .i64 way] (.slice ro rows.length rcap) i Dm := hbx2.fr hf3 (fun k h1 h2 e => by omega)
  have hN3 : Blk A3 W.heap.size (nodeC (st.2.set v r.2)).toArray 151 := by
   rw [hA3]
   have h5 := hN2.set v (.int .i64 (r.2 : Int))
   have e5 : (nodeC st.2).toArray.setIfInBounds v (.int .i64 (r.2 : Int)) = (nodeC (st.2.set v r.2)).toArray := by simp [nodeC, List.map_set]
   rw [e5] at h5
   exact h5
  refine op_skip (w' := A3) rfl (by kernel_rfl) ?_ ⟨hbx3, wpAnyH_done (by kernel_rfl) ?_ _⟩
  ·rw [hA3]
   clear hK0 hg1 hin0 hcnt hv0 hv8 hcm hlen hrl2 hplen hnk hnN hrow hv hd64 hmf hrsA hvsA hDA hf1 hrs1 hf1' hbx1 hB1 hrs1' hbl1 hbrow hB2 hf2 hn2 hs1 hAs hWs hFPb hbxN hNnF hbx2 hN2 hNstep hA3 hf3 hbx3 hN3 hvl hs6 hsx6
   simp only [Act.put, List.setIfInBounds_toArray, List.set_cons_zero, List.set_cons_succ, List.getElem_toArray, List.getElem_cons_zero, List.getElem_cons_succ]
   go_simp
  simp only [Act.put, List.setIfInBounds_toArray, List.set_cons_zero, List.set_cons_succ, List.getElem_toArray, List.getElem_cons_zero, List.getElem_cons_succ]
  have hFA2 : Fr (FP b M nvk) A A2 := (hf1'.mono (fun i h => h.elim)).trans hf2 (fun k h => .inl h)
  have hFA3 : Fr (fun k => FP b M nvk k ∨ k = W.heap.size) A A3 := (hFA2.mono (fun k h => .inl (.inl h))).trans hf3 (fun k h => .inl (.inr h))
  have hB3 : Bld A3 b M nv2 r.1 := hB2.fr hf3 (by omega) (by omega) (fun k hk e => by
   rcases hn2 k hk with h | h
   ·exact hnN (by rw [← e]; exact h)
   ·omega)
  have hI3 : BldI w A3 b M Dm nv #[.slice (some ⟨vb, vof, none⟩) vars.length vcap, trv, .bool true, .int .i64 way] (.slice ro rows.length rcap) i W.heap.size (r.1, st.2.set v r.2) := by
   refine ⟨HI.out.fr.trans hFA3 (fun k h => ?_), hbx3, hN3, ⟨nv2, hB3, fun k hk => ?_, fun e => ?_⟩⟩
   ·rcases h with h | h
    ·rcases h with h | h | h
     ·exact .inl (.inl h)
     ·exact .inl (.inr (.inl h))
     ·rcases hnk k h with h1 | h1
      ·exact .inl (.inr (.inr h1))
      ·exact .inr h1
    ·exact .inr (by omega)
   ·rcases hn2 k hk with h | h
    ·exact hnk k h
    ·exact .inr (by omega)
   ·rcases hn2 _ e with h | h
    ·exact hnN h
    ·omega
  have hkp : KeepsLD A A3 := hFA3.keepsM (fun k hk => by
   rcases hk with hk | rfl
   ·exact HBk.out.loopy k hk
   ·exact ⟨_, HI.out.bN, rfl⟩)
  have HI3 := hd hI3
  have Hkp := hd hkp
  clear hI3 hkp hB3 hFA3 hFA2 hN3 hbx3 hf3 hA3 hN2 hbx2 hB2 hf2 hbx1 hB1 hrs1' hrs1 hf1 hf1' hrsA hvsA hDA
  simp only [Exit.inBlock]
  gi_wp2
  refine ⟨Hkp.out, ?_⟩
  show BldI ..
  rw [Hst2.out]
  exact HI3.out
 case done =>
  rintro D A hD hI hK
  rw [Hfin.out] at hI
  obtain ⟨hlen, hs6, hsx6⟩ := bldFold vars true dn hd64 m i rows ns HB.out.two (vals sx) fin Hfin.out
  have hvl := vals_len hsx
  have hm6 : (vals sx).length * cnt m ≤ 6 * cnt m := Nat.mul_le_mul_right _ hvl
  simp only [cnt] at hcnt
  have hok : NodeOk fin.2 := ⟨hs6, fun x hx => by have := hsx6 x hx; omega⟩
  obtain ⟨n0, n1, n2, n3, n4, n5, hf6⟩ := list6 hs6
  obtain ⟨nvk, hBk, hnk, hnN⟩ := hI.bld
  have b0 : A.cell? ⟨w.heap.size, 0, none⟩ = some (.pointer (some ⟨b, 0, none⟩)) := hI.bx.b0.cell 0
  have hNA := hI.bN
  have c0 : A.cell? ⟨W.heap.size, 0, none⟩ = some (.int .i64 (n0 : Int)) := by rw [hNA.cell, hf6]; rfl
  have c1 : A.cell? ⟨W.heap.size, 1, none⟩ = some (.int .i64 (n1 : Int)) := by rw [hNA.cell, hf6]; rfl
  have c2 : A.cell? ⟨W.heap.size, 2, none⟩ = some (.int .i64 (n2 : Int)) := by rw [hNA.cell, hf6]; rfl
  have c3 : A.cell? ⟨W.heap.size, 3, none⟩ = some (.int .i64 (n3 : Int)) := by rw [hNA.cell, hf6]; rfl
  have c4 : A.cell? ⟨W.heap.size, 4, none⟩ = some (.int .i64 (n4 : Int)) := by rw [hNA.cell, hf6]; rfl
  have c5 : A.cell? ⟨W.heap.size, 5, none⟩ = some (.int .i64 (n5 : Int)) := by rw [hNA.cell, hf6]; rfl
  have hnv6 : nodeV fin.2 = .agg #[.int .i64 (n0 : Int), .int .i64 (n1 : Int), .int .i64 (n2 : Int), .int .i64 (n3 : Int), .int .i64 (n4 : Int), .int .i64 (n5 : Int)] := by rw [hf6]; rfl
  have Hnum := hd (number_any b M nvk fin.1 fin.2 A hBk hok (by omega))
  rw [hnv6] at Hnum
  have hDle : w.heap.size ≤ D := by
   have : Z.heap.size ≤ D := hD
   omega
  have HI := hd hI
  have HBk := hd hBk
  clear hI hBk hNA hf6 hnv6 hok hs6 hsx6 HI0 Hih a1' a4' a5' aV aD hlen
  gi_wp2_with (refine ⟨trivial, ?_⟩; gi_at_call 87; refine (callsIn_wide.2 Hnum.out).mono ?_; rintro e A1 ⟨rfl, nv2, hB2, hf2, hn2⟩)
  have hK1 := (Fr.keepsM hf2 HBk.out.loopy).same D _ hK rfl
  have hAs : w.heap.size ≤ A.heap.size := HI.out.fr.size
  refine ⟨by simp, .inl ⟨_, _, rfl, run_takeDeferred hK1, ?_⟩⟩
  refine ⟨_, results_tmp rfl _ _ _, rfl, nv2, hB2.bk (Bk.put (.deferred none) hDle hK1 rfl) hMl, ?_, fun k hk => ?_⟩
  ·refine (HI.out.fr.trans hf2 (fun k h => ?_)).bk (Bk.put (.deferred none) hDle hK1 rfl) (Nat.le_refl _)
   rcases h with h | h | h
   ·exact .inl (.inl h)
   ·exact .inl (.inr (.inl h))
   ·rcases hnk k h with h1 | h1
    ·exact .inl (.inr (.inr h1))
    ·exact .inr h1
  ·rcases hn2 k hk with h | h
   ·exact hnk k h
   ·exact .inr (by omega)

theorem build_any (b M Dm : Nat) (vo : Option Addr) (vcap : Nat) (trv : Value) (nt : Bool) (way : Int) (vars : List Int) (dn : List Nat) (h8 : dn.length = 8) (h4 : vars.length ≤ 4) (hv : ∀ i, i < vars.length → 0 ≤ vars.getD i 0 ∧ vars.getD i 0 < 8) (hd64 : ∀ q, dn.getD q 0 < 64) :
  ∀ m i, i + m = vars.length → BuildOk b M Dm vo vcap trv nt way vars dn m i
 | 0, i, hm, rows, ns, nv, ro, rcap, w, hrl, _, _, hB, _, _, _ => by
  obtain rfl : i = vars.length := by omega
  refine (build_end b Dm vars.length vars.length vo ro vcap rcap trv nt way rows.length w h4 hrl (.inr rfl)).mono ?_
  rintro e w' ⟨rfl, hf⟩
  have e0 : bldTo vars nt dn 0 vars.length rows ns = (ns, if rows.length = 0 ∧ nt = false then 0 else if nt = true ∧ rows.length ≠ 0 then 0 else 1) := by
   unfold bldTo
   cases rows <;> cases nt <;> simp
  rw [e0]
  exact ⟨by split <;> first | rfl | (split <;> rfl), nv, hB.nw hf, hf.mono (fun i h => h.elim), fun k hk => .inl hk⟩
 | m + 1, i, hm, rows, ns, nv, ro, rcap, w, hrl, hrow, hcnt, hB, hvs, hrs, hDm => by
  have ih := build_any b M Dm vo vcap trv nt way vars dn h8 h4 hv hd64 m (i + 1) (by omega)
  by_cases hz : rows = []
  ·cases hnt : nt with
   | false =>
    have hlen : rows.length = 0 := by rw [hz]; rfl
    refine (build_end b Dm i vars.length vo ro vcap rcap trv false way rows.length w h4 hrl (.inl ⟨hlen, rfl⟩)).mono ?_
    rintro e w' ⟨rfl, hf⟩
    have e0 : bldTo vars false dn (m + 1) i rows ns = (ns, 0) := by
     rw [bldTo, hz]
     rfl
    rw [e0, if_pos ⟨hlen, rfl⟩]
    exact ⟨rfl, nv, hB.nw hf, hf.mono (fun i h => h.elim), fun k hk => .inl hk⟩
   | true =>
    subst hnt
    exact build_goB b M Dm vo vcap trv way vars dn m i h8 h4 hv hd64 (by omega) ih rows ns nv ro rcap w hrl hrow hz hcnt hB hvs hrs hDm
  ·exact build_goA b M Dm vo vcap trv nt way vars dn m i h8 h4 hv hd64 (by omega) ih rows ns nv ro rcap w hrl hrow hz hcnt hB hvs hrs hDm
end Go.Proofs.YtkjfpdfkcfgfkaaGreat

namespace Go.Proofs.YtkjfpdfkcfgfkaaGreat
open Go.RowKit Go.Maps

structure DAt (w : World) (G g cap : Nat) (nv : Value) (vars : List Int) (ns : List (List Nat)) (root : Nat) : Prop where
 blk : Blk w G #[.slice (some ⟨g, 0, none⟩) vars.length cap, nv, .int .i64 (root : Int)] 125
 rv : Row w (.slice (some ⟨g, 0, none⟩) vars.length cap) 3 (vars.map (Value.int .i64))
 row : w.ownsRow 0 151 6 nv ns.length (ns.flatMap nodeC)
 ok : ∀ n ∈ ns, NodeOk n
 two : 2 ≤ ns.length

set_option maxHeartbeats 3200000 in
set_option maxRecDepth 1000000 in
theorem newDiagram_any (vb vof : Nat) (ro : Option Addr) (vcap rcap : Nat) (vars : List Int) (rows : List (List Int)) (nt : Bool) (way : Int) (dn : List Nat) (w : World) (h8 : dn.length = 8) (hv0 : 0 < vars.length) (h4 : vars.length ≤ 4)
  (hv : ∀ i, i < vars.length → 0 ≤ vars.getD i 0 ∧ vars.getD i 0 < 8) (hd64 : ∀ q, dn.getD q 0 < 64) (hrl : rows.length ≤ 60) (hrow : ∀ j, j < rows.length → (rows.getD j []).length = vars.length)
  (hvs : IntsAt w (some ⟨vb, vof, none⟩) vars) (hrs : RowsAt w ro rows) :
  Calls Tryz.prog 41 #[.agg #[.slice (some ⟨vb, vof, none⟩) vars.length vcap, .slice ro rows.length rcap, .bool nt, .int .i64 way], .agg (domV dn)] w fun e w' =>
   ∃ G g cap nv, e = .returned (.pointer (some ⟨G, 0, none⟩)) ∧ Nw w w' ∧ DAt w' G g cap nv vars (bldTo vars nt dn vars.length 0 rows [zero6, zero6]).1 (bldTo vars nt dn vars.length 0 rows [zero6, zero6]).2 ∧ w.heap.size ≤ G ∧ w.heap.size ≤ g ∧ (∀ k, nv.ownBlock = some k → w.heap.size ≤ k) := by
 obtain ⟨W, hW⟩ : ∃ W, W = (w.alloc (.cells #[.slice (some ⟨vb, vof, none⟩) vars.length vcap, .slice ro rows.length rcap, .bool nt, .int .i64 way] 41)).alloc (.cells (domV dn) 60) := ⟨_, rfl⟩
 have hfW : Nw w W := by rw [hW]; exact ((Fr.refl _ w).alloc _).alloc _
 have hbT : Blk W w.heap.size #[.slice (some ⟨vb, vof, none⟩) vars.length vcap, .slice ro rows.length rcap, .bool nt, .int .i64 way] 41 := by rw [hW]; exact (Blk.new _ _ _).alloc _
 have hbD : Blk W (w.heap.size + 1) (domV dn) 60 := by
  rw [hW]
  have := Blk.new (w.alloc (.cells #[.slice (some ⟨vb, vof, none⟩) vars.length vcap, .slice ro rows.length rcap, .bool nt, .int .i64 way] 41)) (domV dn) 60
  rw [alsz] at this
  exact this
 have hsW : W.heap.size = w.heap.size + 2 := by rw [hW]; simp
 have HW := hd hW
 have HbT := hd hbT
 have HbD := hd hbD
 have HsW := hd hsW
 clear hW hbT hbD hsW
 obtain ⟨res, hres⟩ : ∃ res, bldTo vars nt dn vars.length 0 rows [zero6, zero6] = res := ⟨_, rfl⟩
 rw [hres]
 have Hres := hd hres
 clear hres
 go_enter Tryz.func41, Tryz.ntmps41
 go_upto_region 1 with fail
 rw [← HW.out]
 clear HW
 go_upto_region 2 with (go_at_call 66; refine (newBuilder_any W).mono ?_; rintro e w1 ⟨b, M, nv1, rfl, hB1, hf1, hbl, hMl, hnl⟩)
 have hT1 := HbT.out.nw hf1
 have t0 : w1.cell? ⟨w.heap.size, 0, none⟩ = some (.slice (some ⟨vb, vof, none⟩) vars.length vcap) := hT1.cell 0
 have t1 : w1.cell? ⟨w.heap.size, 1, none⟩ = some (.slice ro rows.length rcap) := hT1.cell 1
 have t2 : w1.cell? ⟨w.heap.size, 2, none⟩ = some (.bool nt) := hT1.cell 2
 have t3 : w1.cell? ⟨w.heap.size, 3, none⟩ = some (.int .i64 way) := hT1.cell 3
 have hnF : ∀ k, k < W.heap.size → ¬ FP b M nv1 k := fun k hk h => by
  rcases h with h | h | h
  ·omega
  ·omega
  ·have := hnl k h; omega
 have hF1 : Nw w w1 := hfW.trans hf1 (fun i h => h.elim)
 have hs1 := hF1.size
 have hsW := HsW.out
 have hvs1 : IntsIn w1 (fun k => ¬ FP b M nv1 k) (some ⟨vb, vof, none⟩) vars := fun i hi => by
  obtain ⟨b', o', e', hl', hc'⟩ := hvs i hi
  exact ⟨b', o', e', by omega, hnF b' (by omega), (hF1.cell hl' (fun x => x)).trans hc'⟩
 have hrs1 : RowsIn w1 (fun k => ¬ FP b M nv1 k) ro rows := fun i hi => by
  obtain ⟨b', o', r', rc', e', hl', hc', hI'⟩ := hrs i hi
  refine ⟨b', o', r', rc', e', by omega, hnF b' (by omega), (hF1.cell hl' (fun x => x)).trans hc', fun j hj => ?_⟩
  obtain ⟨b2, o2, e2, hl2, hc2⟩ := hI' j hj
  exact ⟨b2, o2, e2, by omega, hnF b2 (by omega), (hF1.cell hl2 (fun x => x)).trans hc2⟩
 have Hb := hd (build_any b M (w.heap.size + 1) (some ⟨vb, vof, none⟩) vcap (.slice ro rows.length rcap) nt way vars dn h8 h4 hv hd64 vars.length 0 (by omega) rows [zero6, zero6] nv1 ro rcap w1 hrl hrow (by
   have : cnt vars.length ≤ 259 := by
    have hl : vars.length = 1 ∨ vars.length = 2 ∨ vars.length = 3 ∨ vars.length = 4 := by omega
    rcases hl with h | h | h | h <;> rw [h] <;> decide
   simp; omega) hB1 hvs1 hrs1 (HbD.out.nw hf1))
 rw [Hres.out] at Hb
 go_upto_region 3 with (go_at_call 67; refine Hb.out.mono ?_; rintro e w2 ⟨rfl, nv2, hB2, hf2, hn2⟩)
 obtain ⟨ng, ncap, hnv2⟩ : ∃ ng ncap, nv2 = .slice (some ⟨ng, 0, none⟩) res.1.length ncap := by
  rcases hB2.row.2 with ⟨_, h0⟩ | ⟨ng, ncap, cur, h, _⟩
  ·have := hB2.two; omega
  ·exact ⟨ng, ncap, h⟩
 subst hnv2
 have hT2 : Blk w2 w.heap.size #[.slice (some ⟨vb, vof, none⟩) vars.length vcap, .slice ro rows.length rcap, .bool nt, .int .i64 way] 41 := hT1.fr hf2 (hnF _ (by omega))
 have hK0 : Blk w2.drew w.heap.size #[.slice (some ⟨vb, vof, none⟩) vars.length vcap, .slice ro rows.length rcap, .bool nt, .int .i64 way] 41 ∧ Blk w2.drew b #[.slice (some ⟨ng, 0, none⟩) res.1.length ncap, .map (some M)] 123 := ⟨hT2.drew, hB2.blk.drew⟩
 refine wp_region_held (S := fun w'' => Blk w'' w.heap.size #[.slice (some ⟨vb, vof, none⟩) vars.length vcap, .slice ro rows.length rcap, .bool nt, .int .i64 way] 41 ∧ Blk w'' b #[.slice (some ⟨ng, 0, none⟩) res.1.length ncap, .map (some M)] 123) (by kernel_rfl) ?_
 refine wpAnyH_take (i := 0) (v := .pointer (some ⟨w.heap.size, 0, none⟩)) rfl (by kernel_rfl) (by kernel_rfl) (by kernel_rfl) (fun _ _ _ h => h) (.inl ⟨by kernel_rfl, fun w'' hS => by kernel_rfl⟩) hK0 ?_
 refine wpAnyH_take (i := 1) (v := .slice (some ⟨vb, vof, none⟩) vars.length vcap) rfl (by kernel_rfl) (by kernel_rfl) (by kernel_rfl) (fun _ _ _ h => h) (.inl ⟨by kernel_rfl, fun w'' hS => ?_⟩) hK0 ?_
 ·have q0 : w''.cell? ⟨w.heap.size, 0, none⟩ = some (.slice (some ⟨vb, vof, none⟩) vars.length vcap) := hS.1.cell 0
  clear hK0 hS hv hd64 hrow hvs hrs t0 t1 t2 t3 hnF hF1 hvs1 hrs1 Hb hB2 hf2 hn2 hT2 hf1 hnl hB1
  simp only [Act.put, List.setIfInBounds_toArray, List.set_cons_zero, List.set_cons_succ, List.getElem_toArray, List.getElem_cons_zero, List.getElem_cons_succ]
  go_simp
 refine wpAnyH_take (i := 3) (v := .pointer (some ⟨b, 0, none⟩)) rfl (by kernel_rfl) (by kernel_rfl) (by kernel_rfl) (fun _ _ _ h => h) (.inl ⟨by kernel_rfl, fun w'' hS => by kernel_rfl⟩) hK0 ?_
 refine wpAnyH_take (i := 4) (v := .pointer (some ⟨b, 0, none⟩)) rfl (by kernel_rfl) (by kernel_rfl) (by kernel_rfl) (fun _ _ _ h => h) (.inl ⟨by kernel_rfl, fun w'' hS => by kernel_rfl⟩) hK0 ?_
 refine wpAnyH_take (i := 5) (v := .pointer (some ⟨b, 0, none⟩)) rfl (by kernel_rfl) (by kernel_rfl) (by kernel_rfl) (fun _ _ _ h => h) (.inl ⟨by kernel_rfl, fun w'' hS => by kernel_rfl⟩) hK0 ?_
 refine wpAnyH_take (i := 6) (v := .slice (some ⟨ng, 0, none⟩) res.1.length ncap) rfl (by kernel_rfl) (by kernel_rfl) (by kernel_rfl) (fun _ _ _ h => h) (.inl ⟨by kernel_rfl, fun w'' hS => ?_⟩) hK0 ?_
 ·have q0 : w''.cell? ⟨b, 0, none⟩ = some (.slice (some ⟨ng, 0, none⟩) res.1.length ncap) := hS.2.cell 0
  clear hK0 hS hv hd64 hrow hvs hrs t0 t1 t2 t3 hnF hF1 hvs1 hrs1 Hb hB2 hf2 hn2 hT2 hf1 hnl hB1
  simp only [Act.put, List.setIfInBounds_toArray, List.set_cons_zero, List.set_cons_succ, List.getElem_toArray, List.getElem_cons_zero, List.getElem_cons_succ]
  go_simp
 refine wpAnyH_take (i := 7) (v := .int .i64 (res.2 : Int)) rfl (by kernel_rfl) (by kernel_rfl) (by kernel_rfl) (fun _ _ _ h => h) (.inl ⟨by kernel_rfl, fun w'' hS => by kernel_rfl⟩) hK0 ?_
 refine wpAnyH_all (rs := [2]) (by kernel_rfl) (by simp) (fun j hj => ?_)
 obtain rfl : j = 2 := by simpa using hj
 have hF2 : Fr (FP b M nv1) w w2 := (hF1.mono (fun i h => h.elim)).trans hf2 (fun i h => .inl h)
 have hvs2 : IntsAt w2.drew (some ⟨vb, vof, none⟩) vars := IntsAt.nw (hvs1.fr hf2 (N' := fun _ => True) (fun k _ hk => ⟨hk, trivial⟩)).at_ ((Fr.refl _ w2).drew)
 refine op_enter (f := 68) (args := #[.slice (some ⟨vb, vof, none⟩) vars.length vcap]) (w' := w2.drew) rfl (by kernel_rfl) (by kernel_rfl) ?_
 refine (newScope_any vb vof vcap vars w2.drew (by omega) hv0 hvs2).mono ?_
 rintro e w3 ⟨g, cap, rfl, hf3, hr3, hg3⟩
 have hf3' : Nw w2 w3 := hf3.of_drew
 refine ⟨_, rfl, ⟨hT2.nw hf3', hB2.blk.nw hf3'⟩, ?_⟩
 refine wpAnyH_all (rs := [8]) (by kernel_rfl) (by simp) (fun j hj => ?_)
 obtain rfl : j = 8 := by simpa using hj
 refine op_value (v := .agg #[.slice (some ⟨g, 0, none⟩) vars.length cap, .slice (some ⟨ng, 0, none⟩) res.1.length ncap, .int .i64 (res.2 : Int)]) (w' := w3) rfl (by kernel_rfl) ?_ ⟨⟨hT2.nw hf3', hB2.blk.nw hf3'⟩, ?_⟩
 ·kernel_rfl
 refine wpAnyH_all (rs := [9]) (by kernel_rfl) (by simp) (fun j hj => ?_)
 obtain rfl : j = 9 := by simpa using hj
 refine op_value (v := .pointer (some ⟨w3.heap.size, 0, none⟩)) (w' := w3.alloc (.cells #[.slice (some ⟨g, 0, none⟩) vars.length cap, .slice (some ⟨ng, 0, none⟩) res.1.length ncap, .int .i64 (res.2 : Int)] 125)) rfl (by kernel_rfl) ?_ ⟨⟨(hT2.nw hf3').alloc _, (hB2.blk.nw hf3').alloc _⟩, ?_⟩
 ·kernel_rfl
 refine wpAnyH_all (rs := [10]) (by kernel_rfl) (by simp) (fun j hj => ?_)
 obtain rfl : j = 10 := by simpa using hj
 refine op_value (v := .pointer (some ⟨w3.heap.size, 0, none⟩)) (w' := w3.alloc (.cells #[.slice (some ⟨g, 0, none⟩) vars.length cap, .slice (some ⟨ng, 0, none⟩) res.1.length ncap, .int .i64 (res.2 : Int)] 125)) rfl (by kernel_rfl) (by kernel_rfl) ⟨⟨(hT2.nw hf3').alloc _, (hB2.blk.nw hf3').alloc _⟩, wpAnyH_done (by kernel_rfl) ?_ _⟩
 simp only [Act.put, List.setIfInBounds_toArray, List.set_cons_zero, List.set_cons_succ, List.getElem_toArray, List.getElem_cons_zero, List.getElem_cons_succ]
 have hF3 : Nw w w3 := (hF2.mono (S' := fun _ => False) (fun k h => .inr (by
  rcases h with h | h | h
  ·omega
  ·omega
  ·have := hnl k h; omega))).trans hf3' (fun i h => h.elim)
 have hDA : DAt (w3.alloc (.cells #[.slice (some ⟨g, 0, none⟩) vars.length cap, .slice (some ⟨ng, 0, none⟩) res.1.length ncap, .int .i64 (res.2 : Int)] 125)) w3.heap.size g cap (.slice (some ⟨ng, 0, none⟩) res.1.length ncap) vars res.1 res.2 :=
  ⟨Blk.new _ _ _, hr3.alloc _, ownsRow.fr hB2.row ((hf3').alloc _) (fun _ _ x => x), hB2.ok, hB2.two⟩
 have HF3 := hd (hF3.alloc (.cells #[.slice (some ⟨g, 0, none⟩) vars.length cap, .slice (some ⟨ng, 0, none⟩) res.1.length ncap, .int .i64 (res.2 : Int)] 125))
 have HDA := hd hDA
 have hs2 := hF2.size
 have hs3 := hf3'.size
 have hg3' : w2.heap.size ≤ g := hg3
 clear hF3 hDA t0 t1 t2 t3 hK0
 simp only [Exit.then]
 go_wp2
 go_ret
 refine ⟨w3.heap.size, g, cap, _, rfl, HF3.out, HDA.out, by omega, by omega, fun k hk => ?_⟩
 rcases hn2 k hk with h | h
 ·have := hnl k h; omega
 ·omega
end Go.Proofs.YtkjfpdfkcfgfkaaGreat

namespace Go.Proofs.YtkjfpdfkcfgfkaaGreat
open Go.RowKit Go.Maps Go.Shelf
attribute [local go_sem] Oper.semAt_some

structure CS where
 ns : List (List Nat)
 sp : List Nat
 mv : Nat → Option Nat
 c : Nat
def nodeAt (os : List (List Nat)) (old v : Nat) : Nat := (os.getD old []).getD v 0
def CS.mark (s : CS) (q v r : Nat) : CS := ⟨s.ns, if r = 0 then s.sp else s.sp.set q (s.sp.getD q 0 ||| 2 ^ v), s.mv, s.c⟩
def cutStep (f : Nat → CS → CS × Nat) (os : List (List Nat)) (old q : Nat) (st : CS × List Nat) (v : Nat) : CS × List Nat :=
 ((f (nodeAt os old v) st.1).1.mark q v (f (nodeAt os old v) st.1).2, st.2.set v (f (nodeAt os old v) st.1).2)
def CS.put (s : CS) (n : List Nat) (old : Nat) : CS × Nat := (⟨(numberTo s.ns n).1, s.sp, fun k => if k = old then some (numberTo s.ns n).2 else s.mv k, s.c + 1⟩, (numberTo s.ns n).2)
def cutTo (os : List (List Nat)) (vars : List Int) (dn : List Nat) : Nat → Nat → Nat → CS → CS × Nat
 | 0, _, old, s => (s, old)
 | m + 1, i, old, s => if old < 2 then (s, old) else match s.mv old with
  | some k => (s, k)
  | none => ((vals (dn.getD (vars.getD i 0).toNat 0)).foldl (cutStep (cutTo os vars dn m (i + 1)) os old (vars.getD i 0).toNat) (s, zero6)).1.put
    ((vals (dn.getD (vars.getD i 0).toNat 0)).foldl (cutStep (cutTo os vars dn m (i + 1)) os old (vars.getD i 0).toNat) (s, zero6)).2 old
def levOk (os : List (List Nat)) : Nat → Nat → Prop
 | 0, old => old < 2
 | m + 1, old => old = 0 ∨ (2 ≤ old ∧ old < os.length ∧ ∀ v, v < 6 → levOk os m (nodeAt os old v))

structure CSok (s : CS) (B : Nat) : Prop where
 two : 2 ≤ s.ns.length
 ns : s.ns.length ≤ B
 c : s.c ≤ B
 sp : s.sp.length = 8
 sp6 : ∀ q, s.sp.getD q 0 < 64
 mv : ∀ k x, s.mv k = some x → x ≤ B
theorem CSok.mono {s : CS} {B B' : Nat} (h : CSok s B) (hb : B ≤ B') : CSok s B' := ⟨h.two, Nat.le_trans h.ns hb, Nat.le_trans h.c hb, h.sp, h.sp6, fun k x hx => Nat.le_trans (h.mv k x hx) hb⟩
theorem CSok.mark {s : CS} {B q v r : Nat} (h : CSok s B) (hv : v < 6) : CSok (s.mark q v r) B := by
 refine ⟨h.two, h.ns, h.c, ?_, ?_, h.mv⟩
 ·unfold CS.mark
  dsimp only
  split
  ·exact h.sp
  ·simpa using h.sp
 ·unfold CS.mark
  dsimp only
  split
  ·exact h.sp6
  ·exact getD_set_lt h.sp6 (Nat.or_lt_two_pow (n := 6) (h.sp6 _) (Nat.pow_lt_pow_right (by omega) hv))
theorem CSok.put {s : CS} {B : Nat} (h : CSok s B) (n : List Nat) (old : Nat) : CSok (s.put n old).1 (B + 1) ∧ (s.put n old).2 ≤ B := by
 have hn := numberTo_len s.ns h.two n
 have h2 := h.two
 have h3 := h.ns
 have h4 := h.c
 refine ⟨⟨by show 2 ≤ (numberTo s.ns n).1.length; omega, by show (numberTo s.ns n).1.length ≤ B + 1; omega, by show s.c + 1 ≤ B + 1; omega, h.sp, h.sp6, fun k x hx => ?_⟩, by show (numberTo s.ns n).2 ≤ B; omega⟩
 have hx' : (if k = old then some (numberTo s.ns n).2 else s.mv k) = some x := hx
 split at hx'
 ·have : (numberTo s.ns n).2 = x := Option.some.inj hx'
  omega
 ·have := h.mv k x hx'
  omega
theorem cutFold (os : List (List Nat)) (q : Nat) (f : Nat → CS → CS × Nat) (old K B : Nat) (s : CS) (h : CSok s B) (hf : ∀ v s' B', v < 6 → B ≤ B' → CSok s' B' → CSok (f (nodeAt os old v) s').1 (B' + K) ∧ (f (nodeAt os old v) s').2 ≤ B' + K)
  (l : List Nat) (hl : ∀ v ∈ l, v < 6) (st : CS × List Nat) (hst : l.foldl (cutStep f os old q) (s, zero6) = st) : CSok st.1 (B + l.length * K) ∧ st.2.length = 6 ∧ ∀ x ∈ st.2, x ≤ B + l.length * K := by
 have := foldl_count (fun (k : Nat) (st : CS × List Nat) => CSok st.1 (B + k * K) ∧ st.2.length = 6 ∧ ∀ x ∈ st.2, x ≤ B + k * K) (cutStep f os old q) l 0 (s, zero6)
  (fun k st v hv hst => by
   have h1 := hf v st.1 (B + k * K) (hl v hv) (by omega) hst.1
   have hk : (k + 1) * K = k * K + K := Nat.succ_mul k K
   refine ⟨?_, ?_⟩
   ·have := h1.1.mark (q := q) (v := v) (r := (f (nodeAt os old v) st.1).2) (hl v hv)
    exact this.mono (by omega)
   ·refine set_le ⟨hst.2.1, fun x hx => ?_⟩ v _ (by omega)
    have := hst.2.2 x hx
    omega) ⟨by simpa using h, rfl, by simp [zero6]⟩
 rw [Nat.zero_add, hst] at this
 exact this
theorem cutTo_ok (os : List (List Nat)) (vars : List Int) (dn : List Nat) (hd : ∀ q, dn.getD q 0 < 64) : ∀ (m i old : Nat) (s : CS) (B : Nat), 2 ≤ B → levOk os m old → CSok s B → CSok (cutTo os vars dn m i old s).1 (B + cnt m) ∧ (cutTo os vars dn m i old s).2 ≤ B + cnt m
 | 0, i, old, s, B, hB, hl, h => by
  have hl' : old < 2 := hl
  exact ⟨h, by show old ≤ _; simp [cnt]; omega⟩
 | m + 1, i, old, s, B, hB, hl, h => by
  unfold cutTo
  by_cases ho : old < 2
  ·rw [if_pos ho]
   exact ⟨h.mono (by omega), by show old ≤ _; omega⟩
  ·rw [if_neg ho]
   cases hm : s.mv old with
   | some k => exact ⟨h.mono (by omega), by have := h.mv old k hm; show k ≤ _; omega⟩
   | none =>
    dsimp only
    have hl' : old < os.length ∧ ∀ v, v < 6 → levOk os m (nodeAt os old v) := by
     rcases hl with h1 | h1
     ·exact absurd (by omega) ho
     ·exact h1.2
    obtain ⟨st, hst⟩ : ∃ st, (vals (dn.getD (vars.getD i 0).toNat 0)).foldl (cutStep (cutTo os vars dn m (i + 1)) os old (vars.getD i 0).toNat) (s, zero6) = st := ⟨_, rfl⟩
    have key := cutFold os (vars.getD i 0).toNat (cutTo os vars dn m (i + 1)) old (cnt m) B s h (fun v s' B' hv hB' hs' => cutTo_ok os vars dn hd m (i + 1) (nodeAt os old v) s' B' (by omega) (hl'.2 v hv) hs') _ (fun v hv => vals_lt6 (hd _) hv) st hst
    rw [hst]
    have hlen := vals_len (hd (vars.getD i 0).toNat)
    have hmul : (vals (dn.getD (vars.getD i 0).toNat 0)).length * cnt m ≤ 6 * cnt m := Nat.mul_le_mul_right _ hlen
    have hp := key.1.put st.2 old
    have e : cnt (m + 1) = 6 * cnt m + 1 := rfl
    exact ⟨hp.1.mono (by omega), by omega⟩
end Go.Proofs.YtkjfpdfkcfgfkaaGreat

namespace Go.Proofs.YtkjfpdfkcfgfkaaGreat
open Go.RowKit Go.Maps Go.Shelf
attribute [local go_sem] Oper.semAt_some

def cutCells (b G : Nat) (dn sp : List Nat) (Mv : Nat) : Array Value := (.pointer (some ⟨b, 0, none⟩) :: .pointer (some ⟨G, 0, none⟩) :: (dn.map (fun (x : Nat) => Value.int .u8 (x : Int)) ++ (sp.map (fun (x : Nat) => Value.int .u8 (x : Int)) ++ [.map (some Mv)]))).toArray
theorem cutCells_dn (b G : Nat) (dn sp : List Nat) (Mv q : Nat) (h8 : dn.length = 8) (hq : q < 8) : (cutCells b G dn sp Mv)[2 + q]? = some (.int .u8 (dn.getD q 0 : Nat)) := by
 rw [Nat.add_comm]
 simp [cutCells, List.getElem?_append_left, h8, hq]
theorem cutCells_sp (b G : Nat) (dn sp : List Nat) (Mv q : Nat) (h8 : dn.length = 8) (hs : sp.length = 8) (hq : q < 8) : (cutCells b G dn sp Mv)[10 + q]? = some (.int .u8 (sp.getD q 0 : Nat)) := by
 rw [show 10 + q = 8 + q + 2 by omega]
 simp only [cutCells, List.getElem?_toArray, List.getElem?_cons_succ]
 rw [List.getElem?_append_right (by simp; omega), List.getElem?_append_left (by simp; omega)]
 simp [h8, hs, hq]
theorem cutCells_mv (b G : Nat) (dn sp : List Nat) (Mv : Nat) (h8 : dn.length = 8) (hs : sp.length = 8) : (cutCells b G dn sp Mv)[18]? = some (.map (some Mv)) := by
 simp only [cutCells, List.getElem?_toArray, List.getElem?_cons_succ]
 rw [List.getElem?_append_right (by simp; omega), List.getElem?_append_right (by simp; omega)]
 simp [h8, hs]
theorem cutCells_size (b G : Nat) (dn sp : List Nat) (Mv : Nat) (h8 : dn.length = 8) (hs : sp.length = 8) : (cutCells b G dn sp Mv).size = 19 := by simp [cutCells, h8, hs]
theorem cutCells_set (b G : Nat) (dn sp : List Nat) (Mv q x : Nat) (h8 : dn.length = 8) (hs : sp.length = 8) (hq : q < 8) : (cutCells b G dn sp Mv).setIfInBounds (10 + q) (.int .u8 (x : Int)) = cutCells b G dn (sp.set q x) Mv := by
 rw [show 10 + q = 8 + q + 2 by omega]
 simp only [cutCells, List.setIfInBounds_toArray, List.set_cons_succ, List.map_set]
 rw [List.set_append_right _ _ (by simp; omega), List.set_append_left _ _ (by simp; omega)]
 simp [h8]

structure CutAt (w : World) (C b M Mv G : Nat) (nv : Value) (dn : List Nat) (s : CS) : Prop where
 blk : Blk w C (cutCells b G dn s.sp Mv) 185
 bld : Bld w b M nv s.ns
 mov : ∃ f, NumMap w 3 Mv s.c f ∧ ∀ k : Nat, k < 4294967296 → f (.int .i64 (k : Int)) = s.mv k
 ne : Mv ≠ M
def FC (C b M Mv : Nat) (nv : Value) (k : Nat) : Prop := k = C ∨ k = Mv ∨ FP b M nv k
theorem CutAt.fr {S : Nat → Prop} {w w' : World} {C b M Mv G : Nat} {nv : Value} {dn : List Nat} {s : CS} (h : CutAt w C b M Mv G nv dn s) (f : Fr S w w') (hn : ∀ k, FC C b M Mv nv k → ¬ S k) : CutAt w' C b M Mv G nv dn s := by
 obtain ⟨g, hm, hg⟩ := h.mov
 exact ⟨h.blk.fr f (hn _ (.inl rfl)), h.bld.fr f (hn _ (.inr (.inr (.inl rfl)))) (hn _ (.inr (.inr (.inr (.inl rfl))))) (fun k hk => hn _ (.inr (.inr (.inr (.inr hk))))), ⟨g, hm.fr f (hn _ (.inr (.inl rfl))), hg⟩, h.ne⟩
theorem CutAt.nw {w w' : World} {C b M Mv G : Nat} {nv : Value} {dn : List Nat} {s : CS} (h : CutAt w C b M Mv G nv dn s) (f : Nw w w') : CutAt w' C b M Mv G nv dn s := h.fr f (fun _ _ x => x)
theorem CutAt.drew {w : World} {C b M Mv G : Nat} {nv : Value} {dn : List Nat} {s : CS} (h : CutAt w C b M Mv G nv dn s) : CutAt w.drew C b M Mv G nv dn s := h.nw ((Fr.refl _ w).drew)
theorem CutAt.bk {lo : Nat} {w w' : World} {C b M Mv G : Nat} {nv : Value} {dn : List Nat} {s : CS} (h : CutAt w C b M Mv G nv dn s) (hb : Bk lo w w') (h1 : M < lo) (h2 : Mv < lo) : CutAt w' C b M Mv G nv dn s := by
 obtain ⟨g, hm, hg⟩ := h.mov
 exact ⟨h.blk.bk hb, h.bld.bk hb h1, ⟨g, hm.bk hb h2, hg⟩, h.ne⟩
theorem CutAt.lt {w : World} {C b M Mv G : Nat} {nv : Value} {dn : List Nat} {s : CS} (h : CutAt w C b M Mv G nv dn s) {k : Nat} (hk : FC C b M Mv nv k) : k < w.heap.size := by
 rcases hk with rfl | rfl | hk
 ·exact h.blk.lt
 ·obtain ⟨f, hm, _⟩ := h.mov
  exact hm.lt
 ·exact h.bld.lt hk
theorem CutAt.other {w : World} {C b M Mv G : Nat} {nv : Value} {dn : List Nat} {s : CS} (h : CutAt w C b M Mv G nv dn s) {k : Nat} {cur : Array Value} {e : TypeId} (hb : Blk w k cur e) (h1 : e ≠ 123) (h2 : e ≠ 151) (h3 : e ≠ 185) : ¬ FC C b M Mv nv k := by
 rintro (rfl | rfl | hk)
 ·exact h3 (hb.inj h.blk).2
 ·obtain ⟨f, hm, _⟩ := h.mov
  exact hm.ne hb rfl
 ·exact h.bld.other hb h1 h2 hk
theorem CutAt.loopy {w : World} {C b M Mv G : Nat} {nv : Value} {dn : List Nat} {s : CS} (h : CutAt w C b M Mv G nv dn s) : ∀ k, FC C b M Mv nv k → ∃ o, w.heap[k]? = some o ∧ loopy o = false := by
 rintro k (rfl | rfl | hk)
 ·exact ⟨_, h.blk, rfl⟩
 ·obtain ⟨f, hm, _⟩ := h.mov
  exact hm.map
 ·exact h.bld.loopy k hk

structure CBox (A : World) (T C old i : Nat) : Prop where
 b0 : Blk A T #[.pointer (some ⟨C, 0, none⟩)] 188
 b1 : Blk A (T + 1) #[.int .i64 (old : Int)] 3
 b2 : Blk A (T + 1 + 1) #[.int .i64 (i : Int)] 3
theorem CBox.fr {S : Nat → Prop} {A B : World} {T C old i : Nat} (h : CBox A T C old i) (f : Fr S A B) (hn : ∀ k, T ≤ k → k ≤ T + 2 → ¬ S k) : CBox B T C old i :=
 ⟨h.b0.fr f (hn _ (by omega) (by omega)), h.b1.fr f (hn _ (by omega) (by omega)), h.b2.fr f (hn _ (by omega) (by omega))⟩
theorem CBox.bk {lo : Nat} {A B : World} {T C old i : Nat} (h : CBox A T C old i) (hb : Bk lo A B) : CBox B T C old i := ⟨h.b0.bk hb, h.b1.bk hb, h.b2.bk hb⟩
def boxedC (w : World) (C old i : Nat) : World := ((w.alloc (.cells #[.pointer (some ⟨C, 0, none⟩)] 188)).alloc (.cells #[.int .i64 (old : Int)] 3)).alloc (.cells #[.int .i64 (i : Int)] 3)
theorem boxedC_nw (w : World) (C old i : Nat) : Nw w (boxedC w C old i) := (((Fr.refl _ w).alloc _).alloc _).alloc _
theorem boxedC_box (w : World) (C old i : Nat) : CBox (boxedC w C old i) w.heap.size C old i := by
 refine ⟨((Blk.new w _ _).alloc _).alloc _, ?_, ?_⟩
 ·have := (Blk.new (w.alloc (.cells #[.pointer (some ⟨C, 0, none⟩)] 188)) #[.int .i64 (old : Int)] 3).alloc (.cells #[.int .i64 (i : Int)] 3)
  simp only [alsz] at this
  exact this
 ·have := Blk.new ((w.alloc (.cells #[.pointer (some ⟨C, 0, none⟩)] 188)).alloc (.cells #[.int .i64 (old : Int)] 3)) #[.int .i64 (i : Int)] 3
  simp only [alsz] at this
  exact this

set_option maxHeartbeats 1600000 in
set_option maxRecDepth 1000000 in
theorem cut_small (C old i : Nat) (w : World) (ho : old < 2) :
  Calls Tryz.prog 121 #[.pointer (some ⟨C, 0, none⟩), .int .i64 old, .int .i64 i] w fun e w' => e = .returned (.int .i64 old) ∧ Nw w w' := by
 have hlt : (old : Int) < 2 := by omega
 go_enter Tryz.func121, Tryz.ntmps121
 go_wp2
 go_ret
 exact ⟨rfl, boxedC_nw w C old i⟩

theorem int_key (k : Nat) (h : k < 4294967296) : keyOf Tryz.prog 3 (.int .i64 (k : Int)) = some (.int .i64 (k : Int)) := keyOf_int_mk Tryz.underlying3 (wf64 k h)

set_option maxHeartbeats 1600000 in
set_option maxRecDepth 1000000 in
theorem cut_known (C b M Mv G : Nat) (nv : Value) (dn : List Nat) (s : CS) (old i k : Nat) (w : World) (h8 : dn.length = 8) (hC : CutAt w C b M Mv G nv dn s) (hs8 : s.sp.length = 8) (ho : ¬ old < 2) (ho32 : old < 4294967296) (hk : s.mv old = some k) :
  Calls Tryz.prog 121 #[.pointer (some ⟨C, 0, none⟩), .int .i64 old, .int .i64 i] w fun e w' => e = .returned (.int .i64 k) ∧ Nw w w' := by
 have hlt : ¬ (old : Int) < 2 := by omega
 obtain ⟨W, hW⟩ : ∃ W, W = boxedC w C old i := ⟨_, rfl⟩
 have hfW : Nw w W := by rw [hW]; exact boxedC_nw ..
 have hbx : CBox W w.heap.size C old i := by rw [hW]; exact boxedC_box ..
 have hCW := hC.nw hfW
 obtain ⟨f, hm, hf⟩ := hCW.mov
 have hl := NumMap.look_ok (w := W.drew) (t := 183) hm intKeyed Tryz.underlying183 (int_key old ho32)
 rw [hf old ho32, hk] at hl
 have a0 : W.cell? ⟨w.heap.size, 0, none⟩ = some (.pointer (some ⟨C, 0, none⟩)) := hbx.b0.cell 0
 have a1 : W.cell? ⟨w.heap.size + 1, 0, none⟩ = some (.int .i64 (old : Int)) := hbx.b1.cell 0
 have a2 : W.cell? ⟨C, 18, none⟩ = some (.map (some Mv)) := (hCW.blk.cell 18).trans (cutCells_mv _ _ _ _ _ h8 hs8)
 have HW := hd hW
 clear hW hbx hC hCW hm hf
 go_enter Tryz.func121, Tryz.ntmps121
 go_upto_region 1 with fail
 rw [show ((w.alloc (.cells #[.pointer (some ⟨C, 0, none⟩)] 188)).alloc (.cells #[.int .i64 (old : Int)] 3)).alloc (.cells #[.int .i64 (i : Int)] 3) = W from HW.out.symm]
 go_upto_region 3 with fail
 go_still (by kernel_rfl)
 go_wp2
 go_ret
 exact ⟨rfl, hfW.drew⟩
end Go.Proofs.YtkjfpdfkcfgfkaaGreat

namespace Go.Proofs.YtkjfpdfkcfgfkaaGreat
open Go.RowKit Go.Maps Go.Shelf
attribute [local go_sem] Oper.semAt_some

theorem flat_cell : ∀ (os : List (List Nat)), (∀ n ∈ os, NodeOk n) → ∀ old v, old < os.length → v < 6 → (os.flatMap nodeC)[old * 6 + v]? = some (.int .i64 (nodeAt os old v : Nat))
 | [], _, old, v, h, _ => by simp at h
 | n :: os, hok, 0, v, _, hv => by
  have h6 := (hok n (by simp)).1
  rw [List.flatMap_cons, List.getElem?_append_left (by simp [nodeC, h6]; omega)]
  simp [nodeC, nodeAt, h6, hv]
 | n :: os, hok, old + 1, v, h, hv => by
  have h6 := (hok n (by simp)).1
  rw [List.flatMap_cons, List.getElem?_append_right (by simp [nodeC, h6]; omega)]
  have ih := flat_cell os (fun x hx => hok x (List.mem_cons_of_mem _ hx)) old v (by simpa using h) hv
  rw [show (old + 1) * 6 + v - (nodeC n).length = old * 6 + v by simp [nodeC, h6]; omega, ih]
  simp [nodeAt]
theorem DAt.node {w : World} {G g cap : Nat} {onv : Value} {vars : List Int} {os : List (List Nat)} {root : Nat} (h : DAt w G g cap onv vars os root) :
  ∃ og ocap, onv = .slice (some ⟨og, 0, none⟩) os.length ocap ∧ og < w.heap.size ∧ ∀ old v, old < os.length → v < 6 → w.cell? ⟨og, old * 6 + v, none⟩ = some (.int .i64 (nodeAt os old v : Nat)) := by
 rcases h.row.2 with ⟨_, h0⟩ | ⟨og, ocap, cur, rfl, _, hg, hn, _, hsz, ht⟩
 ·have := h.two; omega
 ·refine ⟨og, ocap, rfl, lt_of_block hg, fun old v ho hv => ?_⟩
  have h1 := Blk.cell (show Blk w og cur 151 from hg) (old * 6 + v)
  rw [h1]
  have h2 := flat_cell os h.ok old v ho hv
  rw [← ht, List.getElem?_take_of_lt (by omega)] at h2
  simpa using h2
theorem DAt.fr {S : Nat → Prop} {w w' : World} {G g cap : Nat} {onv : Value} {vars : List Int} {os : List (List Nat)} {root : Nat} (h : DAt w G g cap onv vars os root) (f : Fr S w w') (hn : ∀ k, (k = G ∨ k = g ∨ onv.ownBlock = some k) → ¬ S k) : DAt w' G g cap onv vars os root :=
 ⟨h.blk.fr f (hn _ (.inl rfl)), h.rv.fr f (fun k hk => hn k (.inr (.inl (by cases hk; rfl)))), ownsRow.fr h.row f (fun k hk => hn k (.inr (.inr hk))), h.ok, h.two⟩
theorem DAt.nw {w w' : World} {G g cap : Nat} {onv : Value} {vars : List Int} {os : List (List Nat)} {root : Nat} (h : DAt w G g cap onv vars os root) (f : Nw w w') : DAt w' G g cap onv vars os root := h.fr f (fun _ _ x => x)
theorem DAt.lt {w : World} {G g cap : Nat} {onv : Value} {vars : List Int} {os : List (List Nat)} {root : Nat} (h : DAt w G g cap onv vars os root) {k : Nat} (hk : k = G ∨ k = g ∨ onv.ownBlock = some k) : k < w.heap.size := by
 rcases hk with rfl | rfl | hk
 ·exact h.blk.lt
 ·exact h.rv.lt rfl
 ·exact (World.ownsRow.lt h.row k hk).2

def CutOk (C b M Mv G g cap : Nat) (onv : Value) (vars : List Int) (os : List (List Nat)) (root : Nat) (dn : List Nat) (m i : Nat) : Prop := ∀ (old : Nat) (s : CS) (nv : Value) (B : Nat) (w : World),
 2 ≤ B → B + cnt m ≤ 100000 → CSok s B → levOk os m old → CutAt w C b M Mv G nv dn s → DAt w G g cap onv vars os root → (∀ k, (k = G ∨ k = g ∨ onv.ownBlock = some k) → ¬ FC C b M Mv nv k) →
 Calls Tryz.prog 121 #[.pointer (some ⟨C, 0, none⟩), .int .i64 old, .int .i64 i] w fun e w' => e = .returned (.int .i64 ((cutTo os vars dn m i old s).2 : Nat)) ∧
  ∃ nv', CutAt w' C b M Mv G nv' dn (cutTo os vars dn m i old s).1 ∧ Fr (FC C b M Mv nv) w w' ∧ (∀ k, nv'.ownBlock = some k → nv.ownBlock = some k ∨ w.heap.size ≤ k)

structure CutI (w wr : World) (C b M Mv G : Nat) (nv : Value) (dn : List Nat) (old i Nn V q : Nat) (st : CS × List Nat) : Prop where
 fr : Fr (FC C b M Mv nv) w wr
 bx : CBox wr w.heap.size C old i
 bN : Blk wr Nn (nodeC st.2).toArray 151
 bV : Blk wr V #[.int .i64 (q : Int)] 3
 cut : ∃ nvk, CutAt wr C b M Mv G nvk dn st.1 ∧ (∀ k, nvk.ownBlock = some k → nv.ownBlock = some k ∨ w.heap.size ≤ k) ∧ nvk.ownBlock ≠ some Nn
theorem CutI.bk {w wr wx : World} {C b M Mv G lo : Nat} {nv : Value} {dn : List Nat} {old i Nn V q : Nat} {st : CS × List Nat} (h : CutI w wr C b M Mv G nv dn old i Nn V q st) (hb : Bk lo wr wx) (hl : w.heap.size ≤ lo) (h1 : M < lo) (h2 : Mv < lo) : CutI w wx C b M Mv G nv dn old i Nn V q st := by
 obtain ⟨nvk, h3, h4, h5⟩ := h.cut
 exact ⟨h.fr.bk hb hl, h.bx.bk hb, h.bN.bk hb, h.bV.bk hb, ⟨nvk, h3.bk hb h1 h2, h4, h5⟩⟩
theorem CutI.drew {w wr : World} {C b M Mv G : Nat} {nv : Value} {dn : List Nat} {old i Nn V q : Nat} {st : CS × List Nat} (h : CutI w wr C b M Mv G nv dn old i Nn V q st) : CutI w wr.drew C b M Mv G nv dn old i Nn V q st := by
 obtain ⟨nvk, h3, h4, h5⟩ := h.cut
 exact ⟨h.fr.drew, ⟨h.bx.b0, h.bx.b1, h.bx.b2⟩, h.bN, h.bV, ⟨nvk, h3.drew, h4, h5⟩⟩

set_option maxHeartbeats 6400000 in
set_option maxRecDepth 1000000 in
theorem cut_go (C b M Mv G g cap : Nat) (onv : Value) (vars : List Int) (os : List (List Nat)) (root : Nat) (dn : List Nat) (m i : Nat) (h8 : dn.length = 8) (h4 : vars.length ≤ 4) (hv : ∀ i, i < vars.length → 0 ≤ vars.getD i 0 ∧ vars.getD i 0 < 8)
  (hd64 : ∀ q, dn.getD q 0 < 64) (hol : os.length ≤ 100000) (hi : i < vars.length) (ih : CutOk C b M Mv G g cap onv vars os root dn m (i + 1)) (old : Nat) (s : CS) (nv : Value) (B : Nat) (w : World)
  (hB2 : 2 ≤ B) (hcnt : B + cnt (m + 1) ≤ 100000) (hs : CSok s B) (ho2 : ¬ old < 2) (hmv : s.mv old = none) (hlev : old < os.length ∧ ∀ v, v < 6 → levOk os m (nodeAt os old v)) (hC : CutAt w C b M Mv G nv dn s) (hD : DAt w G g cap onv vars os root) (hdis : ∀ k, (k = G ∨ k = g ∨ onv.ownBlock = some k) → ¬ FC C b M Mv nv k) :
  Calls Tryz.prog 121 #[.pointer (some ⟨C, 0, none⟩), .int .i64 old, .int .i64 i] w fun e w' => e = .returned (.int .i64 ((cutTo os vars dn (m + 1) i old s).2 : Nat)) ∧
   ∃ nv', CutAt w' C b M Mv G nv' dn (cutTo os vars dn (m + 1) i old s).1 ∧ Fr (FC C b M Mv nv) w w' ∧ (∀ k, nv'.ownBlock = some k → nv.ownBlock = some k ∨ w.heap.size ≤ k) := by
 have hmf : ∀ (fn : Fn) (first cap : Array Value) (w : World), (Instr.makeFunc fn first cap).run Tryz.prog w = .ok (.func fn first cap) w := fun _ _ _ _ => rfl
 have hlt : ¬ (old : Int) < 2 := by omega
 have ho32 : old < 4294967296 := by omega
 obtain ⟨hv0, hv8⟩ := hv i hi
 obtain ⟨q, hq⟩ : ∃ q : Nat, vars.getD i 0 = (q : Int) := ⟨(vars.getD i 0).toNat, by omega⟩
 rw [hq] at hv0 hv8
 have hq8 : q < 8 := by omega
 obtain ⟨og, ocap, hon, hogl, hoc⟩ := hD.node
 subst hon
 obtain ⟨sx, hsxe⟩ : ∃ sx, dn.getD q 0 = sx := ⟨_, rfl⟩
 have hsx := hd64 q
 rw [hsxe] at hsx
 obtain ⟨fin, hfin⟩ : ∃ fin, (vals sx).foldl (cutStep (cutTo os vars dn m (i + 1)) os old q) (s, zero6) = fin := ⟨_, rfl⟩
 have hct : cutTo os vars dn (m + 1) i old s = fin.1.put fin.2 old := by
  rw [cutTo, if_neg ho2, hmv, hq, Int.toNat_natCast, hsxe, hfin]
 rw [hct]
 have hvI : w.cell? ⟨g, i, none⟩ = some (.int .i64 (q : Int)) := by
  have h1 := (hD.rv.at_ i (by simpa using hi)).1
  simp only [List.getElem_map] at h1
  rw [h1, ← hq]
  simp [hi]
 have hiV : (i : Int) < (vars.length : Int) := by omega
 obtain ⟨W, hW⟩ : ∃ W, W = boxedC w C old i := ⟨_, rfl⟩
 have hfW : Nw w W := by rw [hW]; exact boxedC_nw ..
 have hbx : CBox W w.heap.size C old i := by rw [hW]; exact boxedC_box ..
 have hsW : W.heap.size = w.heap.size + 3 := by rw [hW]; simp [boxedC]
 have hCW := hC.nw hfW
 obtain ⟨f, hm, hf⟩ := hCW.mov
 have hl := NumMap.look_ok (w := W.drew) (t := 183) hm intKeyed Tryz.underlying183 (int_key old ho32)
 rw [hf old ho32, hmv] at hl
 have a0 : W.cell? ⟨w.heap.size, 0, none⟩ = some (.pointer (some ⟨C, 0, none⟩)) := hbx.b0.cell 0
 have a1 : W.cell? ⟨w.heap.size + 1, 0, none⟩ = some (.int .i64 (old : Int)) := hbx.b1.cell 0
 have a2 : W.cell? ⟨C, 18, none⟩ = some (.map (some Mv)) := (hCW.blk.cell 18).trans (cutCells_mv _ _ _ _ _ h8 hs.sp)
 have HW := hd hW
 have Hbx := hd hbx
 have HsW := hd hsW
 have HC := hd hC
 have HD := hd hD
 have Hdis := hd hdis
 have Hfin := hd hfin
 have Hsxe := hd hsxe
 have Hq := hd hq
 have Hih := hd ih
 have Hs := hd hs
 have Hlev := hd hlev
 have Hoc := hd hoc
 have Hmv := hd hmv
 clear hW hbx hsW hC hD hdis hfin hsxe hq ih hs hlev hoc hmv hCW hm hf hct
 refine (callsIn_wide (n := 9)).1 ?_
 refine callsIn_of_wp_marks Tryz.func121 rfl trivial ?_ rfl
 simp only [Tryz.ntmps121, List.size_toArray, List.length_cons, List.length_nil, Nat.reduceAdd, Nat.reduceSub, Array.replicate_succ, Array.replicate_zero, List.push_toArray, List.append_toArray, List.nil_append, List.cons_append]
 gi_upto_region 1 with fail
 rw [show ((w.alloc (.cells #[.pointer (some ⟨C, 0, none⟩)] 188)).alloc (.cells #[.int .i64 (old : Int)] 3)).alloc (.cells #[.int .i64 (i : Int)] 3) = W from HW.out.symm]
 clear HW
 gi_upto_region 3 with fail
 refine wpIn_wide.2 ?_
 go_still (by kernel_rfl)
 go_wp2
 gi_upto_region 7 with fail
 obtain ⟨U, hU⟩ : ∃ U, U = (W.alloc (.cells (nodeC zero6).toArray 151)).drew := ⟨_, rfl⟩
 have hfU : Nw W U := by rw [hU]; exact ((Fr.refl _ W).alloc _).drew
 have hbF : Blk U W.heap.size (nodeC zero6).toArray 151 := by rw [hU]; exact (Blk.new _ _ _).drew
 have hsU : U.heap.size = W.heap.size + 1 := by rw [hU]; exact alsz _ _
 rw [show (W.alloc (Obj.cells #[Value.int .i64 0, .int .i64 0, .int .i64 0, .int .i64 0, .int .i64 0, .int .i64 0] 151)).drew = U from hU.symm]
 have HsU := hd hsU
 clear hsU hU
 have hwU : Nw w U := hfW.trans hfU (fun i h => h.elim)
 have hCU := HC.out.nw hwU
 have hDU := HD.out.nw hwU
 have hvU : U.cell? ⟨g, i, none⟩ = some (.int .i64 (q : Int)) := (hwU.cell (HD.out.lt (.inr (.inl rfl))) (fun x => x)).trans hvI
 have hK0 : CBox U.drew w.heap.size C old i ∧ U.drew.cell? ⟨C, 1, none⟩ = some (.pointer (some ⟨G, 0, none⟩)) ∧ U.drew.cell? ⟨G, 0, none⟩ = some (.slice (some ⟨g, 0, none⟩) vars.length cap) ∧ U.drew.cell? ⟨g, i, none⟩ = some (.int .i64 (q : Int)) :=
  ⟨⟨(Hbx.out.b0.nw hfU).drew, (Hbx.out.b1.nw hfU).drew, (Hbx.out.b2.nw hfU).drew⟩, hCU.blk.cell 1, hDU.blk.cell 0, hvU⟩
 have HCU := hd hCU
 have HDU := hd hDU
 clear hCU hDU
 refine wpIn_wide.2 ?_
 refine wp_region_noPanic ?_
 refine wp_region_held (S := fun w'' => CBox w'' w.heap.size C old i ∧ w''.cell? ⟨C, 1, none⟩ = some (.pointer (some ⟨G, 0, none⟩)) ∧ w''.cell? ⟨G, 0, none⟩ = some (.slice (some ⟨g, 0, none⟩) vars.length cap) ∧ w''.cell? ⟨g, i, none⟩ = some (.int .i64 (q : Int))) (by kernel_rfl) ?_
 refine wpAnyH_take (i := 0) (v := .pointer (some ⟨C, 0, none⟩)) rfl (by kernel_rfl) (by kernel_rfl) (by kernel_rfl) (fun _ _ _ h => h) (.inl ⟨by kernel_rfl, fun w'' hS => ?_⟩) hK0 ?_
 ·have q0 : w''.cell? ⟨w.heap.size, 0, none⟩ = some (.pointer (some ⟨C, 0, none⟩)) := hS.1.b0.cell 0
  clear hK0 hS hv hd64 hcnt hmf a0 a1 a2 hl hlt hv0 hv8 hvI hvU hfU hbF
  simp only [List.getElem_toArray, List.getElem_cons_zero]
  go_simp
 refine wpAnyH_take (i := 1) (v := .pointer (some ⟨C, 0, none⟩)) rfl (by kernel_rfl) (by kernel_rfl) (by kernel_rfl) (fun _ _ _ h => h) (.inl ⟨by kernel_rfl, fun w'' hS => by kernel_rfl⟩) hK0 ?_
 refine wpAnyH_take (i := 2) (v := .pointer (some ⟨C, 1, none⟩)) rfl (by kernel_rfl) (by kernel_rfl) (by kernel_rfl) (fun _ _ _ h => h) (.inl ⟨by kernel_rfl, fun w'' hS => by kernel_rfl⟩) hK0 ?_
 refine wpAnyH_take (i := 3) (v := .pointer (some ⟨G, 0, none⟩)) rfl (by kernel_rfl) (by kernel_rfl) (by kernel_rfl) (fun _ _ _ h => h) (.inl ⟨by kernel_rfl, fun w'' hS => ?_⟩) hK0 ?_
 ·have q0 := hS.2.1
  clear hK0 hS hv hd64 hcnt hmf a0 a1 a2 hl hlt hv0 hv8 hvI hvU hfU hbF
  simp only [Act.put, List.setIfInBounds_toArray, List.set_cons_zero, List.set_cons_succ, List.getElem_toArray, List.getElem_cons_zero, List.getElem_cons_succ]
  go_simp
 refine wpAnyH_take (i := 4) (v := .pointer (some ⟨G, 0, none⟩)) rfl (by kernel_rfl) (by kernel_rfl) (by kernel_rfl) (fun _ _ _ h => h) (.inl ⟨by kernel_rfl, fun w'' hS => by kernel_rfl⟩) hK0 ?_
 refine wpAnyH_take (i := 5) (v := .pointer (some ⟨G, 0, none⟩)) rfl (by kernel_rfl) (by kernel_rfl) (by kernel_rfl) (fun _ _ _ h => h) (.inl ⟨by kernel_rfl, fun w'' hS => by kernel_rfl⟩) hK0 ?_
 refine wpAnyH_take (i := 6) (v := .pointer (some ⟨G, 0, none⟩)) rfl (by kernel_rfl) (by kernel_rfl) (by kernel_rfl) (fun _ _ _ h => h) (.inl ⟨by kernel_rfl, fun w'' hS => by kernel_rfl⟩) hK0 ?_
 refine wpAnyH_take (i := 7) (v := .slice (some ⟨g, 0, none⟩) vars.length cap) rfl (by kernel_rfl) (by kernel_rfl) (by kernel_rfl) (fun _ _ _ h => h) (.inl ⟨by kernel_rfl, fun w'' hS => ?_⟩) hK0 ?_
 ·have q0 := hS.2.2.1
  clear hK0 hS hv hd64 hcnt hmf a0 a1 a2 hl hlt hv0 hv8 hvI hvU hfU hbF
  simp only [Act.put, List.setIfInBounds_toArray, List.set_cons_zero, List.set_cons_succ, List.getElem_toArray, List.getElem_cons_zero, List.getElem_cons_succ]
  go_simp
 refine wpAnyH_take (i := 8) (v := .int .i64 (i : Int)) rfl (by kernel_rfl) (by kernel_rfl) (by kernel_rfl) (fun _ _ _ h => h) (.inl ⟨by kernel_rfl, fun w'' hS => ?_⟩) hK0 ?_
 ·have q0 : w''.cell? ⟨w.heap.size + 1 + 1, 0, none⟩ = some (.int .i64 (i : Int)) := hS.1.b2.cell 0
  clear hK0 hS hv hd64 hcnt hmf a0 a1 a2 hl hlt hv0 hv8 hvI hvU hfU hbF
  simp only [Act.put, List.setIfInBounds_toArray, List.set_cons_zero, List.set_cons_succ, List.getElem_toArray, List.getElem_cons_zero, List.getElem_cons_succ]
  go_simp
 refine wpAnyH_take (i := 9) (v := .pointer (some ⟨g, i, none⟩)) rfl (by kernel_rfl) (by kernel_rfl) (by kernel_rfl) (fun _ _ _ h => h) (.inl ⟨by kernel_rfl, fun w'' hS => ?_⟩) hK0 ?_
 ·clear hK0 hS hv hd64 hcnt hmf a0 a1 a2 hl hlt hv0 hv8 hvI hvU hfU hbF
  simp only [Act.put, List.setIfInBounds_toArray, List.set_cons_zero, List.set_cons_succ, List.getElem_toArray, List.getElem_cons_zero, List.getElem_cons_succ]
  go_simp
 refine wpAnyH_take (i := 10) (v := .int .i64 (q : Int)) rfl (by kernel_rfl) (by kernel_rfl) (by kernel_rfl) (fun _ _ _ h => h) (.inl ⟨by kernel_rfl, fun w'' hS => ?_⟩) hK0 ?_
 ·have q0 := hS.2.2.2
  clear hK0 hS hv hd64 hcnt hmf a0 a1 a2 hl hlt hv0 hv8 hvI hvU hfU hbF
  simp only [Act.put, List.setIfInBounds_toArray, List.set_cons_zero, List.set_cons_succ, List.getElem_toArray, List.getElem_cons_zero, List.getElem_cons_succ]
  go_simp
 obtain ⟨Y, hY⟩ : ∃ Y, Y = U.drew.alloc (.cells #[.int .i64 0] 3) := ⟨_, rfl⟩
 have hfY : Nw U Y := by rw [hY]; exact ((Fr.refl _ U).drew).alloc _
 have hbY : Blk Y U.heap.size #[.int .i64 0] 3 := by rw [hY]; exact Blk.new _ _ _
 have hSnw : ∀ X, Nw U X → CBox X w.heap.size C old i ∧ X.cell? ⟨C, 1, none⟩ = some (.pointer (some ⟨G, 0, none⟩)) ∧ X.cell? ⟨G, 0, none⟩ = some (.slice (some ⟨g, 0, none⟩) vars.length cap) ∧ X.cell? ⟨g, i, none⟩ = some (.int .i64 (q : Int)) := fun X hX =>
  ⟨⟨(Hbx.out.b0.nw hfU).nw hX, (Hbx.out.b1.nw hfU).nw hX, (Hbx.out.b2.nw hfU).nw hX⟩, (HCU.out.nw hX).blk.cell 1, (HDU.out.nw hX).blk.cell 0, (hX.cell (HDU.out.lt (.inr (.inl rfl))) (fun x => x)).trans hvU⟩
 refine wpAnyH_all (rs := [11]) (by kernel_rfl) (by simp) (fun j hj => ?_)
 obtain rfl : j = 11 := by simpa using hj
 refine op_value (v := .pointer (some ⟨U.heap.size, 0, none⟩)) (w' := Y) rfl (by kernel_rfl) ?_ ⟨hSnw Y hfY, ?_⟩
 ·rw [hY]
  kernel_rfl
 clear hY
 have cY : Y.cell? ⟨U.heap.size, 0, none⟩ = some (.int .i64 0) := hbY.cell 0
 have fY := hbY.free 0
 obtain ⟨Z, hZ⟩ : ∃ Z, Z = Y.setCell ⟨U.heap.size, 0, none⟩ (.int .i64 (q : Int)) := ⟨_, rfl⟩
 have hfZ : Nw U Z := by rw [hZ]; exact hfY.setCell _ _ (.inr (Nat.le_refl _))
 have hbZ : Blk Z U.heap.size #[.int .i64 (q : Int)] 3 := by rw [hZ]; exact hbY.set 0 _
 refine wpAnyH_all (rs := [12]) (by kernel_rfl) (by simp) (fun j hj => ?_)
 obtain rfl : j = 12 := by simpa using hj
 refine op_skip (w' := Z) rfl (by kernel_rfl) ?_ ⟨hSnw Z hfZ, wpAnyH_done (by kernel_rfl) (NoPanic.normal ?_) _⟩
 ·rw [hZ]
  clear hK0 hv hd64 hcnt hmf a0 a1 a2 hl hlt hv0 hv8 hvI hvU hfU hbF hZ hfZ hbZ hSnw hfY hbY
  simp only [Act.put, List.setIfInBounds_toArray, List.set_cons_zero, List.set_cons_succ, List.getElem_toArray, List.getElem_cons_zero, List.getElem_cons_succ]
  go_simp
 simp only [Act.put, List.setIfInBounds_toArray, List.set_cons_zero, List.set_cons_succ, List.getElem_toArray, List.getElem_cons_zero, List.getElem_cons_succ]
 have hwZ : Nw w Z := hwU.trans hfZ (fun i h => h.elim)
 have hMl : M < w.heap.size := HC.out.lt (.inr (.inr (.inr (.inl rfl))))
 have hMvl : Mv < w.heap.size := HC.out.lt (.inr (.inl rfl))
 have hsZ := hbZ.lt
 have hWs := HsW.out
 have hUs := HsU.out
 have hI0 : CutI w Z C b M Mv G nv dn old i W.heap.size U.heap.size q (s, zero6) :=
  ⟨hwZ.mono (fun i h => h.elim), (hSnw Z hfZ).1, hbF.nw hfZ, hbZ, ⟨nv, HC.out.nw hwZ, fun k hk => .inl hk, fun e => by have := HC.out.lt (.inr (.inr (.inr (.inr e)))); omega⟩⟩
 have aC : Z.cell? ⟨w.heap.size, 0, none⟩ = some (.pointer (some ⟨C, 0, none⟩)) := hI0.bx.b0.cell 0
 have aV : Z.cell? ⟨U.heap.size, 0, none⟩ = some (.int .i64 (q : Int)) := hI0.bV.cell 0
 have aD : Z.cell? ⟨C, 2 + q, none⟩ = some (.int .u8 (sx : Int)) := by rw [← Hsxe.out]; exact ((HC.out.nw hwZ).blk.cell _).trans (cutCells_dn _ _ _ _ _ _ h8 hq8)
 have HI0 := hd hI0
 clear hZ hfZ hbZ cY fY hbY hfY hSnw hK0 hvU a0 a1 a2 hl hI0 hWs hUs
 simp only [Exit.then]
 gi_upto_region 8 with fail
 refine wpIn_wide.2 ?_
 go_still (by kernel_rfl)
 go_wp2
 gi_wp2_with fail
 show Code.wpIn _ _ _ _ _ _ Z.drew
 have hszZd : Z.drew.heap.size = Z.heap.size := rfl
 have hszZ : w.heap.size + 5 ≤ Z.heap.size := by have := HsW.out; have := HsU.out; omega
 refine wp_each (show sx < 256 by omega) rfl (by simp) (fun pre A => CutI w A C b M Mv G nv dn old i W.heap.size U.heap.size q (pre.foldl (cutStep (cutTo os vars dn m (i + 1)) os old q) (s, zero6)))
  (fun pre A B h hb => h.bk hb (by rw [hszZd]; omega) (by rw [hszZd]; omega) (by rw [hszZd]; omega)) HI0.out.drew ?body ?done
 case body =>
  rintro l pre v A hpre hI
  have hmem : v ∈ vals sx := hpre.subset (List.mem_append_right pre (List.mem_singleton.2 rfl))
  have hv6 : v < 6 := vals_lt6 hsx hmem
  have hpm : ∀ x ∈ pre, x < 6 := fun x hx => vals_lt6 hsx (hpre.subset (List.mem_append_left _ hx))
  have hplen : pre.length + 1 ≤ 6 := by
   have h1 := hpre.length_le
   have h2 := vals_len hsx
   simp at h1
   omega
  obtain ⟨st, hst⟩ : ∃ st, pre.foldl (cutStep (cutTo os vars dn m (i + 1)) os old q) (s, zero6) = st := ⟨_, rfl⟩
  rw [hst] at hI
  have hstep : (pre ++ [v]).foldl (cutStep (cutTo os vars dn m (i + 1)) os old q) (s, zero6) = cutStep (cutTo os vars dn m (i + 1)) os old q st v := by rw [List.foldl_append, hst]; rfl
  rw [hstep]
  obtain ⟨hcs, hs6, hsx6⟩ := cutFold os q (cutTo os vars dn m (i + 1)) old (cnt m) B s Hs.out (fun v s' B' hv hB' hs' => cutTo_ok os vars dn hd64 m (i + 1) (nodeAt os old v) s' B' (by omega) (Hlev.out.2 v hv) hs') pre hpm st hst
  have hpc : B + pre.length * cnt m + cnt m ≤ 100000 := by
   have h1 : pre.length * cnt m ≤ 5 * cnt m := Nat.mul_le_mul_right _ (by omega)
   have e : cnt (m + 1) = 6 * cnt m + 1 := rfl
   omega
  obtain ⟨nvk, hCk, hnk, hnN⟩ := hI.cut
  obtain ⟨x, hx⟩ : ∃ x, nodeAt os old v = x := ⟨_, rfl⟩
  obtain ⟨r, hre⟩ : ∃ r, cutTo os vars dn m (i + 1) x st.1 = r := ⟨_, rfl⟩
  have hlx : levOk os m x := by rw [← hx]; exact Hlev.out.2 v hv6
  have hrok := cutTo_ok os vars dn hd64 m (i + 1) x st.1 (B + pre.length * cnt m) (by omega) hlx hcs
  rw [hre] at hrok
  obtain ⟨st', hst'⟩ : ∃ st', cutStep (cutTo os vars dn m (i + 1)) os old q st v = st' := ⟨_, rfl⟩
  have hst2 : st' = (r.1.mark q v r.2, st.2.set v r.2) := by rw [← hst']; unfold cutStep; rw [hx, hre]
  rw [hst']
  have Hst2 := hd hst2
  clear hst hstep hst' hst2 hpre hmem aC aV aD HI0 hpm
  have hdisk : ∀ k, (k = G ∨ k = g ∨ (Value.slice (some ⟨og, 0, none⟩) os.length ocap).ownBlock = some k) → ¬ FC C b M Mv nvk k := fun k hk hF => by
   have hkl := HD.out.lt hk
   rcases hF with h | h | h | h | h
   ·exact Hdis.out k hk (.inl h)
   ·exact Hdis.out k hk (.inr (.inl h))
   ·exact Hdis.out k hk (.inr (.inr (.inl h)))
   ·exact Hdis.out k hk (.inr (.inr (.inr (.inl h))))
   ·rcases hnk k h with h1 | h1
    ·exact Hdis.out k hk (.inr (.inr (.inr (.inr h1))))
    ·omega
  have hDA : DAt A G g cap (.slice (some ⟨og, 0, none⟩) os.length ocap) vars os root := HD.out.fr hI.fr Hdis.out
  have hxA : A.cell? ⟨og, old * 6 + v, none⟩ = some (.int .i64 (x : Int)) := by
   rw [← hx]
   exact (hI.fr.cell hogl (Hdis.out og (.inr (.inr rfl)))).trans (Hoc.out old v Hlev.out.1 hv6)
  have hK0 : CBox A.drew w.heap.size C old i ∧ A.drew.cell? ⟨C, 1, none⟩ = some (.pointer (some ⟨G, 0, none⟩)) ∧ A.drew.cell? ⟨G, 1, none⟩ = some (.slice (some ⟨og, 0, none⟩) os.length ocap) ∧ A.drew.cell? ⟨og, old * 6 + v, none⟩ = some (.int .i64 (x : Int)) := ⟨⟨hI.bx.b0, hI.bx.b1, hI.bx.b2⟩, hCk.blk.cell 1, hDA.blk.cell 1, hxA⟩
  have HI := hd hI
  have HCk := hd hCk
  have Hre := hd hre
  have Hx := hd hx
  have HDA := hd hDA
  have HxA := hd hxA
  have hol' : (old : Int) < (os.length : Int) := by have := Hlev.out.1; omega
  have ho0' : (0 : Int) ≤ (old : Int) := by omega
  have hv0' : (0 : Int) ≤ (v : Int) := by omega
  have hv6' : (v : Int) < 6 := by omega
  clear hI hCk hre hx hDA hxA
  gi_wp2_with fail
  refine wpIn_H (S := fun w'' => CBox w'' w.heap.size C old i ∧ w''.cell? ⟨C, 1, none⟩ = some (.pointer (some ⟨G, 0, none⟩)) ∧ w''.cell? ⟨G, 1, none⟩ = some (.slice (some ⟨og, 0, none⟩) os.length ocap) ∧ w''.cell? ⟨og, old * 6 + v, none⟩ = some (.int .i64 (x : Int))) (by kernel_rfl) (fun a w h => h) ?_
  refine wpAnyH_take (i := 0) (v := .int .i64 (v : Int)) rfl (by kernel_rfl) (by kernel_rfl) (by kernel_rfl) (fun _ _ _ h => h) (.inl ⟨by kernel_rfl, fun w'' hS => by kernel_rfl⟩) hK0 ?_
  refine wpAnyH_take (i := 1) (v := .pointer (some ⟨C, 0, none⟩)) rfl (by kernel_rfl) (by kernel_rfl) (by kernel_rfl) (fun _ _ _ h => h) (.inl ⟨by kernel_rfl, fun w'' hS => ?_⟩) hK0 ?_
  ·have q0 : w''.cell? ⟨w.heap.size, 0, none⟩ = some (.pointer (some ⟨C, 0, none⟩)) := hS.1.b0.cell 0
   clear hK0 hS hv hd64 hcnt hmf hlt hv0 hv8 hvI hfU hbF hnk hnN hplen hcs hs6 hsx6 hrok hdisk
   simp only [Act.put, List.setIfInBounds_toArray, List.set_cons_zero, List.set_cons_succ, List.getElem_toArray, List.getElem_cons_zero, List.getElem_cons_succ]
   go_simp
  refine wpAnyH_take (i := 2) (v := .pointer (some ⟨C, 0, none⟩)) rfl (by kernel_rfl) (by kernel_rfl) (by kernel_rfl) (fun _ _ _ h => h) (.inl ⟨by kernel_rfl, fun w'' hS => ?_⟩) hK0 ?_
  ·have q0 : w''.cell? ⟨w.heap.size, 0, none⟩ = some (.pointer (some ⟨C, 0, none⟩)) := hS.1.b0.cell 0
   clear hK0 hS hv hd64 hcnt hmf hlt hv0 hv8 hvI hfU hbF hnk hnN hplen hcs hs6 hsx6 hrok hdisk
   simp only [Act.put, List.setIfInBounds_toArray, List.set_cons_zero, List.set_cons_succ, List.getElem_toArray, List.getElem_cons_zero, List.getElem_cons_succ]
   go_simp
  refine wpAnyH_take (i := 3) (v := .pointer (some ⟨C, 0, none⟩)) rfl (by kernel_rfl) (by kernel_rfl) (by kernel_rfl) (fun _ _ _ h => h) (.inl ⟨by kernel_rfl, fun w'' hS => by kernel_rfl⟩) hK0 ?_
  refine wpAnyH_take (i := 4) (v := .pointer (some ⟨C, 1, none⟩)) rfl (by kernel_rfl) (by kernel_rfl) (by kernel_rfl) (fun _ _ _ h => h) (.inl ⟨by kernel_rfl, fun w'' hS => by kernel_rfl⟩) hK0 ?_
  refine wpAnyH_take (i := 5) (v := .pointer (some ⟨G, 0, none⟩)) rfl (by kernel_rfl) (by kernel_rfl) (by kernel_rfl) (fun _ _ _ h => h) (.inl ⟨by kernel_rfl, fun w'' hS => ?_⟩) hK0 ?_
  ·have q0 := hS.2.1
   clear hK0 hS hv hd64 hcnt hmf hlt hv0 hv8 hvI hfU hbF hnk hnN hplen hcs hs6 hsx6 hrok hdisk
   simp only [Act.put, List.setIfInBounds_toArray, List.set_cons_zero, List.set_cons_succ, List.getElem_toArray, List.getElem_cons_zero, List.getElem_cons_succ]
   go_simp
  refine wpAnyH_take (i := 6) (v := .pointer (some ⟨G, 0, none⟩)) rfl (by kernel_rfl) (by kernel_rfl) (by kernel_rfl) (fun _ _ _ h => h) (.inl ⟨by kernel_rfl, fun w'' hS => by kernel_rfl⟩) hK0 ?_
  refine wpAnyH_take (i := 7) (v := .pointer (some ⟨G, 1, none⟩)) rfl (by kernel_rfl) (by kernel_rfl) (by kernel_rfl) (fun _ _ _ h => h) (.inl ⟨by kernel_rfl, fun w'' hS => by kernel_rfl⟩) hK0 ?_
  refine wpAnyH_take (i := 8) (v := .slice (some ⟨og, 0, none⟩) os.length ocap) rfl (by kernel_rfl) (by kernel_rfl) (by kernel_rfl) (fun _ _ _ h => h) (.inl ⟨by kernel_rfl, fun w'' hS => ?_⟩) hK0 ?_
  ·have q0 := hS.2.2.1
   clear hK0 hS hv hd64 hcnt hmf hlt hv0 hv8 hvI hfU hbF hnk hnN hplen hcs hs6 hsx6 hrok hdisk
   simp only [Act.put, List.setIfInBounds_toArray, List.set_cons_zero, List.set_cons_succ, List.getElem_toArray, List.getElem_cons_zero, List.getElem_cons_succ]
   go_simp
  refine wpAnyH_take (i := 9) (v := .int .i64 (old : Int)) rfl (by kernel_rfl) (by kernel_rfl) (by kernel_rfl) (fun _ _ _ h => h) (.inl ⟨by kernel_rfl, fun w'' hS => ?_⟩) hK0 ?_
  ·have q0 : w''.cell? ⟨w.heap.size + 1, 0, none⟩ = some (.int .i64 (old : Int)) := hS.1.b1.cell 0
   clear hK0 hS hv hd64 hcnt hmf hlt hv0 hv8 hvI hfU hbF hnk hnN hplen hcs hs6 hsx6 hrok hdisk
   simp only [Act.put, List.setIfInBounds_toArray, List.set_cons_zero, List.set_cons_succ, List.getElem_toArray, List.getElem_cons_zero, List.getElem_cons_succ]
   go_simp
  refine wpAnyH_take (i := 10) (v := .int .i64 (v : Int)) rfl (by kernel_rfl) (by kernel_rfl) (by kernel_rfl) (fun _ _ _ h => h) (.inl ⟨by kernel_rfl, fun w'' hS => by kernel_rfl⟩) hK0 ?_
  refine wpAnyH_take (i := 11) (v := .pointer (some ⟨og, old * 6, none⟩)) rfl (by kernel_rfl) (by kernel_rfl) (by kernel_rfl) (fun _ _ _ h => h) (.inl ⟨by kernel_rfl, fun w'' hS => ?_⟩) hK0 ?_
  ·clear hK0 hS hv hd64 hcnt hmf hlt hv0 hv8 hvI hfU hbF hnk hnN hplen hcs hs6 hsx6 hrok hdisk
   simp only [Act.put, List.setIfInBounds_toArray, List.set_cons_zero, List.set_cons_succ, List.getElem_toArray, List.getElem_cons_zero, List.getElem_cons_succ]
   go_simp
  refine wpAnyH_take (i := 12) (v := .pointer (some ⟨og, old * 6, none⟩)) rfl (by kernel_rfl) (by kernel_rfl) (by kernel_rfl) (fun _ _ _ h => h) (.inl ⟨by kernel_rfl, fun w'' hS => by kernel_rfl⟩) hK0 ?_
  refine wpAnyH_take (i := 13) (v := .pointer (some ⟨og, old * 6 + v, none⟩)) rfl (by kernel_rfl) (by kernel_rfl) (by kernel_rfl) (fun _ _ _ h => h) (.inl ⟨by kernel_rfl, fun w'' hS => ?_⟩) hK0 ?_
  ·clear hK0 hS hv hd64 hcnt hmf hlt hv0 hv8 hvI hfU hbF hnk hnN hplen hcs hs6 hsx6 hrok hdisk
   simp only [Act.put, List.setIfInBounds_toArray, List.set_cons_zero, List.set_cons_succ, List.getElem_toArray, List.getElem_cons_zero, List.getElem_cons_succ]
   go_simp
  refine wpAnyH_take (i := 14) (v := .int .i64 (x : Int)) rfl (by kernel_rfl) (by kernel_rfl) (by kernel_rfl) (fun _ _ _ h => h) (.inl ⟨by kernel_rfl, fun w'' hS => ?_⟩) hK0 ?_
  ·have q0 := hS.2.2.2
   clear hK0 hS hv hd64 hcnt hmf hlt hv0 hv8 hvI hfU hbF hnk hnN hplen hcs hs6 hsx6 hrok hdisk
   simp only [Act.put, List.setIfInBounds_toArray, List.set_cons_zero, List.set_cons_succ, List.getElem_toArray, List.getElem_cons_zero, List.getElem_cons_succ]
   go_simp
  refine wpAnyH_take (i := 15) (v := .int .i64 (i : Int)) rfl (by kernel_rfl) (by kernel_rfl) (by kernel_rfl) (fun _ _ _ h => h) (.inl ⟨by kernel_rfl, fun w'' hS => ?_⟩) hK0 ?_
  ·have q0 : w''.cell? ⟨w.heap.size + 1 + 1, 0, none⟩ = some (.int .i64 (i : Int)) := hS.1.b2.cell 0
   clear hK0 hS hv hd64 hcnt hmf hlt hv0 hv8 hvI hfU hbF hnk hnN hplen hcs hs6 hsx6 hrok hdisk
   simp only [Act.put, List.setIfInBounds_toArray, List.set_cons_zero, List.set_cons_succ, List.getElem_toArray, List.getElem_cons_zero, List.getElem_cons_succ]
   go_simp
  refine wpAnyH_take (i := 16) (v := .int .i64 ((i + 1 : Nat) : Int)) rfl (by kernel_rfl) (by kernel_rfl) (by kernel_rfl) (fun _ _ _ h => h) (.inl ⟨by kernel_rfl, fun w'' hS => ?_⟩) hK0 ?_
  ·clear hK0 hS hv hd64 hcnt hmf hlt hv0 hv8 hvI hfU hbF hnk hnN hplen hcs hs6 hsx6 hrok hdisk
   simp only [Act.put, List.setIfInBounds_toArray, List.set_cons_zero, List.set_cons_succ, List.getElem_toArray, List.getElem_cons_zero, List.getElem_cons_succ]
   go_simp
   rw [IntKind.wrap_i64]
   omega
  refine wpAnyH_take (i := 18) (v := .pointer (some ⟨W.heap.size, 0, none⟩)) rfl (by kernel_rfl) (by kernel_rfl) (by kernel_rfl) (fun _ _ _ h => h) (.inl ⟨by kernel_rfl, fun w'' hS => by kernel_rfl⟩) hK0 ?_
  refine wpAnyH_all (rs := [17]) (by kernel_rfl) (by simp) (fun j hj => ?_)
  obtain rfl : j = 17 := by simpa using hj
  refine op_enter (f := 121) (args := #[.pointer (some ⟨C, 0, none⟩), .int .i64 (x : Int), .int .i64 ((i + 1 : Nat) : Int)]) (w' := A.drew) rfl (by kernel_rfl) (by kernel_rfl) ?_
  refine (Hih.out x st.1 nvk (B + pre.length * cnt m) A.drew (by omega) hpc hcs hlx HCk.out.drew (HDA.out.nw ((Fr.refl _ A).drew)) hdisk).mono ?_
  rw [Hre.out]
  rintro e A2 ⟨rfl, nv2, hC2, hf2, hn2⟩
  have hf2' : Fr (FC C b M Mv nvk) A A2 := hf2.of_drew
  have hn2' : ∀ k, nv2.ownBlock = some k → nvk.ownBlock = some k ∨ A.heap.size ≤ k := hn2
  have hAs : W.heap.size < A.heap.size := HI.out.bN.lt
  have hAU : U.heap.size < A.heap.size := HI.out.bV.lt
  have hWs := HsW.out
  have hUs := HsU.out
  have hbxN : ∀ k, w.heap.size ≤ k → k ≤ w.heap.size + 2 → ¬ FC C b M Mv nvk k := fun k h1 h2 => by
   have hk : k = w.heap.size ∨ k = w.heap.size + 1 ∨ k = w.heap.size + 1 + 1 := by omega
   rcases hk with rfl | rfl | rfl
   ·exact HCk.out.other HI.out.bx.b0 (by decide) (by decide) (by decide)
   ·exact HCk.out.other HI.out.bx.b1 (by decide) (by decide) (by decide)
   ·exact HCk.out.other HI.out.bx.b2 (by decide) (by decide) (by decide)
  have hNnF : ¬ FC C b M Mv nvk W.heap.size := by
   have hCl := HC.out.lt (.inl rfl)
   have hbl := HC.out.lt (.inr (.inr (.inl rfl)))
   rintro (h | h | h | h | h)
   ·omega
   ·omega
   ·omega
   ·omega
   ·exact hnN h
  have hVF : ¬ FC C b M Mv nvk U.heap.size := HCk.out.other HI.out.bV (by decide) (by decide) (by decide)
  have hbx2 : CBox A2 w.heap.size C old i := HI.out.bx.fr hf2' hbxN
  have hN2 : Blk A2 W.heap.size (nodeC st.2).toArray 151 := HI.out.bN.fr hf2' hNnF
  have hV2 : Blk A2 U.heap.size #[.int .i64 (q : Int)] 3 := HI.out.bV.fr hf2' hVF
  have hD2 : DAt A2 G g cap (.slice (some ⟨og, 0, none⟩) os.length ocap) vars os root := HDA.out.fr hf2' hdisk
  have hx2 : A2.cell? ⟨og, old * 6 + v, none⟩ = some (.int .i64 (x : Int)) := (hf2'.cell (HDA.out.lt (.inr (.inr rfl))) (hdisk og (.inr (.inr rfl)))).trans HxA.out
  have hS2 : CBox A2 w.heap.size C old i ∧ A2.cell? ⟨C, 1, none⟩ = some (.pointer (some ⟨G, 0, none⟩)) ∧ A2.cell? ⟨G, 1, none⟩ = some (.slice (some ⟨og, 0, none⟩) os.length ocap) ∧ A2.cell? ⟨og, old * 6 + v, none⟩ = some (.int .i64 (x : Int)) := ⟨hbx2, hC2.blk.cell 1, hD2.blk.cell 1, hx2⟩
  refine ⟨_, rfl, hS2, ?_⟩
  refine wpAnyH_all (rs := [19]) (by kernel_rfl) (by simp) (fun j hj => ?_)
  obtain rfl : j = 19 := by simpa using hj
  refine op_value (v := .pointer (some ⟨W.heap.size, v, none⟩)) (w' := A2) rfl (by kernel_rfl) ?_ ⟨hS2, ?_⟩
  ·clear hK0 hv hd64 hcnt hmf hlt hv0 hv8 hvI hfU hbF hnk hnN hplen hcs hs6 hsx6 hrok hdisk hf2 hf2' hn2 hn2' hAs hAU hWs hUs hbxN hNnF hVF hbx2 hN2 hV2 hD2 hx2 hS2 hC2
   simp only [Act.put, List.setIfInBounds_toArray, List.set_cons_zero, List.set_cons_succ, List.getElem_toArray, List.getElem_cons_zero, List.getElem_cons_succ]
   go_simp
  refine wpAnyH_all (rs := [20]) (by kernel_rfl) (by simp) (fun j hj => ?_)
  obtain rfl : j = 20 := by simpa using hj
  have hvl : v < (nodeC st.2).toArray.size := by simp [nodeC, hs6]; omega
  obtain ⟨ov, hcN⟩ : ∃ ov, A2.cell? ⟨W.heap.size, v, none⟩ = some ov := ⟨_, (hN2.cell v).trans (Array.getElem?_eq_getElem hvl)⟩
  have hfN := hN2.free v
  obtain ⟨A3, hA3⟩ : ∃ A3, A3 = A2.setCell ⟨W.heap.size, v, none⟩ (.int .i64 (r.2 : Int)) := ⟨_, rfl⟩
  have hf3 : Fr (fun k => k = W.heap.size) A2 A3 := by rw [hA3]; exact (Fr.refl _ A2).setCell _ _ (.inl rfl)
  have hbx3 : CBox A3 w.heap.size C old i := hbx2.fr hf3 (fun k h1 h2 e => by omega)
  have hN3 : Blk A3 W.heap.size (nodeC (st.2.set v r.2)).toArray 151 := by
   rw [hA3]
   have h5 := hN2.set v (.int .i64 (r.2 : Int))
   have e5 : (nodeC st.2).toArray.setIfInBounds v (.int .i64 (r.2 : Int)) = (nodeC (st.2.set v r.2)).toArray := by simp [nodeC, List.map_set]
   rw [e5] at h5
   exact h5
  have hFCN : ∀ k, FC C b M Mv nv2 k → k ≠ W.heap.size := fun k hk e => by
   have hCl := HC.out.lt (.inl rfl)
   have hbl := HC.out.lt (.inr (.inr (.inl rfl)))
   rcases hk with h | h | h | h | h
   ·omega
   ·omega
   ·omega
   ·omega
   ·rcases hn2' k h with h1 | h1
    ·exact hnN (by rw [← e]; exact h1)
    ·omega
  have hC3 : CutAt A3 C b M Mv G nv2 dn r.1 := hC2.fr hf3 hFCN
  have hWo : ∀ k, (k = G ∨ k = g ∨ (Value.slice (some ⟨og, 0, none⟩) os.length ocap).ownBlock = some k) → k ≠ W.heap.size := fun k hk => by have := HD.out.lt hk; omega
  have hS3 : CBox A3 w.heap.size C old i ∧ A3.cell? ⟨C, 1, none⟩ = some (.pointer (some ⟨G, 0, none⟩)) ∧ A3.cell? ⟨G, 1, none⟩ = some (.slice (some ⟨og, 0, none⟩) os.length ocap) ∧ A3.cell? ⟨og, old * 6 + v, none⟩ = some (.int .i64 (x : Int)) := ⟨hbx3, hC3.blk.cell 1, (hD2.fr hf3 hWo).blk.cell 1, (hf3.cell (hD2.lt (.inr (.inr rfl))) (hWo og (.inr (.inr rfl)))).trans hx2⟩
  refine op_skip (w' := A3) rfl (by kernel_rfl) ?_ ⟨hS3, wpAnyH_done (by kernel_rfl) ?_ _⟩
  ·rw [hA3]
   clear hK0 hv hd64 hcnt hmf hlt hv0 hv8 hvI hfU hbF hnk hnN hplen hcs hs6 hsx6 hrok hdisk hf2 hf2' hn2 hn2' hAs hAU hWs hUs hbxN hNnF hVF hbx2 hN2 hV2 hD2 hx2 hS2 hC2 hA3 hf3 hbx3 hN3 hFCN hC3 hWo hS3
   simp only [Act.put, List.setIfInBounds_toArray, List.set_cons_zero, List.set_cons_succ, List.getElem_toArray, List.getElem_cons_zero, List.getElem_cons_succ]
   go_simp
  simp only [Act.put, List.setIfInBounds_toArray, List.set_cons_zero, List.set_cons_succ, List.getElem_toArray, List.getElem_cons_zero, List.getElem_cons_succ]
  have hrN : A3.cell? ⟨W.heap.size, v, none⟩ = some (.int .i64 (r.2 : Int)) := by
   rw [hN3.cell]
   simp [nodeC, hs6, hv6]
  have hV3 : Blk A3 U.heap.size #[.int .i64 (q : Int)] 3 := hV2.fr hf3 (by omega)
  have hFA3 : Fr (fun k => FC C b M Mv nvk k ∨ k = W.heap.size) A A3 := (hf2'.mono (fun k h => .inl (.inl h))).trans hf3 (fun k h => .inl (.inr h))
  have hFw : Fr (FC C b M Mv nv) w A3 := HI.out.fr.trans hFA3 (fun k h => by
   rcases h with h | h
   ·rcases h with h | h | h | h | h
    ·exact .inl (.inl h)
    ·exact .inl (.inr (.inl h))
    ·exact .inl (.inr (.inr (.inl h)))
    ·exact .inl (.inr (.inr (.inr (.inl h))))
    ·rcases hnk k h with h1 | h1
     ·exact .inl (.inr (.inr (.inr (.inr h1))))
     ·exact .inr h1
   ·exact .inr (by omega))
  have hkp : KeepsLD A A3 := hFA3.keepsM (fun k hk => by
   rcases hk with hk | rfl
   ·exact HCk.out.loopy k hk
   ·exact ⟨_, HI.out.bN, rfl⟩)
  have hnk2 : ∀ k, nv2.ownBlock = some k → nv.ownBlock = some k ∨ w.heap.size ≤ k := fun k hk => by
   rcases hn2' k hk with h | h
   ·exact hnk k h
   ·exact .inr (by omega)
  have hnN2 : nv2.ownBlock ≠ some W.heap.size := fun e => by
   rcases hn2' _ e with h | h
   ·exact hnN h
   ·omega
  have HC3 := hd hC3
  have Hbx3 := hd hbx3
  have HN3 := hd hN3
  have HV3 := hd hV3
  have HFw := hd hFw
  have Hkp := hd hkp
  have hs8r := hrok.1.sp
  have hsr6 := hrok.1.sp6 q
  clear hC3 hbx3 hN3 hV3 hFw hkp hFA3 hS3 hS2 hx2 hD2 hV2 hN2 hbx2 hC2 hf2 hf2' hf3 hA3 hcN hfN hWo hFCN hbxN hNnF hVF hK0 hdisk HxA HDA hWs hUs
  by_cases hr0 : r.2 = 0
  ·have hr0' : ((r.2 : Int) != 0) = false := by simp [hr0]
   have Hr0 := hd hr0
   clear hr0
   simp only [Exit.then]
   gi_wp2
   refine ⟨Hkp.out, ?_⟩
   show CutI ..
   rw [Hst2.out]
   refine ⟨HFw.out, Hbx3.out, HN3.out, HV3.out, ⟨nv2, ?_, hnk2, hnN2⟩⟩
   have em : r.1.mark q v r.2 = r.1 := by rw [CS.mark, if_pos Hr0.out]
   rw [em]
   exact HC3.out
  ·have hr0' : ((r.2 : Int) != 0) = true := by simp [hr0]
   have Hr0 := hd hr0
   clear hr0
   have b0 : A3.cell? ⟨w.heap.size, 0, none⟩ = some (.pointer (some ⟨C, 0, none⟩)) := Hbx3.out.b0.cell 0
   have bV' : A3.cell? ⟨U.heap.size, 0, none⟩ = some (.int .i64 (q : Int)) := HV3.out.cell 0
   have bS' : A3.cell? ⟨C, 10 + q, none⟩ = some (.int .u8 (r.1.sp.getD q 0 : Nat)) := (HC3.out.blk.cell _).trans (cutCells_sp _ _ _ _ _ _ h8 hs8r hq8)
   have fS' := HC3.out.blk.free (10 + q)
   obtain ⟨acc, hacce⟩ : ∃ acc, r.1.sp.getD q 0 = acc := ⟨_, rfl⟩
   rw [hacce] at bS' hsr6
   have hpv : 2 ^ v < 64 := Nat.pow_lt_pow_right (m := v) (n := 6) (by omega) hv6
   have hor := u8_or_nat acc (2 ^ v) (by omega) (by omega)
   have hone := one_any v A3.drew (by omega)
   obtain ⟨pv, hpve⟩ : ∃ pv, 2 ^ v = pv := ⟨_, rfl⟩
   rw [hpve] at hpv hor hone
   have Hone := hd hone
   have Hpve := hd hpve
   have Hacce := hd hacce
   have hq0' : (0 : Int) ≤ (q : Int) := by omega
   have hq8' : (q : Int) < 8 := by omega
   clear hpve hone hacce
   simp only [Exit.then]
   gi_wp2_with fail
   refine wpIn_tail 12 (by kernel_rfl) (by kernel_rfl) (fun a w h => h) ?_
   simp only [List.take_succ_cons, List.take_zero, List.drop_succ_cons, List.drop_zero]
   still_step
   still_step
   still_step
   still_step
   still_step
   still_step
   still_step
   still_call Hone.out
   repeat still_step
   refine wpStill_nil ?_
   go_wp2
   gi_wp2
   have hWs := HsW.out
   have hF : Fr (fun k => k = C) A3 (A3.setCell ⟨C, 10 + q, none⟩ (.int .u8 ((acc ||| pv : Nat) : Int))).drew := ((Fr.refl (fun k => k = C) A3).setCell ⟨C, 10 + q, none⟩ _ (.inl rfl)).drew
   have hCC : ∀ k, k = C → ∃ o, A3.heap[k]? = some o ∧ loopy o = false := fun k hk => HC3.out.loopy k (.inl hk)
   have hCl := HC.out.lt (.inl rfl)
   refine ⟨Hkp.out.trans (hF.keepsM hCC), ?_⟩
   show CutI ..
   rw [Hst2.out]
   refine ⟨HFw.out.trans hF (fun k h => .inl (.inl h)), Hbx3.out.fr hF (fun k h1 h2 e => by omega), HN3.out.fr hF (by omega), HV3.out.fr hF (by have := HsU.out; omega), ⟨nv2, ?_, hnk2, hnN2⟩⟩
   have em : r.1.mark q v r.2 = ⟨r.1.ns, r.1.sp.set q (acc ||| pv), r.1.mv, r.1.c⟩ := by rw [CS.mark, if_neg Hr0.out, Hacce.out, Hpve.out]
   rw [em]
   obtain ⟨ff, hmm, hff⟩ := HC3.out.mov
   have hne1 : Mv ≠ C := fun e => by subst e; exact hmm.ne HC3.out.blk rfl
   refine ⟨?_, HC3.out.bld.fr hF (fun e => ?_) (fun e => ?_) (fun k hk e => ?_), ⟨ff, hmm.fr hF hne1, hff⟩, HC3.out.ne⟩
   ·have h5 := HC3.out.blk.set (10 + q) (.int .u8 ((acc ||| pv : Nat) : Int))
    rw [cutCells_set _ _ _ _ _ _ _ h8 hs8r hq8] at h5
    exact h5.drew
   ·subst e
    have := (HC3.out.bld.blk.inj HC3.out.blk).2
    revert this
    decide
   ·subst e
    obtain ⟨f2, hm2, _⟩ := HC3.out.bld.map
    exact hm2.ne HC3.out.blk rfl
   ·subst e
    exact HC3.out.bld.other HC3.out.blk (by decide) (by decide) (.inr (.inr hk))
 case done =>
  rintro D A hD hI hK
  rw [Hfin.out] at hI
  have hvl := vals_len hsx
  have hm6 : (vals sx).length * cnt m ≤ 6 * cnt m := Nat.mul_le_mul_right _ hvl
  have ecnt : cnt (m + 1) = 6 * cnt m + 1 := rfl
  obtain ⟨hcs, hs6, hsx6⟩ := cutFold os q (cutTo os vars dn m (i + 1)) old (cnt m) B s Hs.out (fun v s' B' hv hB' hs' => cutTo_ok os vars dn hd64 m (i + 1) (nodeAt os old v) s' B' (by omega) (Hlev.out.2 v hv) hs') (vals sx) (fun x hx => vals_lt6 hsx hx) fin Hfin.out
  have hok : NodeOk fin.2 := ⟨hs6, fun x hx => by have := hsx6 x hx; omega⟩
  obtain ⟨n0, n1, n2, n3, n4, n5, hf6⟩ := list6 hs6
  obtain ⟨nvk, hCk, hnk, hnN⟩ := hI.cut
  have hnv6 : nodeV fin.2 = .agg #[.int .i64 (n0 : Int), .int .i64 (n1 : Int), .int .i64 (n2 : Int), .int .i64 (n3 : Int), .int .i64 (n4 : Int), .int .i64 (n5 : Int)] := by rw [hf6]; rfl
  have hnum := numberTo_len fin.1.ns hcs.two fin.2
  have hWs := HsW.out
  have hCl := HC.out.lt (.inl rfl)
  have hbl := HC.out.lt (.inr (.inr (.inl rfl)))
  have hDle : w.heap.size ≤ D := by
   have : Z.heap.size ≤ D := hD
   omega
  have hK0 : CBox A.drew w.heap.size C old i ∧ A.drew.cell? ⟨C, 18, none⟩ = some (.map (some Mv)) ∧ A.drew.cell? ⟨C, 0, none⟩ = some (.pointer (some ⟨b, 0, none⟩)) ∧ Blk A.drew W.heap.size (nodeC fin.2).toArray 151 := ⟨⟨hI.bx.b0, hI.bx.b1, hI.bx.b2⟩, (hCk.blk.cell 18).trans (cutCells_mv _ _ _ _ _ h8 hcs.sp), hCk.blk.cell 0, hI.bN⟩
  have HI := hd hI
  have HCk := hd hCk
  have Hf6 := hd hf6
  have Hnv6 := hd hnv6
  have hNnP : ¬ FP b M nvk W.heap.size := by
   rintro (h | h | h)
   ·omega
   ·omega
   ·exact hnN h
  have hCP : ¬ FP b M nvk C := hCk.bld.other hCk.blk (by decide) (by decide)
  have hbxP : ∀ k, w.heap.size ≤ k → k ≤ w.heap.size + 2 → ¬ FP b M nvk k := fun k h1 h2 => by
   have hk : k = w.heap.size ∨ k = w.heap.size + 1 ∨ k = w.heap.size + 1 + 1 := by omega
   rcases hk with rfl | rfl | rfl
   ·exact hCk.bld.other hI.bx.b0 (by decide) (by decide)
   ·exact hCk.bld.other hI.bx.b1 (by decide) (by decide)
   ·exact hCk.bld.other hI.bx.b2 (by decide) (by decide)
  clear hI hCk hf6 hnv6 aC aV aD HI0 hWs
  gi_upto_region 13 with fail
  refine wpIn_wide.2 ?_
  refine wp_region_noPanic ?_
  refine wp_region_held (S := fun w'' => CBox w'' w.heap.size C old i ∧ w''.cell? ⟨C, 18, none⟩ = some (.map (some Mv)) ∧ w''.cell? ⟨C, 0, none⟩ = some (.pointer (some ⟨b, 0, none⟩)) ∧ Blk w'' W.heap.size (nodeC fin.2).toArray 151) (by kernel_rfl) ?_
  refine wpAnyH_take (i := 0) (v := .pointer (some ⟨C, 0, none⟩)) rfl (by kernel_rfl) (by kernel_rfl) (by kernel_rfl) (fun _ _ _ h => h) (.inl ⟨by kernel_rfl, fun w'' hS => ?_⟩) hK0 ?_
  ·have q0 : w''.cell? ⟨w.heap.size, 0, none⟩ = some (.pointer (some ⟨C, 0, none⟩)) := hS.1.b0.cell 0
   clear hK0 hS hv hd64 hcnt hmf hlt hv0 hv8 hvI hfU hbF hnk hnN hcs hs6 hsx6 hok hnum hK hD
   simp only [List.getElem_toArray, List.getElem_cons_zero]
   go_simp
  refine wpAnyH_take (i := 1) (v := .pointer (some ⟨C, 0, none⟩)) rfl (by kernel_rfl) (by kernel_rfl) (by kernel_rfl) (fun _ _ _ h => h) (.inl ⟨by kernel_rfl, fun w'' hS => by kernel_rfl⟩) hK0 ?_
  refine wpAnyH_take (i := 2) (v := .pointer (some ⟨C, 18, none⟩)) rfl (by kernel_rfl) (by kernel_rfl) (by kernel_rfl) (fun _ _ _ h => h) (.inl ⟨by kernel_rfl, fun w'' hS => by kernel_rfl⟩) hK0 ?_
  refine wpAnyH_take (i := 3) (v := .map (some Mv)) rfl (by kernel_rfl) (by kernel_rfl) (by kernel_rfl) (fun _ _ _ h => h) (.inl ⟨by kernel_rfl, fun w'' hS => ?_⟩) hK0 ?_
  ·have q0 := hS.2.1
   clear hK0 hS hv hd64 hcnt hmf hlt hv0 hv8 hvI hfU hbF hnk hnN hcs hs6 hsx6 hok hnum hK hD
   simp only [Act.put, List.setIfInBounds_toArray, List.set_cons_zero, List.set_cons_succ, List.getElem_toArray, List.getElem_cons_zero, List.getElem_cons_succ]
   go_simp
  refine wpAnyH_take (i := 4) (v := .int .i64 (old : Int)) rfl (by kernel_rfl) (by kernel_rfl) (by kernel_rfl) (fun _ _ _ h => h) (.inl ⟨by kernel_rfl, fun w'' hS => ?_⟩) hK0 ?_
  ·have q0 : w''.cell? ⟨w.heap.size + 1, 0, none⟩ = some (.int .i64 (old : Int)) := hS.1.b1.cell 0
   clear hK0 hS hv hd64 hcnt hmf hlt hv0 hv8 hvI hfU hbF hnk hnN hcs hs6 hsx6 hok hnum hK hD
   simp only [Act.put, List.setIfInBounds_toArray, List.set_cons_zero, List.set_cons_succ, List.getElem_toArray, List.getElem_cons_zero, List.getElem_cons_succ]
   go_simp
  refine wpAnyH_take (i := 5) (v := .pointer (some ⟨C, 0, none⟩)) rfl (by kernel_rfl) (by kernel_rfl) (by kernel_rfl) (fun _ _ _ h => h) (.inl ⟨by kernel_rfl, fun w'' hS => ?_⟩) hK0 ?_
  ·have q0 : w''.cell? ⟨w.heap.size, 0, none⟩ = some (.pointer (some ⟨C, 0, none⟩)) := hS.1.b0.cell 0
   clear hK0 hS hv hd64 hcnt hmf hlt hv0 hv8 hvI hfU hbF hnk hnN hcs hs6 hsx6 hok hnum hK hD
   simp only [Act.put, List.setIfInBounds_toArray, List.set_cons_zero, List.set_cons_succ, List.getElem_toArray, List.getElem_cons_zero, List.getElem_cons_succ]
   go_simp
  refine wpAnyH_take (i := 6) (v := .pointer (some ⟨C, 0, none⟩)) rfl (by kernel_rfl) (by kernel_rfl) (by kernel_rfl) (fun _ _ _ h => h) (.inl ⟨by kernel_rfl, fun w'' hS => by kernel_rfl⟩) hK0 ?_
  refine wpAnyH_take (i := 7) (v := .pointer (some ⟨C, 0, none⟩)) rfl (by kernel_rfl) (by kernel_rfl) (by kernel_rfl) (fun _ _ _ h => h) (.inl ⟨by kernel_rfl, fun w'' hS => by kernel_rfl⟩) hK0 ?_
  refine wpAnyH_take (i := 8) (v := .pointer (some ⟨b, 0, none⟩)) rfl (by kernel_rfl) (by kernel_rfl) (by kernel_rfl) (fun _ _ _ h => h) (.inl ⟨by kernel_rfl, fun w'' hS => ?_⟩) hK0 ?_
  ·have q0 := hS.2.2.1
   clear hK0 hS hv hd64 hcnt hmf hlt hv0 hv8 hvI hfU hbF hnk hnN hcs hs6 hsx6 hok hnum hK hD
   simp only [Act.put, List.setIfInBounds_toArray, List.set_cons_zero, List.set_cons_succ, List.getElem_toArray, List.getElem_cons_zero, List.getElem_cons_succ]
   go_simp
  refine wpAnyH_take (i := 9) (v := .agg #[.int .i64 (n0 : Int), .int .i64 (n1 : Int), .int .i64 (n2 : Int), .int .i64 (n3 : Int), .int .i64 (n4 : Int), .int .i64 (n5 : Int)]) rfl (by kernel_rfl) (by kernel_rfl) (by kernel_rfl) (fun _ _ _ h => h) (.inl ⟨by kernel_rfl, fun w'' hS => ?_⟩) hK0 ?_
  ·have q0 : w''.cell? ⟨W.heap.size, 0, none⟩ = some (.int .i64 (n0 : Int)) := by rw [hS.2.2.2.cell, Hf6.out]; rfl
   have q1 : w''.cell? ⟨W.heap.size, 1, none⟩ = some (.int .i64 (n1 : Int)) := by rw [hS.2.2.2.cell, Hf6.out]; rfl
   have q2 : w''.cell? ⟨W.heap.size, 2, none⟩ = some (.int .i64 (n2 : Int)) := by rw [hS.2.2.2.cell, Hf6.out]; rfl
   have q3 : w''.cell? ⟨W.heap.size, 3, none⟩ = some (.int .i64 (n3 : Int)) := by rw [hS.2.2.2.cell, Hf6.out]; rfl
   have q4 : w''.cell? ⟨W.heap.size, 4, none⟩ = some (.int .i64 (n4 : Int)) := by rw [hS.2.2.2.cell, Hf6.out]; rfl
   have q5 : w''.cell? ⟨W.heap.size, 5, none⟩ = some (.int .i64 (n5 : Int)) := by rw [hS.2.2.2.cell, Hf6.out]; rfl
   clear hK0 hS hv hd64 hcnt hmf hlt hv0 hv8 hvI hfU hbF hnk hnN hcs hs6 hsx6 hok hnum hK hD
   simp only [Act.put, List.setIfInBounds_toArray, List.set_cons_zero, List.set_cons_succ, List.getElem_toArray, List.getElem_cons_zero, List.getElem_cons_succ]
   go_simp
  refine wpAnyH_all (rs := [10]) (by kernel_rfl) (by simp) (fun j hj => ?_)
  obtain rfl : j = 10 := by simpa using hj
  refine op_enter (f := 87) (args := #[.pointer (some ⟨b, 0, none⟩), .agg #[.int .i64 (n0 : Int), .int .i64 (n1 : Int), .int .i64 (n2 : Int), .int .i64 (n3 : Int), .int .i64 (n4 : Int), .int .i64 (n5 : Int)]]) (w' := A.drew) rfl (by kernel_rfl) (by kernel_rfl) ?_
  rw [← Hnv6.out]
  refine (number_any b M nvk fin.1.ns fin.2 A.drew HCk.out.bld.drew hok (by have := hcs.ns; omega)).mono ?_
  rintro e A1 ⟨rfl, nv2, hB1, hf1, hn1⟩
  have hf1' : Fr (FP b M nvk) A A1 := Fr.of_drew hf1
  have hn1' : ∀ k, nv2.ownBlock = some k → nvk.ownBlock = some k ∨ A.heap.size ≤ k := hn1
  obtain ⟨ff, hmm, hff⟩ := HCk.out.mov
  have hMvP : ¬ FP b M nvk Mv := by
   rintro (h | h | h)
   ·exact hmm.ne HCk.out.bld.blk h.symm
   ·exact HCk.out.ne h
   ·rcases HCk.out.bld.row.2 with ⟨h', _⟩ | ⟨g', cap', cur', h', _, hg', _⟩
    ·rw [h'] at h; cases h
    ·rw [h'] at h
     cases h
     exact hmm.ne (show Blk A g' cur' 151 from hg') rfl
  have hmm1 := hmm.fr hf1' hMvP
  have hblk1 := HCk.out.blk.fr hf1' hCP
  have hN1 := HI.out.bN.fr hf1' hNnP
  have hbx1 := HI.out.bx.fr hf1' hbxP
  have hS1 : CBox A1 w.heap.size C old i ∧ A1.cell? ⟨C, 18, none⟩ = some (.map (some Mv)) ∧ A1.cell? ⟨C, 0, none⟩ = some (.pointer (some ⟨b, 0, none⟩)) ∧ Blk A1 W.heap.size (nodeC fin.2).toArray 151 := ⟨hbx1, (hblk1.cell 18).trans (cutCells_mv _ _ _ _ _ h8 hcs.sp), hblk1.cell 0, hN1⟩
  refine ⟨_, rfl, hS1, ?_⟩
  refine wpAnyH_all (rs := [11]) (by kernel_rfl) (by simp) (fun j hj => ?_)
  obtain rfl : j = 11 := by simpa using hj
  obtain ⟨A2, hst, hm2, hf2⟩ := NumMap.store (w := A1) (t := 183) hmm1 intKeyed Tryz.underlying183 (by have := hcs.c; unfold maxLen; omega) (int_key old ho32) (numberTo fin.1.ns fin.2).2 (by have := hcs.ns; omega)
  have hMvl' : Mv < w.heap.size := hMvl
  have hMC : C ≠ Mv := hmm1.ne hblk1
  have hblk2 := hblk1.fr hf2 hMC
  have hbx2 := hbx1.fr hf2 (fun k h1 h2 e => by omega)
  have hN2 := hN1.fr hf2 (by have := HsW.out; omega)
  have hS2 : CBox A2 w.heap.size C old i ∧ A2.cell? ⟨C, 18, none⟩ = some (.map (some Mv)) ∧ A2.cell? ⟨C, 0, none⟩ = some (.pointer (some ⟨b, 0, none⟩)) ∧ Blk A2 W.heap.size (nodeC fin.2).toArray 151 := ⟨hbx2, (hblk2.cell 18).trans (cutCells_mv _ _ _ _ _ h8 hcs.sp), hblk2.cell 0, hN2⟩
  refine op_skip (w' := A2) rfl (by kernel_rfl) ?_ ⟨hS2, wpAnyH_done (by kernel_rfl) (NoPanic.normal ?_) _⟩
  ·simp only [Act.put, List.setIfInBounds_toArray, List.set_cons_zero, List.set_cons_succ, List.getElem_toArray, List.getElem_cons_zero, List.getElem_cons_succ]
   exact exec_mapUpdate (.tmp 85) (.tmp 86) (.tmp 92) 183 rfl hst
  simp only [Act.put, List.setIfInBounds_toArray, List.set_cons_zero, List.set_cons_succ, List.getElem_toArray, List.getElem_cons_zero, List.getElem_cons_succ]
  have hB2' : Bld A2 b M nv2 (numberTo fin.1.ns fin.2).1 := hB1.fr hf2 (fun e => hmm1.ne hB1.blk e) (fun e => HCk.out.ne e.symm) (fun k hk e => by
   subst e
   rcases hB1.row.2 with ⟨h', _⟩ | ⟨g', cap', cur', h', _, hg', _⟩
   ·rw [h'] at hk; cases hk
   ·rw [h'] at hk
    cases hk
    exact hmm1.ne (show Blk A1 g' cur' 151 from hg') rfl)
  have hC2 : CutAt A2 C b M Mv G nv2 dn (fin.1.put fin.2 old).1 := by
   refine ⟨hblk2, hB2', ⟨_, hm2, fun k hk => ?_⟩, HCk.out.ne⟩
   show _ = if k = old then some (numberTo fin.1.ns fin.2).2 else fin.1.mv k
   by_cases hko : k = old
   ·subst hko
    rw [if_pos rfl, if_pos rfl]
   ·rw [if_neg hko, if_neg (fun e => hko (by injection e with _ e; omega))]
    exact hff k hk
  have hFw2 : Fr (FC C b M Mv nv) w A2 := by
   refine ((HI.out.fr.trans hf1' (fun k h => ?_)).trans hf2 (fun k h => .inl (.inr (.inl h))))
   rcases h with h | h | h
   ·exact .inl (.inr (.inr (.inl h)))
   ·exact .inl (.inr (.inr (.inr (.inl h))))
   ·rcases hnk k h with h1 | h1
    ·exact .inl (.inr (.inr (.inr (.inr h1))))
    ·exact .inr h1
  have hAs : w.heap.size ≤ A.heap.size := HI.out.fr.size
  have hnk2 : ∀ k, nv2.ownBlock = some k → nv.ownBlock = some k ∨ w.heap.size ≤ k := fun k hk => by
   rcases hn1' k hk with h | h
   ·exact hnk k h
   ·exact .inr (by omega)
  have hK1 := (Fr.keepsM hf1' HCk.out.bld.loopy).same D _ hK rfl
  have hK2 := (Fr.keepsM hf2 (fun k hk => by subst hk; exact hmm1.map)).same D _ hK1 rfl
  have hl2 : (Instr.lookup 183 (.map (some Mv)) (.int .i64 (old : Int)) false).run Tryz.prog A2.drew = .ok (.int .i64 ((numberTo fin.1.ns fin.2).2 : Nat)) A2.drew := by
   have := NumMap.look (w := A2.drew) (t := 183) hm2 intKeyed Tryz.underlying183 (int_key old ho32)
   rw [if_pos rfl, Option.getD_some] at this
   exact this
  have d0 : A2.cell? ⟨w.heap.size, 0, none⟩ = some (.pointer (some ⟨C, 0, none⟩)) := hbx2.b0.cell 0
  have d1 : A2.cell? ⟨w.heap.size + 1, 0, none⟩ = some (.int .i64 (old : Int)) := hbx2.b1.cell 0
  have d2 : A2.cell? ⟨C, 18, none⟩ = some (.map (some Mv)) := hS2.2.1
  have HC2 := hd hC2
  have HFw2 := hd hFw2
  have HK2 := hd hK2
  have Hnk2 := hd hnk2
  have hput : (fin.1.put fin.2 old).2 = (numberTo fin.1.ns fin.2).2 := rfl
  obtain ⟨num, hnm⟩ : ∃ num, (numberTo fin.1.ns fin.2).2 = num := ⟨_, rfl⟩
  have Hnm := hd hnm
  rw [hnm] at hl2 hput
  have Hput := hd hput
  clear hC2 hFw2 hK2 hK1 hnk2 hS2 hS1 hB2' hN2 hbx2 hblk2 hm2 hst hf2 hN1 hbx1 hblk1 hmm1 hmm hff hf1 hf1' hB1 hn1 hn1' hK0 hK hnum hok hcs hs6 hsx6 hnk hnN hbxP hCP hNnP hMvP hnm hput Hih Hlev Hoc
  simp only [Exit.then]
  gi_upto_region 14 with fail
  refine wpIn_wide.2 ?_
  go_still (by kernel_rfl)
  go_wp2
  gi_wp2
  have hKd : A2.drew.heap[D]? = some (.deferred (some [])) := HK2.out
  refine ⟨by simp, .inl ⟨_, _, rfl, run_takeDeferred hKd, ?_⟩⟩
  exact ⟨_, results_tmp rfl _ _ _, by rw [Hput.out]; rfl, nv2, HC2.out.drew.bk (Bk.put (.deferred none) hDle hKd rfl) hMl hMvl, HFw2.out.drew.bk (Bk.put (.deferred none) hDle hKd rfl) (Nat.le_refl _), Hnk2.out⟩

theorem cut_any (C b M Mv G g cap : Nat) (onv : Value) (vars : List Int) (os : List (List Nat)) (root : Nat) (dn : List Nat) (h8 : dn.length = 8) (h4 : vars.length ≤ 4) (hv : ∀ i, i < vars.length → 0 ≤ vars.getD i 0 ∧ vars.getD i 0 < 8)
  (hd64 : ∀ q, dn.getD q 0 < 64) (hol : os.length ≤ 100000) : ∀ m i, i + m = vars.length → CutOk C b M Mv G g cap onv vars os root dn m i
 | 0, i, _, old, s, nv, B, w, _, _, _, hlev, hC, _, _ => by
  refine (cut_small C old i w hlev).mono ?_
  rintro e w' ⟨rfl, hf⟩
  exact ⟨rfl, nv, hC.nw hf, hf.mono (fun i h => h.elim), fun k hk => .inl hk⟩
 | m + 1, i, hm, old, s, nv, B, w, hB2, hcnt, hs, hlev, hC, hD, hdis => by
  by_cases ho : old < 2
  ·refine (cut_small C old i w ho).mono ?_
   rintro e w' ⟨rfl, hf⟩
   rw [cutTo, if_pos ho]
   exact ⟨rfl, nv, hC.nw hf, hf.mono (fun i h => h.elim), fun k hk => .inl hk⟩
  ·have hlev' : old < os.length ∧ ∀ v, v < 6 → levOk os m (nodeAt os old v) := by
    rcases hlev with h1 | h1
    ·exact absurd (by omega) ho
    ·exact h1.2
   cases hmv : s.mv old with
   | some k =>
    refine (cut_known C b M Mv G nv dn s old i k w h8 hC hs.sp ho (by omega) hmv).mono ?_
    rintro e w' ⟨rfl, hf⟩
    rw [cutTo, if_neg ho, hmv]
    exact ⟨rfl, nv, hC.nw hf, hf.mono (fun i h => h.elim), fun k hk => .inl hk⟩
   | none => exact cut_go C b M Mv G g cap onv vars os root dn m i h8 h4 hv hd64 hol (by omega) (cut_any C b M Mv G g cap onv vars os root dn h8 h4 hv hd64 hol m (i + 1) (by omega)) old s nv B w hB2 hcnt hs ho hmv hlev' hC hD hdis
end Go.Proofs.YtkjfpdfkcfgfkaaGreat

namespace Go.Proofs.YtkjfpdfkcfgfkaaGreat
open Go.RowKit Go.Maps

theorem exec_store {P : Program} {ev : Operand → Value} {op : Oper} {w : World} (ty : TypeId) (x y : Operand) (ho : op.op = .store ty x y) (b o : Nat) (cells : Array Value) (hx : ev x = .pointer (some ⟨b, o, none⟩)) (hy : ev y = .agg cells)
  (ht : w.there b o cells.size) (hi : (P.info? ty).map (·.size) = some cells.size) (h1 : cells.all (·.oneCell') = true) : (execOp ev op).run P w = .ok .skip (w.setCells b o cells.toList) := by
 unfold execOp
 simp only [ho, hx, hy, Instr.storeAt, Instr.sureAddr, Sem.run_bind, Sem.run_pure, Result.andThen_ok, run_storeVar_mid w b o ty cells ht hi h1]
theorem Fr.setCells {S : Nat → Prop} {a : World} (C : Nat) (hC : S C ∨ a.heap.size ≤ C) : ∀ (vs : List Value) (o : Nat) (b : World), Fr S a b → Fr S a (b.setCells C o vs)
 | [], _, _, h => h
 | v :: r, o, _, h => Fr.setCells C hC r (o + 1) _ (h.setCell ⟨C, o, none⟩ v hC)
def setFrom : Array Value → Nat → List Value → Array Value
 | cur, _, [] => cur
 | cur, o, v :: r => setFrom (cur.setIfInBounds o v) (o + 1) r
theorem Blk.setCells {C : Nat} {e : TypeId} : ∀ (vs : List Value) (o : Nat) (w : World) (cur : Array Value), Blk w C cur e → Blk (w.setCells C o vs) C (setFrom cur o vs) e
 | [], _, _, _, h => h
 | v :: r, o, _, _, h => Blk.setCells r (o + 1) _ _ (h.set o v)
theorem setFrom_list : ∀ (vs : List Value) (cur : Array Value) (o : Nat), o + vs.length ≤ cur.size → (setFrom cur o vs).toList = cur.toList.take o ++ (vs ++ cur.toList.drop (o + vs.length))
 | [], cur, o, _ => by simp [setFrom]
 | v :: r, cur, o, h => by
  simp only [List.length_cons] at h
  rw [setFrom, setFrom_list r (cur.setIfInBounds o v) (o + 1) (by simp; omega)]
  have h1 : (cur.setIfInBounds o v).toList = cur.toList.set o v := by simp
  rw [h1, List.take_succ_eq_append_getElem (by simp; omega)]
  simp only [List.getElem_set_self, List.length_cons, List.append_assoc, List.cons_append, List.nil_append]
  rw [List.take_set_of_le (Nat.le_refl _), List.drop_set_of_lt (by omega), show o + 1 + r.length = o + (r.length + 1) by omega]
theorem Blk.fill {w : World} {C : Nat} {e : TypeId} {cur : Array Value} (h : Blk w C cur e) (vs : List Value) (hl : cur.size = vs.length) : Blk (w.setCells C 0 vs) C vs.toArray e := by
 have h1 := Blk.setCells vs 0 w cur h
 have h2 : setFrom cur 0 vs = vs.toArray := by
  apply Array.ext'
  rw [setFrom_list vs cur 0 (by omega)]
  simp [hl]
 rw [h2] at h1
 exact h1
theorem Blk.there {w : World} {C : Nat} {e : TypeId} {cur : Array Value} (h : Blk w C cur e) : w.there C 0 cur.size := fun j hj => by
 rw [Nat.zero_add]
 exact ⟨by rw [h.cell]; simp [hj], h.free j⟩
theorem cutCells_one (b G : Nat) (dn sp : List Nat) (Mv : Nat) : (cutCells b G dn sp Mv).all (·.oneCell') = true := all_oneCell_toArray (fun v hv => by
 simp only [List.mem_cons, List.mem_append, List.mem_map, List.not_mem_nil, or_false] at hv
 rcases hv with rfl | rfl | ⟨_, _, rfl⟩ | ⟨_, _, rfl⟩ | rfl <;> rfl)
theorem Blk.put8' {b : World} {g : Nat} {e : TypeId} {n : List Nat} {v0 v1 v2 v3 v4 v5 v6 v7 : Value} (h : Blk b g (domV zero8) e) (hn : domV n = #[v0, v1, v2, v3, v4, v5, v6, v7]) :
  Blk ((((((((b.setCell ⟨g, 0, none⟩ v0).setCell ⟨g, 1, none⟩ v1).setCell ⟨g, 2, none⟩ v2).setCell ⟨g, 3, none⟩ v3).setCell ⟨g, 4, none⟩ v4).setCell ⟨g, 5, none⟩ v5).setCell ⟨g, 6, none⟩ v6).setCell ⟨g, 7, none⟩ v7) g (domV n) e := by
 have h1 := Blk.set8 (cur := #[Value.int .u8 0, Value.int .u8 0, Value.int .u8 0, Value.int .u8 0, Value.int .u8 0, Value.int .u8 0, Value.int .u8 0, Value.int .u8 0]) h 0 1 2 3 4 5 6 7 v0 v1 v2 v3 v4 v5 v6 v7
 rw [arr8] at h1
 rw [hn]
 exact h1
def zero19 : Array Value := #[.pointer none, .pointer none, .int .u8 0, .int .u8 0, .int .u8 0, .int .u8 0, .int .u8 0, .int .u8 0, .int .u8 0, .int .u8 0, .int .u8 0, .int .u8 0, .int .u8 0, .int .u8 0, .int .u8 0, .int .u8 0, .int .u8 0, .int .u8 0, .map none]

def s0 : CS := ⟨[zero6, zero6], zero8, fun _ => none, 0⟩
def dCut (os : List (List Nat)) (root : Nat) (vars : List Int) (dn : List Nat) : CS × Nat := cutTo os vars dn vars.length 0 root s0
def dDom (os : List (List Nat)) (root : Nat) (vars : List Int) (dn : List Nat) : List Nat := replTo vars dn (dCut os root vars dn).1.sp vars.length

set_option maxHeartbeats 6400000 in
set_option maxRecDepth 1000000 in
theorem dNarrow_any (G g cap : Nat) (onv : Value) (vars : List Int) (os : List (List Nat)) (root : Nat) (dn : List Nat) (w : World) (hD : DAt w G g cap onv vars os root) (h8 : dn.length = 8) (h4 : vars.length ≤ 4) (hv : ∀ i, i < vars.length → 0 ≤ vars.getD i 0 ∧ vars.getD i 0 < 8)
  (hd64 : ∀ q, dn.getD q 0 < 64) (hol : os.length ≤ 100000) (hlev : levOk os vars.length root) :
  Calls Tryz.prog 118 #[.pointer (some ⟨G, 0, none⟩), .agg (domV dn)] w fun e w' => e = .returned (.agg (domV (dDom os root vars dn))) ∧ Fr (fun k => k = G) w w' ∧
   ∃ nv', DAt w' G g cap nv' vars (dCut os root vars dn).1.ns (dCut os root vars dn).2 ∧ (∀ k, nv'.ownBlock = some k → w.heap.size ≤ k) := by
 obtain ⟨v0, v1, v2, v3, v4, v5, v6, v7, hdv⟩ := domV8 h8
 obtain ⟨⟨x0, rfl⟩, ⟨x1, rfl⟩, ⟨x2, rfl⟩, ⟨x3, rfl⟩, ⟨x4, rfl⟩, ⟨x5, rfl⟩, ⟨x6, rfl⟩, ⟨x7, rfl⟩⟩ := domV_one dn hdv
 have hGlt := hD.blk.lt
 obtain ⟨W, hW⟩ : ∃ W, W = (w.alloc (.cells (domV dn) 60)).alloc (.cells (domV zero8) 60) := ⟨_, rfl⟩
 have hfW : Nw w W := by rw [hW]; exact ((Fr.refl _ w).alloc _).alloc _
 have hbD : Blk W w.heap.size (domV dn) 60 := by rw [hW]; exact (Blk.new _ _ _).alloc _
 have hbR : Blk W (w.heap.size + 1) (domV zero8) 60 := by
  rw [hW]
  have := Blk.new (w.alloc (.cells (domV dn) 60)) (domV zero8) 60
  rw [alsz] at this
  exact this
 have hsW : W.heap.size = w.heap.size + 2 := by rw [hW]; simp
 have HW := hd hW
 have HbD := hd hbD
 have HbR := hd hbR
 have HsW := hd hsW
 have Hdv := hd hdv
 have HD := hd hD
 clear hW hbD hbR hsW hdv hD
 go_enter Tryz.func118, Tryz.ntmps118
 go_upto_region 1 with fail
 rw [show (w.alloc (Obj.cells (domV dn) 60)).alloc (Obj.cells #[Value.int .u8 0, .int .u8 0, .int .u8 0, .int .u8 0, .int .u8 0, .int .u8 0, .int .u8 0, .int .u8 0] 60) = W from HW.out.symm]
 clear HW
 go_cut [5] (fun p wx => ∃ C b M Mv nv, p = .pointer (some ⟨C, 0, none⟩) ∧ Hid (CutAt wx C b M Mv G nv dn s0) ∧ Nw W wx ∧ ∀ k, FC C b M Mv nv k → W.heap.size ≤ k)
 case first =>
  have hK0 : Blk W.drew w.heap.size (domV dn) 60 := HbD.out.drew
  refine wp_region_held (S := fun w'' => Blk w'' w.heap.size (domV dn) 60) (by kernel_rfl) ?_
  refine wpAnyH_take (i := 1) (v := .pointer (some ⟨G, 0, none⟩)) rfl (by kernel_rfl) (by kernel_rfl) (by kernel_rfl) (fun _ _ _ h => h) (.inl ⟨by kernel_rfl, fun w'' hS => by kernel_rfl⟩) hK0 ?_
  refine wpAnyH_take (i := 2) (v := .agg (domV dn)) rfl (by kernel_rfl) (by kernel_rfl) (by kernel_rfl) (fun _ _ _ h => h) (.inl ⟨by kernel_rfl, fun w'' hS => ?_⟩) hK0 ?_
  ·obtain ⟨q0, q1, q2, q3, q4, q5, q6, q7⟩ := cells8 (Hdv.out ▸ hS)
   clear hS hK0 hv hd64
   rw [Hdv.out]
   simp only [Act.put, List.setIfInBounds_toArray, List.set_cons_zero, List.set_cons_succ, List.getElem_toArray, List.getElem_cons_zero, List.getElem_cons_succ]
   go_simp
  have hX0 : Nw W W.drew := (Fr.refl _ W).drew
  have hTl : w.heap.size < W.heap.size := HbD.out.lt
  have hfinal : ∀ (X : World) (b M Mv C : Nat) (nv1 : Value), Nw W X → Bld X b M nv1 [zero6, zero6] → NumMap X 3 Mv 0 (fun _ => none) → Mv ≠ M → Blk X C zero19 185 → W.heap.size ≤ C → W.heap.size ≤ b → W.heap.size ≤ M → W.heap.size ≤ Mv → (∀ k, nv1.ownBlock = some k → W.heap.size ≤ k) →
    CutAt (X.setCells C 0 (cutCells b G dn zero8 Mv).toList) C b M Mv G nv1 dn s0 ∧ Nw W (X.setCells C 0 (cutCells b G dn zero8 Mv).toList) ∧ (∀ k, FC C b M Mv nv1 k → W.heap.size ≤ k) ∧ Blk (X.setCells C 0 (cutCells b G dn zero8 Mv).toList) w.heap.size (domV dn) 60 := fun X b M Mv C nv1 hX hB hm hne hC hCl hbl hMl hMvl hnl => by
   have hf := Fr.setCells (S := fun k => k = C) (a := X) C (.inl rfl) (cutCells b G dn zero8 Mv).toList 0 X (Fr.refl _ X)
   have hfill := hC.fill (cutCells b G dn zero8 Mv).toList (by simp [zero19, cutCells, h8, zero8])
   refine ⟨⟨by show Blk _ C (cutCells b G dn zero8 Mv) _; simpa using hfill, hB.fr hf (fun e => ?_) (fun e => ?_) (fun k hk e => ?_), ⟨_, hm.fr hf (fun e => hm.ne hC e.symm), fun _ _ => rfl⟩, hne⟩, Fr.setCells C (.inr hCl) _ 0 X hX, ?_, (HbD.out.nw hX).fr hf (by omega)⟩
   ·exact hB.other hC (by decide) (by decide) (.inl e.symm)
   ·exact hB.other hC (by decide) (by decide) (.inr (.inl e.symm))
   ·exact hB.other hC (by decide) (by decide) (.inr (.inr (by rw [← e]; exact hk)))
   ·rintro k (rfl | rfl | rfl | rfl | h)
    ·exact hCl
    ·exact hMvl
    ·exact hbl
    ·exact hMl
    ·exact hnl k h
  refine wpAnyH_all (rs := [0, 3, 5]) (by kernel_rfl) (by simp) (fun j hj => ?_)
  have hj' : j = 0 ∨ j = 3 ∨ j = 5 := by simpa using hj
  rcases hj' with rfl | rfl | rfl
  ·refine op_enter (f := 66) (args := #[]) (w' := W.drew) rfl (by kernel_rfl) (by kernel_rfl) ?_
   refine (newBuilder_any W.drew).mono ?_
   rintro e X1 ⟨b, M, nv1, rfl, hB, hst, hbl, hMl, hnl⟩
   have hw0 : Nw W X1 := hX0.trans hst (fun i h => h.elim)
   have hz0 : W.heap.size ≤ (W.drew).heap.size := hX0.size
   refine ⟨_, rfl, HbD.out.nw hw0, ?_⟩
   refine wpAnyH_all (rs := [3, 5]) (by kernel_rfl) (by simp) (fun j hj => ?_)
   have hj' : j = 3 ∨ j = 5 := by simpa using hj
   rcases hj' with rfl | rfl
   ·obtain ⟨X2, hX2⟩ : ∃ X, X = (X1).alloc (.map #[] 0) := ⟨_, rfl⟩
    have hst : Nw (X1) X2 := by rw [hX2]; exact (Fr.refl _ _).alloc _
    have hm : NumMap X2 3 (X1).heap.size 0 (fun _ => none) := by rw [hX2]; exact NumMap.made _ _
    have hw1 : Nw W X2 := hw0.trans hst (fun i h => h.elim)
    have hz1 : W.heap.size ≤ (X1).heap.size := hw0.size
    have hMlt : M < (X1).heap.size := hB.lt (.inr (.inl rfl))
    have hB := hB.nw hst
    refine op_value (v := .map (some (X1).heap.size)) (w' := X2) rfl (by kernel_rfl) (by rw [hX2]; kernel_rfl) ⟨HbD.out.nw hw1, ?_⟩
    clear hX2
    refine wpAnyH_take (i := 4) (v := .agg (cutCells b G dn zero8 ((X1).heap.size))) rfl (by kernel_rfl) (by kernel_rfl) (by kernel_rfl) (fun _ _ _ h => h) (.inl ⟨by kernel_rfl, fun w'' hS => ?_⟩) (HbD.out.nw hw1) ?_
    ·obtain ⟨e0, e1, e2, e3, e4, e5, e6, e7, hde⟩ := list8 h8
     rw [hde]
     kernel_rfl
    refine wpAnyH_all (rs := [5]) (by kernel_rfl) (by simp) (fun j hj => ?_)
    obtain rfl : j = 5 := by simpa using hj
    obtain ⟨X3, hX3⟩ : ∃ X, X = (X2).alloc (.cells zero19 185) := ⟨_, rfl⟩
    have hst : Nw (X2) X3 := by rw [hX3]; exact (Fr.refl _ _).alloc _
    have hC : Blk X3 (X2).heap.size zero19 185 := by rw [hX3]; exact Blk.new _ _ _
    have hw2 : Nw W X3 := hw1.trans hst (fun i h => h.elim)
    have hz2 : W.heap.size ≤ (X2).heap.size := hw1.size
    have hB := hB.nw hst
    have hm := hm.nw hst
    refine op_value (v := .pointer (some ⟨(X2).heap.size, 0, none⟩)) (w' := X3) rfl (by kernel_rfl) (by rw [hX3]; kernel_rfl) ⟨HbD.out.nw hw2, ?_⟩
    clear hX3
    have hne : (X1).heap.size ≠ M := by
     have h1 : M < (X1).heap.size := hMlt
     omega
    refine wpAnyH_all (rs := [6]) (by kernel_rfl) (by simp) (fun j hj => ?_)
    obtain rfl : j = 6 := by simpa using hj
    obtain ⟨hcut, hnw, hfc, hT⟩ := hfinal X3 b M ((X1).heap.size) ((X2).heap.size) nv1 hw2 hB hm hne hC (by omega) (by omega) (by omega) (by omega) (fun k hk => by have := hnl k hk; omega)
    refine op_skip (w' := (X3).setCells ((X2).heap.size) 0 (cutCells b G dn zero8 ((X1).heap.size)).toList) rfl (by kernel_rfl) ?_ ⟨hT, wpAnyH_done (by kernel_rfl) ?_ _⟩
    ·simp only [Act.put, List.setIfInBounds_toArray, List.set_cons_zero, List.set_cons_succ, List.getElem_toArray, List.getElem_cons_zero, List.getElem_cons_succ]
     exact exec_store 185 (.tmp 5) (.tmp 11) rfl ((X2).heap.size) 0 (cutCells b G dn zero8 ((X1).heap.size)) rfl rfl (by rw [cutCells_size _ _ _ _ _ h8 rfl]; exact hC.there) (by rw [cutCells_size _ _ _ _ _ h8 rfl]; kernel_rfl) (cutCells_one ..)
    simp only [Act.put, List.setIfInBounds_toArray, List.set_cons_zero, List.set_cons_succ, List.getElem_toArray, List.getElem_cons_zero, List.getElem_cons_succ]
    go_wp2_with fail
    go_meet
    case rel => exact ⟨_, b, M, _, nv1, rfl, hcut, hnw, hfc⟩
   ·obtain ⟨X2, hX2⟩ : ∃ X, X = (X1).alloc (.cells zero19 185) := ⟨_, rfl⟩
    have hst : Nw (X1) X2 := by rw [hX2]; exact (Fr.refl _ _).alloc _
    have hC : Blk X2 (X1).heap.size zero19 185 := by rw [hX2]; exact Blk.new _ _ _
    have hw1 : Nw W X2 := hw0.trans hst (fun i h => h.elim)
    have hz1 : W.heap.size ≤ (X1).heap.size := hw0.size
    have hB := hB.nw hst
    refine op_value (v := .pointer (some ⟨(X1).heap.size, 0, none⟩)) (w' := X2) rfl (by kernel_rfl) (by rw [hX2]; kernel_rfl) ⟨HbD.out.nw hw1, ?_⟩
    clear hX2
    refine wpAnyH_all (rs := [3]) (by kernel_rfl) (by simp) (fun j hj => ?_)
    obtain rfl : j = 3 := by simpa using hj
    obtain ⟨X3, hX3⟩ : ∃ X, X = (X2).alloc (.map #[] 0) := ⟨_, rfl⟩
    have hst : Nw (X2) X3 := by rw [hX3]; exact (Fr.refl _ _).alloc _
    have hm : NumMap X3 3 (X2).heap.size 0 (fun _ => none) := by rw [hX3]; exact NumMap.made _ _
    have hw2 : Nw W X3 := hw1.trans hst (fun i h => h.elim)
    have hz2 : W.heap.size ≤ (X2).heap.size := hw1.size
    have hMlt : M < (X2).heap.size := hB.lt (.inr (.inl rfl))
    have hB := hB.nw hst
    have hC := hC.nw hst
    refine op_value (v := .map (some (X2).heap.size)) (w' := X3) rfl (by kernel_rfl) (by rw [hX3]; kernel_rfl) ⟨HbD.out.nw hw2, ?_⟩
    clear hX3
    refine wpAnyH_take (i := 4) (v := .agg (cutCells b G dn zero8 ((X2).heap.size))) rfl (by kernel_rfl) (by kernel_rfl) (by kernel_rfl) (fun _ _ _ h => h) (.inl ⟨by kernel_rfl, fun w'' hS => ?_⟩) (HbD.out.nw hw2) ?_
    ·obtain ⟨e0, e1, e2, e3, e4, e5, e6, e7, hde⟩ := list8 h8
     rw [hde]
     kernel_rfl
    have hne : (X2).heap.size ≠ M := by
     have h1 : M < (X2).heap.size := hMlt
     omega
    refine wpAnyH_all (rs := [6]) (by kernel_rfl) (by simp) (fun j hj => ?_)
    obtain rfl : j = 6 := by simpa using hj
    obtain ⟨hcut, hnw, hfc, hT⟩ := hfinal X3 b M ((X2).heap.size) ((X1).heap.size) nv1 hw2 hB hm hne hC (by omega) (by omega) (by omega) (by omega) (fun k hk => by have := hnl k hk; omega)
    refine op_skip (w' := (X3).setCells ((X1).heap.size) 0 (cutCells b G dn zero8 ((X2).heap.size)).toList) rfl (by kernel_rfl) ?_ ⟨hT, wpAnyH_done (by kernel_rfl) ?_ _⟩
    ·simp only [Act.put, List.setIfInBounds_toArray, List.set_cons_zero, List.set_cons_succ, List.getElem_toArray, List.getElem_cons_zero, List.getElem_cons_succ]
     exact exec_store 185 (.tmp 5) (.tmp 11) rfl ((X1).heap.size) 0 (cutCells b G dn zero8 ((X2).heap.size)) rfl rfl (by rw [cutCells_size _ _ _ _ _ h8 rfl]; exact hC.there) (by rw [cutCells_size _ _ _ _ _ h8 rfl]; kernel_rfl) (cutCells_one ..)
    simp only [Act.put, List.setIfInBounds_toArray, List.set_cons_zero, List.set_cons_succ, List.getElem_toArray, List.getElem_cons_zero, List.getElem_cons_succ]
    go_wp2_with fail
    go_meet
    case rel => exact ⟨_, b, M, _, nv1, rfl, hcut, hnw, hfc⟩
  ·obtain ⟨X1, hX1⟩ : ∃ X, X = (W.drew).alloc (.map #[] 0) := ⟨_, rfl⟩
   have hst : Nw (W.drew) X1 := by rw [hX1]; exact (Fr.refl _ _).alloc _
   have hm : NumMap X1 3 (W.drew).heap.size 0 (fun _ => none) := by rw [hX1]; exact NumMap.made _ _
   have hw0 : Nw W X1 := hX0.trans hst (fun i h => h.elim)
   have hz0 : W.heap.size ≤ (W.drew).heap.size := hX0.size
   refine op_value (v := .map (some (W.drew).heap.size)) (w' := X1) rfl (by kernel_rfl) (by rw [hX1]; kernel_rfl) ⟨HbD.out.nw hw0, ?_⟩
   clear hX1
   refine wpAnyH_all (rs := [0, 5]) (by kernel_rfl) (by simp) (fun j hj => ?_)
   have hj' : j = 0 ∨ j = 5 := by simpa using hj
   rcases hj' with rfl | rfl
   ·refine op_enter (f := 66) (args := #[]) (w' := X1) rfl (by kernel_rfl) (by kernel_rfl) ?_
    refine (newBuilder_any X1).mono ?_
    rintro e X2 ⟨b, M, nv1, rfl, hB, hst, hbl, hMl, hnl⟩
    have hw1 : Nw W X2 := hw0.trans hst (fun i h => h.elim)
    have hz1 : W.heap.size ≤ (X1).heap.size := hw0.size
    have hMvlt : (W.drew).heap.size < (X1).heap.size := hm.lt
    have hm := hm.nw hst
    refine ⟨_, rfl, HbD.out.nw hw1, ?_⟩
    refine wpAnyH_take (i := 4) (v := .agg (cutCells b G dn zero8 ((W.drew).heap.size))) rfl (by kernel_rfl) (by kernel_rfl) (by kernel_rfl) (fun _ _ _ h => h) (.inl ⟨by kernel_rfl, fun w'' hS => ?_⟩) (HbD.out.nw hw1) ?_
    ·obtain ⟨e0, e1, e2, e3, e4, e5, e6, e7, hde⟩ := list8 h8
     rw [hde]
     kernel_rfl
    refine wpAnyH_all (rs := [5]) (by kernel_rfl) (by simp) (fun j hj => ?_)
    obtain rfl : j = 5 := by simpa using hj
    obtain ⟨X3, hX3⟩ : ∃ X, X = (X2).alloc (.cells zero19 185) := ⟨_, rfl⟩
    have hst : Nw (X2) X3 := by rw [hX3]; exact (Fr.refl _ _).alloc _
    have hC : Blk X3 (X2).heap.size zero19 185 := by rw [hX3]; exact Blk.new _ _ _
    have hw2 : Nw W X3 := hw1.trans hst (fun i h => h.elim)
    have hz2 : W.heap.size ≤ (X2).heap.size := hw1.size
    have hm := hm.nw hst
    have hB := hB.nw hst
    refine op_value (v := .pointer (some ⟨(X2).heap.size, 0, none⟩)) (w' := X3) rfl (by kernel_rfl) (by rw [hX3]; kernel_rfl) ⟨HbD.out.nw hw2, ?_⟩
    clear hX3
    have hne : (W.drew).heap.size ≠ M := by
     have h1 : (X1).heap.size ≤ M := hMl
     have h2 : (W.drew).heap.size < (X1).heap.size := hMvlt
     omega
    refine wpAnyH_all (rs := [6]) (by kernel_rfl) (by simp) (fun j hj => ?_)
    obtain rfl : j = 6 := by simpa using hj
    obtain ⟨hcut, hnw, hfc, hT⟩ := hfinal X3 b M ((W.drew).heap.size) ((X2).heap.size) nv1 hw2 hB hm hne hC (by omega) (by omega) (by omega) (by omega) (fun k hk => by have := hnl k hk; omega)
    refine op_skip (w' := (X3).setCells ((X2).heap.size) 0 (cutCells b G dn zero8 ((W.drew).heap.size)).toList) rfl (by kernel_rfl) ?_ ⟨hT, wpAnyH_done (by kernel_rfl) ?_ _⟩
    ·simp only [Act.put, List.setIfInBounds_toArray, List.set_cons_zero, List.set_cons_succ, List.getElem_toArray, List.getElem_cons_zero, List.getElem_cons_succ]
     exact exec_store 185 (.tmp 5) (.tmp 11) rfl ((X2).heap.size) 0 (cutCells b G dn zero8 ((W.drew).heap.size)) rfl rfl (by rw [cutCells_size _ _ _ _ _ h8 rfl]; exact hC.there) (by rw [cutCells_size _ _ _ _ _ h8 rfl]; kernel_rfl) (cutCells_one ..)
    simp only [Act.put, List.setIfInBounds_toArray, List.set_cons_zero, List.set_cons_succ, List.getElem_toArray, List.getElem_cons_zero, List.getElem_cons_succ]
    go_wp2_with fail
    go_meet
    case rel => exact ⟨_, b, M, _, nv1, rfl, hcut, hnw, hfc⟩
   ·obtain ⟨X2, hX2⟩ : ∃ X, X = (X1).alloc (.cells zero19 185) := ⟨_, rfl⟩
    have hst : Nw (X1) X2 := by rw [hX2]; exact (Fr.refl _ _).alloc _
    have hC : Blk X2 (X1).heap.size zero19 185 := by rw [hX2]; exact Blk.new _ _ _
    have hw1 : Nw W X2 := hw0.trans hst (fun i h => h.elim)
    have hz1 : W.heap.size ≤ (X1).heap.size := hw0.size
    have hm := hm.nw hst
    refine op_value (v := .pointer (some ⟨(X1).heap.size, 0, none⟩)) (w' := X2) rfl (by kernel_rfl) (by rw [hX2]; kernel_rfl) ⟨HbD.out.nw hw1, ?_⟩
    clear hX2
    refine wpAnyH_all (rs := [0]) (by kernel_rfl) (by simp) (fun j hj => ?_)
    obtain rfl : j = 0 := by simpa using hj
    refine op_enter (f := 66) (args := #[]) (w' := X2) rfl (by kernel_rfl) (by kernel_rfl) ?_
    refine (newBuilder_any X2).mono ?_
    rintro e X3 ⟨b, M, nv1, rfl, hB, hst, hbl, hMl, hnl⟩
    have hw2 : Nw W X3 := hw1.trans hst (fun i h => h.elim)
    have hz2 : W.heap.size ≤ (X2).heap.size := hw1.size
    have hMvlt : (W.drew).heap.size < (X2).heap.size := hm.lt
    have hm := hm.nw hst
    have hC := hC.nw hst
    refine ⟨_, rfl, HbD.out.nw hw2, ?_⟩
    refine wpAnyH_take (i := 4) (v := .agg (cutCells b G dn zero8 ((W.drew).heap.size))) rfl (by kernel_rfl) (by kernel_rfl) (by kernel_rfl) (fun _ _ _ h => h) (.inl ⟨by kernel_rfl, fun w'' hS => ?_⟩) (HbD.out.nw hw2) ?_
    ·obtain ⟨e0, e1, e2, e3, e4, e5, e6, e7, hde⟩ := list8 h8
     rw [hde]
     kernel_rfl
    have hne : (W.drew).heap.size ≠ M := by
     have h1 : (X2).heap.size ≤ M := hMl
     have h2 : (W.drew).heap.size < (X2).heap.size := hMvlt
     omega
    refine wpAnyH_all (rs := [6]) (by kernel_rfl) (by simp) (fun j hj => ?_)
    obtain rfl : j = 6 := by simpa using hj
    obtain ⟨hcut, hnw, hfc, hT⟩ := hfinal X3 b M ((W.drew).heap.size) ((X1).heap.size) nv1 hw2 hB hm hne hC (by omega) (by omega) (by omega) (by omega) (fun k hk => by have := hnl k hk; omega)
    refine op_skip (w' := (X3).setCells ((X1).heap.size) 0 (cutCells b G dn zero8 ((W.drew).heap.size)).toList) rfl (by kernel_rfl) ?_ ⟨hT, wpAnyH_done (by kernel_rfl) ?_ _⟩
    ·simp only [Act.put, List.setIfInBounds_toArray, List.set_cons_zero, List.set_cons_succ, List.getElem_toArray, List.getElem_cons_zero, List.getElem_cons_succ]
     exact exec_store 185 (.tmp 5) (.tmp 11) rfl ((X1).heap.size) 0 (cutCells b G dn zero8 ((W.drew).heap.size)) rfl rfl (by rw [cutCells_size _ _ _ _ _ h8 rfl]; exact hC.there) (by rw [cutCells_size _ _ _ _ _ h8 rfl]; kernel_rfl) (cutCells_one ..)
    simp only [Act.put, List.setIfInBounds_toArray, List.set_cons_zero, List.set_cons_succ, List.getElem_toArray, List.getElem_cons_zero, List.getElem_cons_succ]
    go_wp2_with fail
    go_meet
    case rel => exact ⟨_, b, M, _, nv1, rfl, hcut, hnw, hfc⟩
  ·obtain ⟨X1, hX1⟩ : ∃ X, X = (W.drew).alloc (.cells zero19 185) := ⟨_, rfl⟩
   have hst : Nw (W.drew) X1 := by rw [hX1]; exact (Fr.refl _ _).alloc _
   have hC : Blk X1 (W.drew).heap.size zero19 185 := by rw [hX1]; exact Blk.new _ _ _
   have hw0 : Nw W X1 := hX0.trans hst (fun i h => h.elim)
   have hz0 : W.heap.size ≤ (W.drew).heap.size := hX0.size
   refine op_value (v := .pointer (some ⟨(W.drew).heap.size, 0, none⟩)) (w' := X1) rfl (by kernel_rfl) (by rw [hX1]; kernel_rfl) ⟨HbD.out.nw hw0, ?_⟩
   clear hX1
   refine wpAnyH_all (rs := [0, 3]) (by kernel_rfl) (by simp) (fun j hj => ?_)
   have hj' : j = 0 ∨ j = 3 := by simpa using hj
   rcases hj' with rfl | rfl
   ·refine op_enter (f := 66) (args := #[]) (w' := X1) rfl (by kernel_rfl) (by kernel_rfl) ?_
    refine (newBuilder_any X1).mono ?_
    rintro e X2 ⟨b, M, nv1, rfl, hB, hst, hbl, hMl, hnl⟩
    have hw1 : Nw W X2 := hw0.trans hst (fun i h => h.elim)
    have hz1 : W.heap.size ≤ (X1).heap.size := hw0.size
    have hC := hC.nw hst
    refine ⟨_, rfl, HbD.out.nw hw1, ?_⟩
    refine wpAnyH_all (rs := [3]) (by kernel_rfl) (by simp) (fun j hj => ?_)
    obtain rfl : j = 3 := by simpa using hj
    obtain ⟨X3, hX3⟩ : ∃ X, X = (X2).alloc (.map #[] 0) := ⟨_, rfl⟩
    have hst : Nw (X2) X3 := by rw [hX3]; exact (Fr.refl _ _).alloc _
    have hm : NumMap X3 3 (X2).heap.size 0 (fun _ => none) := by rw [hX3]; exact NumMap.made _ _
    have hw2 : Nw W X3 := hw1.trans hst (fun i h => h.elim)
    have hz2 : W.heap.size ≤ (X2).heap.size := hw1.size
    have hMlt : M < (X2).heap.size := hB.lt (.inr (.inl rfl))
    have hC := hC.nw hst
    have hB := hB.nw hst
    refine op_value (v := .map (some (X2).heap.size)) (w' := X3) rfl (by kernel_rfl) (by rw [hX3]; kernel_rfl) ⟨HbD.out.nw hw2, ?_⟩
    clear hX3
    refine wpAnyH_take (i := 4) (v := .agg (cutCells b G dn zero8 ((X2).heap.size))) rfl (by kernel_rfl) (by kernel_rfl) (by kernel_rfl) (fun _ _ _ h => h) (.inl ⟨by kernel_rfl, fun w'' hS => ?_⟩) (HbD.out.nw hw2) ?_
    ·obtain ⟨e0, e1, e2, e3, e4, e5, e6, e7, hde⟩ := list8 h8
     rw [hde]
     kernel_rfl
    have hne : (X2).heap.size ≠ M := by
     have h1 : M < (X2).heap.size := hMlt
     omega
    refine wpAnyH_all (rs := [6]) (by kernel_rfl) (by simp) (fun j hj => ?_)
    obtain rfl : j = 6 := by simpa using hj
    obtain ⟨hcut, hnw, hfc, hT⟩ := hfinal X3 b M ((X2).heap.size) ((W.drew).heap.size) nv1 hw2 hB hm hne hC (by omega) (by omega) (by omega) (by omega) (fun k hk => by have := hnl k hk; omega)
    refine op_skip (w' := (X3).setCells ((W.drew).heap.size) 0 (cutCells b G dn zero8 ((X2).heap.size)).toList) rfl (by kernel_rfl) ?_ ⟨hT, wpAnyH_done (by kernel_rfl) ?_ _⟩
    ·simp only [Act.put, List.setIfInBounds_toArray, List.set_cons_zero, List.set_cons_succ, List.getElem_toArray, List.getElem_cons_zero, List.getElem_cons_succ]
     exact exec_store 185 (.tmp 5) (.tmp 11) rfl ((W.drew).heap.size) 0 (cutCells b G dn zero8 ((X2).heap.size)) rfl rfl (by rw [cutCells_size _ _ _ _ _ h8 rfl]; exact hC.there) (by rw [cutCells_size _ _ _ _ _ h8 rfl]; kernel_rfl) (cutCells_one ..)
    simp only [Act.put, List.setIfInBounds_toArray, List.set_cons_zero, List.set_cons_succ, List.getElem_toArray, List.getElem_cons_zero, List.getElem_cons_succ]
    go_wp2_with fail
    go_meet
    case rel => exact ⟨_, b, M, _, nv1, rfl, hcut, hnw, hfc⟩
   ·obtain ⟨X2, hX2⟩ : ∃ X, X = (X1).alloc (.map #[] 0) := ⟨_, rfl⟩
    have hst : Nw (X1) X2 := by rw [hX2]; exact (Fr.refl _ _).alloc _
    have hm : NumMap X2 3 (X1).heap.size 0 (fun _ => none) := by rw [hX2]; exact NumMap.made _ _
    have hw1 : Nw W X2 := hw0.trans hst (fun i h => h.elim)
    have hz1 : W.heap.size ≤ (X1).heap.size := hw0.size
    have hC := hC.nw hst
    refine op_value (v := .map (some (X1).heap.size)) (w' := X2) rfl (by kernel_rfl) (by rw [hX2]; kernel_rfl) ⟨HbD.out.nw hw1, ?_⟩
    clear hX2
    refine wpAnyH_all (rs := [0]) (by kernel_rfl) (by simp) (fun j hj => ?_)
    obtain rfl : j = 0 := by simpa using hj
    refine op_enter (f := 66) (args := #[]) (w' := X2) rfl (by kernel_rfl) (by kernel_rfl) ?_
    refine (newBuilder_any X2).mono ?_
    rintro e X3 ⟨b, M, nv1, rfl, hB, hst, hbl, hMl, hnl⟩
    have hw2 : Nw W X3 := hw1.trans hst (fun i h => h.elim)
    have hz2 : W.heap.size ≤ (X2).heap.size := hw1.size
    have hMvlt : (X1).heap.size < (X2).heap.size := hm.lt
    have hC := hC.nw hst
    have hm := hm.nw hst
    refine ⟨_, rfl, HbD.out.nw hw2, ?_⟩
    refine wpAnyH_take (i := 4) (v := .agg (cutCells b G dn zero8 ((X1).heap.size))) rfl (by kernel_rfl) (by kernel_rfl) (by kernel_rfl) (fun _ _ _ h => h) (.inl ⟨by kernel_rfl, fun w'' hS => ?_⟩) (HbD.out.nw hw2) ?_
    ·obtain ⟨e0, e1, e2, e3, e4, e5, e6, e7, hde⟩ := list8 h8
     rw [hde]
     kernel_rfl
    have hne : (X1).heap.size ≠ M := by
     have h1 : (X2).heap.size ≤ M := hMl
     have h2 : (X1).heap.size < (X2).heap.size := hMvlt
     omega
    refine wpAnyH_all (rs := [6]) (by kernel_rfl) (by simp) (fun j hj => ?_)
    obtain rfl : j = 6 := by simpa using hj
    obtain ⟨hcut, hnw, hfc, hT⟩ := hfinal X3 b M ((X1).heap.size) ((W.drew).heap.size) nv1 hw2 hB hm hne hC (by omega) (by omega) (by omega) (by omega) (fun k hk => by have := hnl k hk; omega)
    refine op_skip (w' := (X3).setCells ((W.drew).heap.size) 0 (cutCells b G dn zero8 ((X1).heap.size)).toList) rfl (by kernel_rfl) ?_ ⟨hT, wpAnyH_done (by kernel_rfl) ?_ _⟩
    ·simp only [Act.put, List.setIfInBounds_toArray, List.set_cons_zero, List.set_cons_succ, List.getElem_toArray, List.getElem_cons_zero, List.getElem_cons_succ]
     exact exec_store 185 (.tmp 5) (.tmp 11) rfl ((W.drew).heap.size) 0 (cutCells b G dn zero8 ((X1).heap.size)) rfl rfl (by rw [cutCells_size _ _ _ _ _ h8 rfl]; exact hC.there) (by rw [cutCells_size _ _ _ _ _ h8 rfl]; kernel_rfl) (cutCells_one ..)
    simp only [Act.put, List.setIfInBounds_toArray, List.set_cons_zero, List.set_cons_succ, List.getElem_toArray, List.getElem_cons_zero, List.getElem_cons_succ]
    go_wp2_with fail
    go_meet
    case rel => exact ⟨_, b, M, _, nv1, rfl, hcut, hnw, hfc⟩
 case rest =>
  obtain ⟨C, b, M, Mv, nv, rfl, hC0, hnw, hfc⟩ := hcut
  have hDc := HD.out.nw (hfW.trans hnw (fun i h => h.elim))
  have hroot : wc.cell? ⟨G, 2, none⟩ = some (.int .i64 (root : Int)) := hDc.blk.cell 2
  have hWl := HsW.out
  have hdis : ∀ k, (k = G ∨ k = g ∨ onv.ownBlock = some k) → ¬ FC C b M Mv nv k := fun k hk hF => by
   have h1 := HD.out.lt hk
   have h2 := hfc k hF
   omega
  have hcn : cnt vars.length ≤ 259 := by
   have hl : vars.length = 0 ∨ vars.length = 1 ∨ vars.length = 2 ∨ vars.length = 3 ∨ vars.length = 4 := by omega
   rcases hl with h | h | h | h | h <;> rw [h] <;> decide
  have hs0 : CSok s0 2 := ⟨by decide, by decide, by decide, rfl, zero8_lt, fun k x h => by cases h⟩
  have Hc := hd (cut_any C b M Mv G g cap onv vars os root dn h8 h4 hv hd64 hol vars.length 0 (by omega) root s0 nv 2 wc (by omega) (by omega) hs0 hlev hC0.out hDc hdis)
  have hok := cutTo_ok os vars dn hd64 vars.length 0 root s0 2 (by omega) hlev hs0
  have hfd : dDom os root vars dn = replTo vars dn (dCut os root vars dn).1.sp vars.length := rfl
  have hdc : dCut os root vars dn = cutTo os vars dn vars.length 0 root s0 := rfl
  rw [← hdc] at Hc hok
  obtain ⟨res, hres⟩ : ∃ res, dCut os root vars dn = res := ⟨_, rfl⟩
  rw [hres] at Hc hok hfd
  have Hres := hd hres
  have Hfd := hd hfd
  have hFW := hd (hfW.trans hnw (fun i h => h.elim))
  have HDc := hd hDc
  have Hdis := hd hdis
  have HC0 := hC0
  have Hfc := hd hfc
  have HbDc := hd (HbD.out.nw hnw)
  have HbRc := hd (HbR.out.nw hnw)
  clear hres hfd hdc hDc hdis hfc
  go_upto_region 3 with (go_at_call 121; refine Hc.out.mono ?_; rintro e A ⟨rfl, nv2, hCA, hfA, hnA⟩)
  have hDA := HDc.out.fr hfA Hdis.out
  have hAsz := hfA.size
  have hwcs := hnw.size
  have hTF : ∀ k, k < W.heap.size → ¬ FC C b M Mv nv k := fun k hk hF => by have := Hfc.out k hF; omega
  have hTA := HbDc.out.fr hfA (hTF _ (by omega))
  have hRA := HbRc.out.fr hfA (hTF _ (by omega))
  have e0 : A.cell? ⟨C, 0, none⟩ = some (.pointer (some ⟨b, 0, none⟩)) := hCA.blk.cell 0
  have e1 : A.cell? ⟨b, 0, none⟩ = some nv2 := hCA.bld.blk.cell 0
  have e2 : A.cell? ⟨G, 1, none⟩ = some onv := hDA.blk.cell 1
  have e3 : A.cell? ⟨G, 2, none⟩ = some (.int .i64 (root : Int)) := hDA.blk.cell 2
  have f1 := hDA.blk.free 1
  have f2 := hDA.blk.free 2
  obtain ⟨ng, ncap, hnv2⟩ : ∃ ng ncap, nv2 = .slice (some ⟨ng, 0, none⟩) res.1.ns.length ncap := by
   rcases hCA.bld.row.2 with ⟨_, h0⟩ | ⟨ng, ncap, cur, h, _⟩
   ·have := hCA.bld.two; omega
   ·exact ⟨ng, ncap, h⟩
  subst hnv2
  have HDA := hd hDA
  have HCA := hd hCA
  have HTA := hd hTA
  have HRA := hd hRA
  have HfA := hd hfA
  have hnA' : ∀ k, (Value.slice (some ⟨ng, 0, none⟩) res.1.ns.length ncap).ownBlock = some k → W.heap.size ≤ k := fun k hk => by
   rcases hnA k hk with h | h
   ·exact Hfc.out k (.inr (.inr (.inr (.inr h))))
   ·omega
  clear hDA hCA hTA hRA hfA hroot Hc hnA hWl
  go_upto_region 4 with fail
  have hne : g ≠ G := fun e => by subst e; exact HDA.out.rv.ne HDA.out.blk (by decide) rfl
  obtain ⟨Y, hY⟩ : ∃ Y, Y = (A.setCell ⟨G, 1, none⟩ (.slice (some ⟨ng, 0, none⟩) res.1.ns.length ncap)).setCell ⟨G, 2, none⟩ (.int .i64 (res.2 : Int)) := ⟨_, rfl⟩
  have hfY : Fr (fun k => k = G) A Y := by rw [hY]; exact ((Fr.refl (fun k => k = G) A).setCell ⟨G, 1, none⟩ _ (.inl rfl)).setCell ⟨G, 2, none⟩ _ (.inl rfl)
  have hGY : Blk Y G #[.slice (some ⟨g, 0, none⟩) vars.length cap, .slice (some ⟨ng, 0, none⟩) res.1.ns.length ncap, .int .i64 (res.2 : Int)] 125 := by
   rw [hY]
   have h5 := (HDA.out.blk.set 1 (.slice (some ⟨ng, 0, none⟩) res.1.ns.length ncap)).set 2 (.int .i64 (res.2 : Int))
   simpa using h5
  rw [← hY]
  have hWl := HsW.out
  have hngl := hnA' ng rfl
  have hDY : DAt Y G g cap (.slice (some ⟨ng, 0, none⟩) res.1.ns.length ncap) vars res.1.ns res.2 :=
   ⟨hGY, HDA.out.rv.fr hfY (fun k hk e => hne (by cases hk; exact e)), ownsRow.fr HCA.out.bld.row hfY (fun k hk e => by have := hnA' k hk; omega), HCA.out.bld.ok, HCA.out.bld.two⟩
  have hTY := HTA.out.fr hfY (by omega)
  have hRY := HRA.out.fr hfY (by omega)
  have hCl := Hfc.out C (.inl rfl)
  have hCY := HCA.out.blk.fr hfY (by omega)
  obtain ⟨m0, m1, m2, m3, m4, m5, m6, m7, hmv⟩ := domV8 hok.1.sp
  have Hmv := hd hmv
  have y0 : Y.cell? ⟨G, 0, none⟩ = some (.slice (some ⟨g, 0, none⟩) vars.length cap) := hGY.cell 0
  obtain ⟨c0, c1, c2, c3, c4, c5, c6, c7⟩ := cells8 (Hdv.out ▸ hTY)
  have z0 : Y.cell? ⟨C, 10, none⟩ = some m0 := (hCY.cell 10).trans (by have h := cutCells_sp b G dn res.1.sp Mv 0 h8 hok.1.sp (by omega); rw [h]; have h2 := domV_get res.1.sp 0 (by have := hok.1.sp; omega); rw [Hmv.out] at h2; exact h2.symm)
  have z1 : Y.cell? ⟨C, 11, none⟩ = some m1 := (hCY.cell 11).trans (by have h := cutCells_sp b G dn res.1.sp Mv 1 h8 hok.1.sp (by omega); rw [h]; have h2 := domV_get res.1.sp 1 (by have := hok.1.sp; omega); rw [Hmv.out] at h2; exact h2.symm)
  have z2 : Y.cell? ⟨C, 12, none⟩ = some m2 := (hCY.cell 12).trans (by have h := cutCells_sp b G dn res.1.sp Mv 2 h8 hok.1.sp (by omega); rw [h]; have h2 := domV_get res.1.sp 2 (by have := hok.1.sp; omega); rw [Hmv.out] at h2; exact h2.symm)
  have z3 : Y.cell? ⟨C, 13, none⟩ = some m3 := (hCY.cell 13).trans (by have h := cutCells_sp b G dn res.1.sp Mv 3 h8 hok.1.sp (by omega); rw [h]; have h2 := domV_get res.1.sp 3 (by have := hok.1.sp; omega); rw [Hmv.out] at h2; exact h2.symm)
  have z4 : Y.cell? ⟨C, 14, none⟩ = some m4 := (hCY.cell 14).trans (by have h := cutCells_sp b G dn res.1.sp Mv 4 h8 hok.1.sp (by omega); rw [h]; have h2 := domV_get res.1.sp 4 (by have := hok.1.sp; omega); rw [Hmv.out] at h2; exact h2.symm)
  have z5 : Y.cell? ⟨C, 15, none⟩ = some m5 := (hCY.cell 15).trans (by have h := cutCells_sp b G dn res.1.sp Mv 5 h8 hok.1.sp (by omega); rw [h]; have h2 := domV_get res.1.sp 5 (by have := hok.1.sp; omega); rw [Hmv.out] at h2; exact h2.symm)
  have z6 : Y.cell? ⟨C, 16, none⟩ = some m6 := (hCY.cell 16).trans (by have h := cutCells_sp b G dn res.1.sp Mv 6 h8 hok.1.sp (by omega); rw [h]; have h2 := domV_get res.1.sp 6 (by have := hok.1.sp; omega); rw [Hmv.out] at h2; exact h2.symm)
  have z7 : Y.cell? ⟨C, 17, none⟩ = some m7 := (hCY.cell 17).trans (by have h := cutCells_sp b G dn res.1.sp Mv 7 h8 hok.1.sp (by omega); rw [h]; have h2 := domV_get res.1.sp 7 (by have := hok.1.sp; omega); rw [Hmv.out] at h2; exact h2.symm)
  have hFY : Fr (fun k => k = G) w Y := ((hFW.out.mono (S' := fun k => k = G) (fun i h => h.elim)).trans HfA.out (fun k h => .inr (by have := Hfc.out k h; omega))).trans hfY (fun k h => .inl h)
  have HFY := hd hFY
  have HDY := hd hDY
  have HRY := hd hRY
  have Hv2 := hd (hDY.rv.drew.ints)
  clear hFY hDY hRY hTY hCY hGY hY hmv hfY e0 e1 e2 e3 f1 f2 hWl
  go_still_tail 7, (by kernel_rfl)
  go_wp2_with fail
  rw [← Hdv.out, ← Hmv.out]
  refine (replaced_any (some ⟨g, 0, none⟩) cap vars dn res.1.sp _ h4 hv Hv2.out h8 hok.1.sp).mono ?_
  rintro e w3 ⟨rfl, hf3⟩
  have hrl : (replTo vars dn res.1.sp vars.length).length = 8 := by rw [replTo_length]; exact h8
  obtain ⟨r0, r1, r2, r3, r4, r5, r6, r7, hrv⟩ := domV8 hrl
  have hR3 := HRY.out.drew.nw hf3
  obtain ⟨t0, t1, t2, t3, t4, t5, t6, t7⟩ := cells8 hR3
  have hfz : ∀ i, w3.frozen? ⟨w.heap.size + 1, i, none⟩ = false := hR3.free
  rw [hrv]
  have Hrv := hd hrv
  have HR3 := hd hR3
  have HF3 : Hid (Fr (fun k => k = G) w w3) := (HFY.out.drew).trans hf3 (fun i h => h.elim)
  have HD3 := hd (HDY.out.nw (Fr.trans ((Fr.refl (fun _ => False) Y).drew) hf3 (fun i h => h.elim)))
  have ho := domV_one (replTo vars dn res.1.sp vars.length) hrv
  clear hrv hR3 c0 c1 c2 c3 c4 c5 c6 c7 z0 z1 z2 z3 z4 z5 z6 z7
  obtain ⟨⟨p0, rfl⟩, ⟨p1, rfl⟩, ⟨p2, rfl⟩, ⟨p3, rfl⟩, ⟨p4, rfl⟩, ⟨p5, rfl⟩, ⟨p6, rfl⟩, ⟨p7, rfl⟩⟩ := ho
  go_wp2
  have hWl := HsW.out
  have hB := Blk.put8' HR3.out Hrv.out
  have hF8 := HF3.out.set8 (w.heap.size + 1) 0 1 2 3 4 5 6 7 (.int .u8 p0) (.int .u8 p1) (.int .u8 p2) (.int .u8 p3) (.int .u8 p4) (.int .u8 p5) (.int .u8 p6) (.int .u8 p7) (.inr (by omega))
  have hFg := (Fr.refl (fun k => k = w.heap.size + 1) w3).set8 (w.heap.size + 1) 0 1 2 3 4 5 6 7 (.int .u8 p0) (.int .u8 p1) (.int .u8 p2) (.int .u8 p3) (.int .u8 p4) (.int .u8 p5) (.int .u8 p6) (.int .u8 p7) (.inl rfl)
  have hD8 := HD3.out.fr hFg (fun k hk e => by
   rcases hk with h | h | h
   ·omega
   ·have := HD.out.lt (.inr (.inl h)); omega
   ·have := hnA' k h; omega)
  generalize hX8 : ((((((((w3.setCell ⟨w.heap.size + 1, 0, none⟩ (Value.int .u8 p0)).setCell ⟨w.heap.size + 1, 1, none⟩ (Value.int .u8 p1)).setCell ⟨w.heap.size + 1, 2, none⟩ (Value.int .u8 p2)).setCell ⟨w.heap.size + 1, 3, none⟩ (Value.int .u8 p3)).setCell ⟨w.heap.size + 1, 4, none⟩ (Value.int .u8 p4)).setCell ⟨w.heap.size + 1, 5, none⟩ (Value.int .u8 p5)).setCell ⟨w.heap.size + 1, 6, none⟩ (Value.int .u8 p6)).setCell ⟨w.heap.size + 1, 7, none⟩ (Value.int .u8 p7)) = X8 at hB hF8 hD8 ⊢
  obtain ⟨q0, q1, q2, q3, q4, q5, q6, q7⟩ := cells8 (Hrv.out ▸ hB)
  refine bodyPost_ret (v := .agg (domV (dDom os root vars dn))) ?_ rfl ⟨rfl, hF8, _, by rw [Hres.out]; exact hD8, fun k hk => by have := hnA' k hk; omega⟩
  rw [Hfd.out, Hrv.out]
  simp [results, Tryz.results118, go_sem, q0, q1, q2, q3, q4, q5, q6, q7]

set_option maxHeartbeats 800000 in
set_option maxRecDepth 1000000 in
theorem dState_any (G g cap : Nat) (onv : Value) (vars : List Int) (os : List (List Nat)) (root : Nat) (w : World) (hD : DAt w G g cap onv vars os root) :
  Calls Tryz.prog 119 #[.pointer (some ⟨G, 0, none⟩)] w fun e w' => e = .returned (.agg #[.int .u64 0, onv, .int .i64 (root : Int)]) ∧ Nw w w' := by
 obtain ⟨og, ocap, hon, _⟩ := hD.node
 subst hon
 have hf : Nw w (w.alloc (.cells #[.int .u64 0, .slice none 0 0, .int .i64 0] 137)) := (Fr.refl _ w).alloc _
 obtain ⟨W, hW⟩ : ∃ W, W = w.alloc (.cells #[.int .u64 0, .slice none 0 0, .int .i64 0] 137) := ⟨_, rfl⟩
 have hb : Blk W w.heap.size #[.int .u64 0, .slice none 0 0, .int .i64 0] 137 := by rw [hW]; exact Blk.new _ _ _
 have hfW : Nw w W := by rw [hW]; exact hf
 have e1 : W.cell? ⟨G, 1, none⟩ = some (.slice (some ⟨og, 0, none⟩) os.length ocap) := (hD.nw hfW).blk.cell 1
 have e2 : W.cell? ⟨G, 2, none⟩ = some (.int .i64 (root : Int)) := (hD.nw hfW).blk.cell 2
 have q0 : W.cell? ⟨w.heap.size, 0, none⟩ = some (.int .u64 0) := hb.cell 0
 have q1 : W.cell? ⟨w.heap.size, 1, none⟩ = some (.slice none 0 0) := hb.cell 1
 have q2 : W.cell? ⟨w.heap.size, 2, none⟩ = some (.int .i64 0) := hb.cell 2
 have f0 := hb.free
 have Hb := hd hb
 have HW := hd hW
 clear hb hW hD hf
 go_enter Tryz.func119, Tryz.ntmps119
 go_upto_region 1 with fail
 rw [← HW.out]
 go_still_tail 9, (by kernel_rfl)
 go_wp2
 have hB := ((Hb.out.set 0 (.int .u64 0)).set 1 (.slice (some ⟨og, 0, none⟩) os.length ocap)).set 2 (.int .i64 (root : Int))
 have hF := (((hfW.setCell ⟨w.heap.size, 0, none⟩ (.int .u64 0) (.inr (Nat.le_refl _))).setCell ⟨w.heap.size, 1, none⟩ (.slice (some ⟨og, 0, none⟩) os.length ocap) (.inr (Nat.le_refl _))).setCell ⟨w.heap.size, 2, none⟩ (.int .i64 (root : Int)) (.inr (Nat.le_refl _))).drew
 obtain ⟨X, hX⟩ : ∃ X, X = (((W.setCell ⟨w.heap.size, 0, none⟩ (Value.int .u64 0)).setCell ⟨w.heap.size, 1, none⟩ (Value.slice (some ⟨og, 0, none⟩) os.length ocap)).setCell ⟨w.heap.size, 2, none⟩ (Value.int .i64 (root : Int))).drew := ⟨_, rfl⟩
 have hB' : Blk X w.heap.size #[.int .u64 0, .slice (some ⟨og, 0, none⟩) os.length ocap, .int .i64 (root : Int)] 137 := by
  rw [hX]
  have h5 := hB.drew
  simpa using h5
 rw [← hX] at hF ⊢
 have p0 : X.cell? ⟨w.heap.size, 0, none⟩ = some (.int .u64 0) := hB'.cell 0
 have p1 : X.cell? ⟨w.heap.size, 1, none⟩ = some (.slice (some ⟨og, 0, none⟩) os.length ocap) := hB'.cell 1
 have p2 : X.cell? ⟨w.heap.size, 2, none⟩ = some (.int .i64 (root : Int)) := hB'.cell 2
 refine bodyPost_ret (v := .agg #[.int .u64 0, .slice (some ⟨og, 0, none⟩) os.length ocap, .int .i64 (root : Int)]) ?_ rfl ⟨rfl, hF⟩
 simp [results, Tryz.results119, go_sem, p0, p1, p2]

theorem meth_dchanged (G : Nat) (v : Value) (W : World) (h : W.cell? ⟨G, 0, none⟩ = some v) :
  (method 292 89 (.pointer (some ⟨G, 0, none⟩)) "Changed").run Tryz.prog W = .ok (116, .agg #[v]) W := by
 have h1 : (method 292 89 (.pointer (some ⟨G, 0, none⟩)) "Changed").run Tryz.prog W =
   match W.cell? ⟨G, 0, none⟩ with
   | some v => .ok (116, .agg #[v]) W
   | none => match W.farLoad Tryz.prog ⟨G, 0, none⟩ (Mode.plain == .atomic) with
    | .ok (v, _) => .ok (116, .agg #[v]) W
    | .error h => .halt h W := by kernel_rfl
 rw [h1, h]
theorem meth_dnarrow (G : Nat) (W : World) : (method 292 89 (.pointer (some ⟨G, 0, none⟩)) "Narrow").run Tryz.prog W = .ok (118, .pointer (some ⟨G, 0, none⟩)) W := by kernel_rfl
theorem meth_dstate (G : Nat) (W : World) : (method 292 89 (.pointer (some ⟨G, 0, none⟩)) "State").run Tryz.prog W = .ok (119, .pointer (some ⟨G, 0, none⟩)) W := by kernel_rfl

set_option maxHeartbeats 800000 in
set_option maxRecDepth 1000000 in
theorem make2_any (vb vof : Nat) (ro : Option Addr) (vcap rcap : Nat) (vars : List Int) (rows : List (List Int)) (nt : Bool) (dn : List Nat) (w : World) (h8 : dn.length = 8) (hv0 : 0 < vars.length) (h4 : vars.length ≤ 4)
  (hv : ∀ i, i < vars.length → 0 ≤ vars.getD i 0 ∧ vars.getD i 0 < 8) (hd64 : ∀ q, dn.getD q 0 < 64) (hrl : rows.length ≤ 60) (hrow : ∀ j, j < rows.length → (rows.getD j []).length = vars.length)
  (hvs : IntsAt w (some ⟨vb, vof, none⟩) vars) (hrs : RowsAt w ro rows) :
  Calls Tryz.prog 26 #[.agg #[.slice (some ⟨vb, vof, none⟩) vars.length vcap, .slice ro rows.length rcap, .bool nt, .int .i64 2], .agg (domV dn)] w fun e w' =>
   ∃ G g cap nv, e = .returned (.iface 89 (.pointer (some ⟨G, 0, none⟩))) ∧ Nw w w' ∧ DAt w' G g cap nv vars (bldTo vars nt dn vars.length 0 rows [zero6, zero6]).1 (bldTo vars nt dn vars.length 0 rows [zero6, zero6]).2 ∧ w.heap.size ≤ G ∧ w.heap.size ≤ g ∧ (∀ k, nv.ownBlock = some k → w.heap.size ≤ k) := by
 obtain ⟨v0, v1, v2, v3, v4, v5, v6, v7, hdv⟩ := domV8 h8
 obtain ⟨W, hW⟩ : ∃ W, W = (w.alloc (.cells #[.slice (some ⟨vb, vof, none⟩) vars.length vcap, .slice ro rows.length rcap, .bool nt, .int .i64 2] 41)).alloc (.cells (domV dn) 60) := ⟨_, rfl⟩
 have hfW : Nw w W := by rw [hW]; exact ((Fr.refl _ w).alloc _).alloc _
 have hbT : Blk W w.heap.size #[.slice (some ⟨vb, vof, none⟩) vars.length vcap, .slice ro rows.length rcap, .bool nt, .int .i64 2] 41 := by rw [hW]; exact (Blk.new _ _ _).alloc _
 have hbD : Blk W (w.heap.size + 1) (domV dn) 60 := by
  rw [hW]
  have := Blk.new (w.alloc (.cells #[.slice (some ⟨vb, vof, none⟩) vars.length vcap, .slice ro rows.length rcap, .bool nt, .int .i64 2] 41)) (domV dn) 60
  rw [alsz] at this
  exact this
 have t0 : W.cell? ⟨w.heap.size, 0, none⟩ = some (.slice (some ⟨vb, vof, none⟩) vars.length vcap) := hbT.cell 0
 have t1 : W.cell? ⟨w.heap.size, 1, none⟩ = some (.slice ro rows.length rcap) := hbT.cell 1
 have t2 : W.cell? ⟨w.heap.size, 2, none⟩ = some (.bool nt) := hbT.cell 2
 have t3 : W.cell? ⟨w.heap.size, 3, none⟩ = some (.int .i64 2) := hbT.cell 3
 obtain ⟨c0, c1, c2, c3, c4, c5, c6, c7⟩ := cells8 (hdv ▸ hbD)
 have Hn := hd (newDiagram_any vb vof ro vcap rcap vars rows nt 2 dn W h8 hv0 h4 hv hd64 hrl hrow (hvs.nw hfW) (hrs.nw hfW))
 have HW := hd hW
 have Hdv := hd hdv
 clear hW hbT hbD hdv
 go_enter Tryz.func26, Tryz.ntmps26
 go_upto_region 1 with fail
 rw [← HW.out]
 go_wp2_with fail
 rw [← Hdv.out]
 refine Hn.out.mono ?_
 rintro e w1 ⟨G, g, cap, nv, rfl, hf1, hD1, hGl, hgl, hnl⟩
 have hs := hfW.size
 go_wp2
 go_ret
 exact ⟨G, g, cap, nv, rfl, hfW.trans hf1 (fun i h => h.elim), hD1, by omega, by omega, fun k hk => by have := hnl k hk; omega⟩
end Go.Proofs.YtkjfpdfkcfgfkaaGreat

namespace Go.Proofs.YtkjfpdfkcfgfkaaGreat
open Go.RowKit

theorem ta_rs (G : Nat) (W : World) : (Instr.typeAssert (.iface 91 (.pointer (some ⟨G, 0, none⟩))) 73 91 true).run Tryz.prog W = .ok (.tuple #[.pointer (some ⟨G, 0, none⟩), .bool true]) W := by kernel_rfl
theorem ta_dno (G : Nat) (W : World) : (Instr.typeAssert (.iface 89 (.pointer (some ⟨G, 0, none⟩))) 73 91 true).run Tryz.prog W = .ok (.tuple #[.pointer none, .bool false]) W := by kernel_rfl
theorem ta_d (G : Nat) (W : World) : (Instr.typeAssert (.iface 89 (.pointer (some ⟨G, 0, none⟩))) 73 89 true).run Tryz.prog W = .ok (.tuple #[.pointer (some ⟨G, 0, none⟩), .bool true]) W := by kernel_rfl

set_option maxHeartbeats 1600000 in
set_option maxRecDepth 1000000 in
theorem putBack_rs (G : Nat) (vv : Value) (nt : Bool) (br : List Nat) (live live0 : Nat) (nv : Value) (r : Int) (w : World) (h24 : br.length = 24) (hG : Blk w G (rsCells vv nt br live) 131) :
  Calls Tryz.prog 74 #[.iface 91 (.pointer (some ⟨G, 0, none⟩)), .agg #[.int .u64 (live0 : Int), nv, .int .i64 r]] w fun e w' => e = .returned (.tuple #[]) ∧ Fr (fun k => k = G) w w' ∧ Blk w' G (rsCells vv nt br live0) 131 := by
 obtain ⟨W, hW⟩ : ∃ W, W = w.alloc (.cells #[.int .u64 (live0 : Int), nv, .int .i64 r] 137) := ⟨_, rfl⟩
 have hfW : Nw w W := by rw [hW]; exact (Fr.refl _ w).alloc _
 have hb : Blk W w.heap.size #[.int .u64 (live0 : Int), nv, .int .i64 r] 137 := by rw [hW]; exact Blk.new _ _ _
 have hGW := hG.nw hfW
 have c0 : W.cell? ⟨w.heap.size, 0, none⟩ = some (.int .u64 (live0 : Int)) := hb.cell 0
 have c1 : W.cell? ⟨G, 26, none⟩ = some (.int .u64 (live : Int)) := (hGW.cell 26).trans (rsCells_live _ _ _ _ h24)
 have f1 := hGW.free 26
 have HGW := hd hGW
 have HW := hd hW
 have hta := ta_rs G
 clear hb hGW hG hW
 go_enter Tryz.func74, Tryz.ntmps74
 go_upto_region 1 with fail
 rw [← HW.out]
 go_wp2
 go_end0
 refine ⟨rfl, (hfW.mono (fun i h => h.elim)).setCell _ _ (.inl rfl), ?_⟩
 have h5 := HGW.out.set 26 (.int .u64 (live0 : Int))
 rw [rsCells_setLive _ _ _ _ _ h24] at h5
 exact h5

set_option maxHeartbeats 1600000 in
set_option maxRecDepth 1000000 in
theorem putBack_d (G g cap : Nat) (onv nv : Value) (vars : List Int) (os ns : List (List Nat)) (root r : Nat) (u : Value) (w : World) (hD : DAt w G g cap onv vars os root) (hrow : w.ownsRow 0 151 6 nv ns.length (ns.flatMap nodeC)) (hok : ∀ n ∈ ns, NodeOk n) (h2 : 2 ≤ ns.length) (hnG : nv.ownBlock ≠ some G) :
  Calls Tryz.prog 74 #[.iface 89 (.pointer (some ⟨G, 0, none⟩)), .agg #[u, nv, .int .i64 (r : Int)]] w fun e w' => e = .returned (.tuple #[]) ∧ Fr (fun k => k = G) w w' ∧ DAt w' G g cap nv vars ns r := by
 obtain ⟨ng, ncap, hnv⟩ : ∃ ng ncap, nv = .slice (some ⟨ng, 0, none⟩) ns.length ncap := by
  rcases hrow.2 with ⟨_, h0⟩ | ⟨ng, ncap, cur, h, _⟩
  ·omega
  ·exact ⟨ng, ncap, h⟩
 subst hnv
 obtain ⟨W, hW⟩ : ∃ W, W = w.alloc (.cells #[u, .slice (some ⟨ng, 0, none⟩) ns.length ncap, .int .i64 (r : Int)] 137) := ⟨_, rfl⟩
 have hfW : Nw w W := by rw [hW]; exact (Fr.refl _ w).alloc _
 have hb : Blk W w.heap.size #[u, .slice (some ⟨ng, 0, none⟩) ns.length ncap, .int .i64 (r : Int)] 137 := by rw [hW]; exact Blk.new _ _ _
 have hDW := hD.nw hfW
 have c0 : W.cell? ⟨w.heap.size, 1, none⟩ = some (.slice (some ⟨ng, 0, none⟩) ns.length ncap) := hb.cell 1
 have c1 : W.cell? ⟨w.heap.size, 2, none⟩ = some (.int .i64 (r : Int)) := hb.cell 2
 have e1 : W.cell? ⟨G, 1, none⟩ = some onv := hDW.blk.cell 1
 have e2 : W.cell? ⟨G, 2, none⟩ = some (.int .i64 (root : Int)) := hDW.blk.cell 2
 have f1 := hDW.blk.free
 have hta := ta_dno G
 have htb := ta_d G
 have hGl0 := hD.blk.lt
 have HDW := hd hDW
 have HW := hd hW
 have Hb := hd hb
 clear hb hDW hD hW
 go_enter Tryz.func74, Tryz.ntmps74
 go_upto_region 1 with fail
 rw [← HW.out]
 go_upto_region 7 with fail
 have hGlt := HDW.out.blk.lt
 have hGl : G < w.heap.size := hGl0
 have hK0 : Blk W.drew w.heap.size #[u, .slice (some ⟨ng, 0, none⟩) ns.length ncap, .int .i64 (r : Int)] 137 := Hb.out.drew
 refine wp_region_held (S := fun w'' => Blk w'' w.heap.size #[u, .slice (some ⟨ng, 0, none⟩) ns.length ncap, .int .i64 (r : Int)] 137) (by kernel_rfl) ?_
 refine wpAnyH_take (i := 0) (v := .pointer (some ⟨G, 0, none⟩)) rfl (by kernel_rfl) (by kernel_rfl) (by kernel_rfl) (fun _ _ _ h => h) (.inl ⟨by kernel_rfl, fun w'' hS => by kernel_rfl⟩) hK0 ?_
 refine wpAnyH_take (i := 1) (v := .pointer (some ⟨G, 0, none⟩)) rfl (by kernel_rfl) (by kernel_rfl) (by kernel_rfl) (fun _ _ _ h => h) (.inl ⟨by kernel_rfl, fun w'' hS => by kernel_rfl⟩) hK0 ?_
 refine wpAnyH_take (i := 2) (v := .pointer (some ⟨w.heap.size, 1, none⟩)) rfl (by kernel_rfl) (by kernel_rfl) (by kernel_rfl) (fun _ _ _ h => h) (.inl ⟨by kernel_rfl, fun w'' hS => by kernel_rfl⟩) hK0 ?_
 refine wpAnyH_take (i := 3) (v := .slice (some ⟨ng, 0, none⟩) ns.length ncap) rfl (by kernel_rfl) (by kernel_rfl) (by kernel_rfl) (fun _ _ _ h => h) (.inl ⟨by kernel_rfl, fun w'' hS => ?_⟩) hK0 ?_
 ·have q0 : w''.cell? ⟨w.heap.size, 1, none⟩ = some (.slice (some ⟨ng, 0, none⟩) ns.length ncap) := hS.cell 1
  clear hK0 hS hok hrow hta htb f1
  simp only [Act.put, List.setIfInBounds_toArray, List.set_cons_zero, List.set_cons_succ, List.getElem_toArray, List.getElem_cons_zero, List.getElem_cons_succ]
  go_simp
 refine wpAnyH_take (i := 4) (v := .pointer (some ⟨w.heap.size, 2, none⟩)) rfl (by kernel_rfl) (by kernel_rfl) (by kernel_rfl) (fun _ _ _ h => h) (.inl ⟨by kernel_rfl, fun w'' hS => by kernel_rfl⟩) hK0 ?_
 refine wpAnyH_take (i := 5) (v := .int .i64 (r : Int)) rfl (by kernel_rfl) (by kernel_rfl) (by kernel_rfl) (fun _ _ _ h => h) (.inl ⟨by kernel_rfl, fun w'' hS => ?_⟩) hK0 ?_
 ·have q0 : w''.cell? ⟨w.heap.size, 2, none⟩ = some (.int .i64 (r : Int)) := hS.cell 2
  clear hK0 hS hok hrow hta htb f1
  simp only [Act.put, List.setIfInBounds_toArray, List.set_cons_zero, List.set_cons_succ, List.getElem_toArray, List.getElem_cons_zero, List.getElem_cons_succ]
  go_simp
 refine wpAnyH_take (i := 6) (v := .pointer (some ⟨G, 0, none⟩)) rfl (by kernel_rfl) (by kernel_rfl) (by kernel_rfl) (fun _ _ _ h => h) (.inl ⟨by kernel_rfl, fun w'' hS => by kernel_rfl⟩) hK0 ?_
 refine wpAnyH_take (i := 7) (v := .pointer (some ⟨G, 1, none⟩)) rfl (by kernel_rfl) (by kernel_rfl) (by kernel_rfl) (fun _ _ _ h => h) (.inl ⟨by kernel_rfl, fun w'' hS => by kernel_rfl⟩) hK0 ?_
 obtain ⟨Y, hY⟩ : ∃ Y, Y = W.drew.setCell ⟨G, 1, none⟩ (.slice (some ⟨ng, 0, none⟩) ns.length ncap) := ⟨_, rfl⟩
 have hfY : Fr (fun k => k = G) W Y := by rw [hY]; exact ((Fr.refl (fun k => k = G) W).drew).setCell ⟨G, 1, none⟩ _ (.inl rfl)
 have hGY : Blk Y G #[.slice (some ⟨g, 0, none⟩) vars.length cap, .slice (some ⟨ng, 0, none⟩) ns.length ncap, .int .i64 (root : Int)] 125 := by
  rw [hY]
  have h5 := HDW.out.blk.drew.set 1 (.slice (some ⟨ng, 0, none⟩) ns.length ncap)
  simpa using h5
 have hTY : Blk Y w.heap.size #[u, .slice (some ⟨ng, 0, none⟩) ns.length ncap, .int .i64 (r : Int)] 137 := Hb.out.fr hfY (by omega)
 refine wpAnyH_all (rs := [8]) (by kernel_rfl) (by simp) (fun j hj => ?_)
 obtain rfl : j = 8 := by simpa using hj
 refine op_skip (w' := Y) rfl (by kernel_rfl) ?_ ⟨hTY, ?_⟩
 ·rw [hY]
  clear hK0 hok hrow hta htb hY hfY hGY hTY
  simp only [Act.put, List.setIfInBounds_toArray, List.set_cons_zero, List.set_cons_succ, List.getElem_toArray, List.getElem_cons_zero, List.getElem_cons_succ]
  go_simp
 clear hY
 refine wpAnyH_all (rs := [9]) (by kernel_rfl) (by simp) (fun j hj => ?_)
 obtain rfl : j = 9 := by simpa using hj
 refine op_value (v := .pointer (some ⟨G, 0, none⟩)) (w' := Y) rfl (by kernel_rfl) (by kernel_rfl) ⟨hTY, ?_⟩
 refine wpAnyH_all (rs := [10]) (by kernel_rfl) (by simp) (fun j hj => ?_)
 obtain rfl : j = 10 := by simpa using hj
 refine op_value (v := .pointer (some ⟨G, 2, none⟩)) (w' := Y) rfl (by kernel_rfl) (by kernel_rfl) ⟨hTY, ?_⟩
 have y2 : Y.cell? ⟨G, 2, none⟩ = some (.int .i64 (root : Int)) := hGY.cell 2
 have g2 := hGY.free 2
 obtain ⟨Z, hZ⟩ : ∃ Z, Z = Y.setCell ⟨G, 2, none⟩ (.int .i64 (r : Int)) := ⟨_, rfl⟩
 have hfZ : Fr (fun k => k = G) Y Z := by rw [hZ]; exact (Fr.refl (fun k => k = G) Y).setCell ⟨G, 2, none⟩ _ (.inl rfl)
 have hGZ : Blk Z G #[.slice (some ⟨g, 0, none⟩) vars.length cap, .slice (some ⟨ng, 0, none⟩) ns.length ncap, .int .i64 (r : Int)] 125 := by
  rw [hZ]
  have h5 := hGY.set 2 (.int .i64 (r : Int))
  simpa using h5
 refine wpAnyH_all (rs := [11]) (by kernel_rfl) (by simp) (fun j hj => ?_)
 obtain rfl : j = 11 := by simpa using hj
 refine op_skip (w' := Z) rfl (by kernel_rfl) ?_ ⟨hTY.fr hfZ (by omega), wpAnyH_done (by kernel_rfl) ?_ _⟩
 ·rw [hZ]
  clear hK0 hok hrow hta htb hfY hGY hTY hZ hfZ hGZ f1 e1 e2 c0 c1
  simp only [Act.put, List.setIfInBounds_toArray, List.set_cons_zero, List.set_cons_succ, List.getElem_toArray, List.getElem_cons_zero, List.getElem_cons_succ]
  go_simp
 simp only [Act.put, List.setIfInBounds_toArray, List.set_cons_zero, List.set_cons_succ, List.getElem_toArray, List.getElem_cons_zero, List.getElem_cons_succ]
 have hFZ : Fr (fun k => k = G) w Z := ((hfW.mono (fun i h => h.elim)).trans hfY (fun k h => .inl h)).trans hfZ (fun k h => .inl h)
 have hWZ : Fr (fun k => k = G) W Z := hfY.trans hfZ (fun k h => .inl h)
 have hDZ : DAt Z G g cap (.slice (some ⟨ng, 0, none⟩) ns.length ncap) vars ns r :=
  ⟨hGZ, HDW.out.rv.fr hWZ (fun k hk e => by subst e; exact HDW.out.rv.ne HDW.out.blk (by decide) hk), ownsRow.fr (ownsRow.fr hrow hfW (fun _ _ x => x)) hWZ (fun k hk e => hnG (by rw [← e]; exact hk)), hok, h2⟩
 have HFZ := hd hFZ
 have HDZ := hd hDZ
 clear hFZ hWZ hDZ hGZ hfZ hZ hGY hTY hfY hK0 c0 c1 e1 e2 f1 y2 g2 hta htb
 go_wp2
 go_end0
 exact ⟨rfl, HFZ.out, HDZ.out⟩
end Go.Proofs.YtkjfpdfkcfgfkaaGreat
