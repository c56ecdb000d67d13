/- Parts of the proof, number 7: contracts of the functions that the statement calls. -/
import Derived.Test.YtkjfpdfkcfgfkaaGreatM6
import Derived.Test.YtkjfpdfkcfgfkaaGreatM0
import Derived.Test.YtkjfpdfkcfgfkaaGreatM5
import Derived.Test.YtkjfpdfkcfgfkaaGreatM4
import Derived.Test.YtkjfpdfkcfgfkaaGreatM2

/- The document's answer: Table. -/
namespace Go.Proofs.YtkjfpdfkcfgfkaaGreat
open Go.RowKit

theorem okTable_no {zs vars : List Int} {rows : List (List Int)} {way : Int} (h : ¬ (1 ≤ vars.length ∧ vars.length ≤ 4 ∧ rows.length ≤ 60 ∧ (way = 1 ∨ way = 2))) : okTable zs vars rows way = false := by
  cases hk : okTable zs vars rows way with
  | false => rfl
  | true =>
    exfalso
    simp only [okTable, okWay, okVars, Bool.and_eq_true, Bool.or_eq_true, beq_iff_eq, decide_eq_true_eq] at hk
    exact h ⟨hk.1.1.2.1.1, hk.1.1.2.1.2, hk.1.2, hk.1.1.1⟩
theorem okTable_of {zs vars : List Int} {rows : List (List Int)} {way : Int} (h : 1 ≤ vars.length ∧ vars.length ≤ 4 ∧ rows.length ≤ 60 ∧ (way = 1 ∨ way = 2)) : okTable zs vars rows way = ((List.range vars.length).all (okVar zs.length vars) && (List.range rows.length).all (okRowAt zs vars rows)) := by
  have h1 : okWay way = true := by simpa [okWay] using h.2.2.2
  unfold okTable okVars
  rw [h1, decide_eq_true h.1, decide_eq_true h.2.1, decide_eq_true h.2.2.1]
  simp
theorem all_stop {p : Nat → Bool} {n k : Nat} (hk : k < n) (hp : p k = false) : (List.range n).all p = false := by
  rw [List.all_eq_false]
  exact ⟨k, List.mem_range.2 hk, by rw [hp]; simp⟩
theorem all_upto {p : Nat → Bool} {n : Nat} (h : ∀ k, k < n → p k = true) : (List.range n).all p = true := List.all_eq_true.2 fun k hk => h k (List.mem_range.1 hk)

set_option maxHeartbeats 3200000 in
set_option maxRecDepth 1000000 in
theorem refTable_any (lo Y : Nat) (zs : List Int) (szv inv : Value) (vs : List Value) (bss : List (List Bool)) (dead : Bool) (tv lv : Value) (vo ro : Option Addr) (vcap rcap : Nat) (vars : List Int) (rows : List (List Int)) (nt : Bool) (way : Int) (w : World)
    (hl : vars.length * 8 ≤ 140737488355328) (hrl : rows.length * 24 ≤ 140737488355328) (hR : RIn w lo Y zs szv inv vs bss dead tv lv) (hvs : IntsAt w vo vars) (hrs : RowsAt w ro rows) :
    Calls Tryz.prog 93 #[.pointer (some ⟨Y, 0, none⟩), .agg #[.slice vo vars.length vcap, .slice ro rows.length rcap, .bool nt, .int .i64 way]] w fun e w' => e = .returned (.bool (okTable zs vars rows way)) ∧ Nw w w' := by
  obtain ⟨szo, szc, hszf, _⟩ := hR.sz.form
  rw [List.length_map] at hszf
  obtain ⟨hz1, hz8⟩ := okSizes_len hR.zok
  have Hzg := hd (fun i hi => okSizes_get hR.zok i hi)
  obtain ⟨B, hB⟩ : ∃ B, B = w.heap.size := ⟨_, rfl⟩
  obtain ⟨V, hV⟩ : ∃ V, V = w.alloc (.cells #[.slice vo vars.length vcap, .slice ro rows.length rcap, .bool nt, .int .i64 way] 41) := ⟨_, rfl⟩
  have hfV : Nw w V := by rw [hV]; exact (Fr.refl _ w).alloc _
  have hbB : Blk V B #[.slice vo vars.length vcap, .slice ro rows.length rcap, .bool nt, .int .i64 way] 41 := by rw [hV, hB]; exact Blk.new _ _ _
  have hRV := hR.nw hfV
  have hszI : IntsAt V szo zs := by
    have h := hRV.sz
    rw [hszf] at h
    exact h.ints'
  have cS : V.cell? ⟨Y, 0, none⟩ = some (.slice szo zs.length szc) := by
    have := hRV.blk.cell 0
    rw [hszf] at this
    exact this
  have hYl := hRV.blk.lt
  have c0 : V.cell? ⟨B, 0, none⟩ = some (.slice vo vars.length vcap) := hbB.cell 0
  have c1 : V.cell? ⟨B, 1, none⟩ = some (.slice ro rows.length rcap) := hbB.cell 1
  have c3 : V.cell? ⟨B, 3, none⟩ = some (.int .i64 way) := hbB.cell 3
  have hBl := hbB.lt
  have Hvs := hd (hvs.nw hfV)
  have Hrs := hd (hrs.nw hfV)
  have HszI := hd hszI
  have HfV := hd hfV
  have HbB := hd hbB
  clear hR hRV hvs hrs hszI hfV hbB hszf
  by_cases hh : 1 ≤ vars.length ∧ vars.length ≤ 4 ∧ rows.length ≤ 60 ∧ (way = 1 ∨ way = 2)
  · rw [okTable_of hh]
    obtain ⟨h1, h4, h60, hway⟩ := hh
    have hd1 : ¬ ((vars.length : Int) < 1) := by omega
    have hd4 : ¬ ((4 : Int) < (vars.length : Int)) := by omega
    have hd60 : ¬ ((60 : Int) < (rows.length : Int)) := by omega
    obtain ⟨res, hres⟩ : ∃ res, ((List.range vars.length).all (okVar zs.length vars) && (List.range rows.length).all (okRowAt zs vars rows)) = res := ⟨_, rfl⟩
    rw [hres]
    have Hres := hd hres
    clear hres
    go_enter Tryz.func93, Tryz.ntmps93
    go_upto_region 1 with fail
    rw [← hV, ← hB]
    clear hV hB
    go_cut [34] (fun b wx => b = .bool false ∧ wx = V)
    case first =>
      rcases hway with rfl | rfl
      · go_wp2_with fail
        go_meet
        exact ⟨rfl, rfl⟩
      · go_wp2_with fail
        go_meet
        exact ⟨rfl, rfl⟩
    case rest =>
      obtain ⟨rfl, hwx⟩ := hcut
      rw [hwx]
      clear hwx
      go_wp2_with fail
      go_loopw [5, 6] (fun i _ wr => ∃ k : Nat, k ≤ vars.length ∧ i = .int .i64 (k : Int) ∧ Hid (∀ q, q < k → okVar zs.length vars q = true) ∧ Hid (Nw V wr)) (fun i _ _ => vars.length - (intOf i).toNat)
      case atStart => exact ⟨0, by omega, rfl, fun q hq => absurd hq (Nat.not_lt_zero _), Fr.refl _ _⟩
      case round =>
        obtain ⟨k, hk, rfl, Hok, HN⟩ := hrel
        have d0 : wr.cell? ⟨B, 0, none⟩ = some (.slice vo vars.length vcap) := (HN.out.cell hBl (fun x => x)).trans c0
        have d1 : wr.cell? ⟨B, 1, none⟩ = some (.slice ro rows.length rcap) := (HN.out.cell hBl (fun x => x)).trans c1
        have dS : wr.cell? ⟨Y, 0, none⟩ = some (.slice szo zs.length szc) := (HN.out.cell hYl (fun x => x)).trans cS
        have hBl1 : B < wr.heap.size := Nat.lt_of_lt_of_le hBl HN.out.size
        have hYl1 : Y < wr.heap.size := Nat.lt_of_lt_of_le hYl HN.out.size
        by_cases hlt : k < vars.length
        · have hdk : (k : Int) < (vars.length : Int) := by omega
          obtain ⟨vb, vof, hve, hvl, hvc⟩ := (Hvs.out.nw HN.out) k hlt
          have hokd : okVar zs.length vars k = (decide (0 ≤ vars.getD k 0) && decide (vars.getD k 0 < (zs.length : Int)) && !(vars.take k).contains (vars.getD k 0)) := rfl
          obtain ⟨c, hc⟩ : ∃ c, vars.getD k 0 = c := ⟨_, rfl⟩
          rw [hc] at hvc hokd
          have Hokd := hd hokd
          have Hc := hd hc
          have Hstop : Hid (okVar zs.length vars k = false → res = false) := fun h => by rw [← Hres.out, all_stop hlt h]; rfl
          subst hve
          clear hokd hc
          by_cases hc0 : c < 0
          · have Hf : Hid (res = false) := hd (Hstop.out (by rw [Hokd.out, decide_eq_false (by omega)]; rfl))
            go_wp2_with fail
            go_quiet (fail)
            go_wp2_with fail
            go_ret
            exact ⟨by rw [Hf.out]; rfl, (HfV.out.trans HN.out (fun _ x => x.elim)).drewN _⟩
          · by_cases hcz : (zs.length : Int) ≤ c
            · have Hf : Hid (res = false) := hd (Hstop.out (by rw [Hokd.out, decide_eq_false (show ¬ (c < (zs.length : Int)) by omega), Bool.and_false]; rfl))
              go_wp2_with fail
              go_quiet (fail)
              go_wp2_with fail
              go_ret
              exact ⟨by rw [Hf.out]; rfl, (HfV.out.trans HN.out (fun _ x => x.elim)).drewN _⟩
            · go_wp2_with fail
              go_quiet (fail)
              go_wp2_with fail
              have HNd := hd (HN.out.drewN nq)
              obtain ⟨wd, hwd⟩ : ∃ wd, wr.drewN nq = wd := ⟨_, rfl⟩
              rw [hwd] at HNd ⊢
              clear hwd HN d0 d1 dS hBl1 hYl1 hvl hvc
              go_loopw [6] (fun j w1 => ∃ q : Nat, q ≤ k ∧ j = .int .i64 (q : Int) ∧ Hid (∀ p, p < q → vars.getD p 0 ≠ c) ∧ Hid (Nw V w1)) (fun j _ => k - (intOf j).toNat)
              case atStart => exact ⟨0, by omega, rfl, fun p hp => absurd hp (Nat.not_lt_zero _), HNd⟩
              case round =>
                rename World => w1
                obtain ⟨q, hq, rfl, Hne, HN1⟩ := hrel
                have d0 : w1.cell? ⟨B, 0, none⟩ = some (.slice (some ⟨vb, vof, none⟩) vars.length vcap) := (HN1.out.cell hBl (fun x => x)).trans c0
                have hBl1 : B < w1.heap.size := Nat.lt_of_lt_of_le hBl HN1.out.size
                by_cases hqk : q < k
                · have hdq : (q : Int) < (k : Int) := by omega
                  have hqI : (q : Int) < (vars.length : Int) := by omega
                  obtain ⟨b2, o2, he2, hl2, hc2⟩ := (Hvs.out.nw HN1.out) q (by omega)
                  simp only [Option.some.injEq, Addr.mk.injEq, and_true] at he2
                  obtain ⟨rfl, rfl⟩ := he2
                  obtain ⟨b3, o3, he3, hl3, hc3⟩ := (Hvs.out.nw HN1.out) k hlt
                  simp only [Option.some.injEq, Addr.mk.injEq, and_true] at he3
                  obtain ⟨rfl, rfl⟩ := he3
                  rw [Hc.out] at hc3
                  obtain ⟨x, hx⟩ : ∃ x, vars.getD q 0 = x := ⟨_, rfl⟩
                  rw [hx] at hc2
                  have Hx := hd hx
                  clear hx
                  by_cases hxc : x = c
                  · subst hxc
                    have Hf : Hid (res = false) := hd (Hstop.out (by
                      have hm : (vars.take k).contains x = true := by
                        rw [List.contains_iff_mem]
                        refine List.mem_iff_getElem.2 ⟨q, by simp; omega, ?_⟩
                        rw [List.getElem_take]
                        have := Hx.out
                        simpa [List.getD, show q < vars.length by omega] using this
                      rw [Hokd.out, hm, Bool.not_true, Bool.and_false]))
                    go_wp2_with fail
                    go_quiet (fail)
                    go_wp2_with fail
                    go_ret
                    exact ⟨by rw [Hf.out]; rfl, (HfV.out.trans HN1.out (fun _ x => x.elim)).drewN _⟩
                  · have hxb : (x == c) = false := by rw [beq_eq_false_iff_ne]; exact hxc
                    go_wp2_with fail
                    go_quiet (fail)
                    go_wp2_with fail
                    refine ⟨⟨q + 1, by omega, by simp, fun p hp => ?_, HN1.out.drewN _⟩, by simp [intOf]; omega⟩
                    by_cases e : p = q
                    · rw [e, Hx.out]
                      exact hxc
                    · exact Hne.out p (by omega)
                · obtain rfl : k = q := by omega
                  have hdq : ¬ ((k : Int) < (k : Int)) := by omega
                  go_wp2_with fail
                  refine ⟨⟨k + 1, by omega, by simp, fun p hp => ?_, HN1⟩, by simp [intOf]; omega⟩
                  by_cases e : p = k
                  · subst e
                    have hm : (vars.take p).contains c = false := by
                      cases h : (vars.take p).contains c with
                      | false => rfl
                      | true =>
                        exfalso
                        rw [List.contains_iff_mem] at h
                        obtain ⟨i, hi, he⟩ := List.mem_iff_getElem.1 h
                        rw [List.getElem_take] at he
                        have hi' : i < p := by simp at hi; omega
                        exact Hne.out i hi' (by simpa [List.getD, show i < vars.length by omega] using he)
                    rw [Hokd.out, hm, decide_eq_true (show 0 ≤ c by omega), decide_eq_true (show c < (zs.length : Int) by omega)]
                    rfl
                  · exact Hok.out p (by omega)
        · obtain rfl : vars.length = k := by omega
          have hdk : ¬ ((vars.length : Int) < (vars.length : Int)) := by omega
          have Hvr : Hid (∀ i, i < vars.length → 0 ≤ vars.getD i 0 ∧ vars.getD i 0 < (zs.length : Int)) := fun i hi => by
            have := Hok.out i hi
            simp only [okVar, Bool.and_eq_true, decide_eq_true_eq] at this
            exact ⟨this.1.1, this.1.2⟩
          have Hall1 : Hid ((List.range vars.length).all (okVar zs.length vars) = true) := hd (all_upto Hok.out)
          clear Hok
          go_wp2_with fail
          clear d0 d1 dS hBl1 hYl1
          go_loopw [7, 8] (fun r _ w2 => ∃ k : Nat, k ≤ rows.length ∧ r = .int .i64 (k : Int) ∧ Hid (∀ q, q < k → okRowAt zs vars rows q = true) ∧ Hid (Nw V w2)) (fun r _ _ => rows.length - (intOf r).toNat)
          case atStart => exact ⟨0, by omega, rfl, fun q hq => absurd hq (Nat.not_lt_zero _), HN⟩
          case round =>
            rename World => w2
            clear HN
            obtain ⟨k, hk, rfl, Hok, HN⟩ := hrel
            have d0 : w2.cell? ⟨B, 0, none⟩ = some (.slice vo vars.length vcap) := (HN.out.cell hBl (fun x => x)).trans c0
            have d1 : w2.cell? ⟨B, 1, none⟩ = some (.slice ro rows.length rcap) := (HN.out.cell hBl (fun x => x)).trans c1
            have hBl1 : B < w2.heap.size := Nat.lt_of_lt_of_le hBl HN.out.size
            by_cases hlt : k < rows.length
            · have hdk : (k : Int) < (rows.length : Int) := by omega
              obtain ⟨rb, rof, qo, qc, hre, hrbl, hrc, hRow⟩ := (Hrs.out.nw HN.out) k hlt
              have Hstop : Hid (okRowAt zs vars rows k = false → res = false) := fun h => by rw [← Hres.out, all_stop hlt h, Bool.and_false]
              have Hrd : Hid (okRowAt zs vars rows k = okRow zs vars (rows.getD k [])) := rfl
              obtain ⟨row, hrow⟩ : ∃ row, rows.getD k [] = row := ⟨_, rfl⟩
              rw [hrow] at hrc hRow Hrd
              subst hre
              clear hrow
              by_cases hll : row.length = vars.length
              · have hlb : ((row.length : Int) == (vars.length : Int)) = true := by rw [hll]; simp
                rw [hll] at hrc
                have Hll := hd hll
                have HRow := hd hRow
                clear hll hlb hRow
                go_wp2_with fail
                go_quiet (fail)
                go_wp2_with fail
                have HNd := hd (HN.out.drewN nq)
                obtain ⟨wd, hwd⟩ : ∃ wd, w2.drewN nq = wd := ⟨_, rfl⟩
                have HRd := hd (HRow.out.nw ((Fr.refl (fun _ => False) w2).drewN nq))
                have hrc' : (w2.drewN nq).cell? ⟨rb, rof + k, none⟩ = some (.slice qo vars.length qc) := hrc
                have hrbl' : rb < (w2.drewN nq).heap.size := hrbl
                rw [hwd] at HNd HRd hrc' hrbl' ⊢
                clear hwd HN d0 d1 hBl1 hrbl hrc HRow
                go_loopw [8] (fun j w3 => ∃ q : Nat, q ≤ vars.length ∧ j = .int .i64 (q : Int) ∧ Hid (∀ p, p < q → okEntry zs vars row p = true) ∧ Hid (Nw wd w3)) (fun j _ => vars.length - (intOf j).toNat)
                case atStart => exact ⟨0, by omega, rfl, fun p hp => absurd hp (Nat.not_lt_zero _), Fr.refl _ _⟩
                case round =>
                  rename World => w3
                  obtain ⟨q, hq, rfl, Hen, HN3⟩ := hrel
                  have HNV := hd (HNd.out.trans HN3.out (fun _ x => x.elim))
                  have d0 : w3.cell? ⟨B, 0, none⟩ = some (.slice vo vars.length vcap) := (HNV.out.cell hBl (fun x => x)).trans c0
                  have d1 : w3.cell? ⟨B, 1, none⟩ = some (.slice (some ⟨rb, rof, none⟩) rows.length rcap) := (HNV.out.cell hBl (fun x => x)).trans c1
                  have dS : w3.cell? ⟨Y, 0, none⟩ = some (.slice szo zs.length szc) := (HNV.out.cell hYl (fun x => x)).trans cS
                  have hBl3 : B < w3.heap.size := Nat.lt_of_lt_of_le hBl HNV.out.size
                  have hYl3 : Y < w3.heap.size := Nat.lt_of_lt_of_le hYl HNV.out.size
                  by_cases hql : q < vars.length
                  · have hdq : (q : Int) < (vars.length : Int) := by omega
                    have drc : w3.cell? ⟨rb, rof + k, none⟩ = some (.slice qo vars.length qc) := (HN3.out.cell hrbl' (fun x => x)).trans hrc'
                    have hrbl3 : rb < w3.heap.size := Nat.lt_of_lt_of_le hrbl' HN3.out.size
                    obtain ⟨vb, vof, hve, hvl, hvc⟩ := (Hvs.out.nw HNV.out) q hql
                    obtain ⟨hv0, hv1⟩ := Hvr.out q hql
                    obtain ⟨u, hu⟩ : ∃ u : Nat, vars.getD q 0 = (u : Int) := ⟨(vars.getD q 0).toNat, by omega⟩
                    rw [hu] at hvc hv1
                    obtain ⟨sb, sof, hse, hsl, hsc⟩ := (HszI.out.nw HNV.out) u (by omega)
                    obtain ⟨qb, qof, hqe, hqbl, hqc⟩ := (HRd.out.nw HN3.out) q (by rw [Hll.out]; exact hql)
                    have hsz := Hzg.out u (by omega)
                    have Hed : Hid (okEntry zs vars row q = (row.getD q 0 == -1 || (decide (0 ≤ row.getD q 0) && decide (row.getD q 0 < zs.getD u 0)))) := hd (by
                      unfold okEntry sizeAt
                      rw [hu, Int.toNat_natCast])
                    obtain ⟨z, hz⟩ : ∃ z, zs.getD u 0 = z := ⟨_, rfl⟩
                    obtain ⟨y, hy⟩ : ∃ y, row.getD q 0 = y := ⟨_, rfl⟩
                    rw [hz] at hsc hsz Hed
                    rw [hy] at hqc Hed
                    have Hrow0 : Hid (okEntry zs vars row q = false → res = false) := fun h => Hstop.out (by
                      rw [Hrd.out]
                      unfold okRow
                      rw [all_stop (by rw [Hll.out]; exact hql) h, Bool.and_false])
                    subst hve
                    subst hse
                    subst hqe
                    clear hu hz hy
                    by_cases hy1 : y < -1
                    · have Hf : Hid (res = false) := hd (Hrow0.out (by
                        rw [Hed.out, decide_eq_false (show ¬ (0 ≤ y) by omega), Bool.false_and, Bool.or_false, beq_eq_false_iff_ne]
                        omega))
                      go_wp2_with fail
                      go_quiet (fail)
                      go_wp2_with fail
                      go_ret
                      exact ⟨by rw [Hf.out]; rfl, (HfV.out.trans HNV.out (fun _ x => x.elim)).drewN _⟩
                    · by_cases hyz : z ≤ y
                      · have Hf : Hid (res = false) := hd (Hrow0.out (by
                          rw [Hed.out, decide_eq_false (show ¬ (y < z) by omega), Bool.and_false, Bool.or_false, beq_eq_false_iff_ne]
                          omega))
                        go_wp2_with fail
                        go_quiet (fail)
                        go_wp2_with fail
                        go_ret
                        exact ⟨by rw [Hf.out]; rfl, (HfV.out.trans HNV.out (fun _ x => x.elim)).drewN _⟩
                      · have Hgood : Hid (okEntry zs vars row q = true) := hd (by
                          rw [Hed.out]
                          by_cases e : y = -1
                          · simp [e]
                          · rw [decide_eq_true (show 0 ≤ y by omega), decide_eq_true (show y < z by omega)]
                            simp)
                        go_wp2_with fail
                        go_quiet (fail)
                        go_wp2_with fail
                        refine ⟨⟨q + 1, by omega, by simp, fun p hp => ?_, HN3.out.drewN _⟩, by simp [intOf]; omega⟩
                        by_cases e : p = q
                        · rw [e]
                          exact Hgood.out
                        · exact Hen.out p (by omega)
                  · obtain rfl : vars.length = q := by omega
                    have hdq : ¬ ((vars.length : Int) < (vars.length : Int)) := by omega
                    go_wp2_with fail
                    refine ⟨⟨k + 1, by omega, by simp, fun p hp => ?_, HNV⟩, by simp [intOf]; omega⟩
                    by_cases e : p = k
                    · rw [e, Hrd.out]
                      unfold okRow
                      rw [decide_eq_true Hll.out, all_upto (fun p hp => Hen.out p (by rw [← Hll.out]; exact hp))]
                      rfl
                    · exact Hok.out p (by omega)
              · have hlb : ((row.length : Int) == (vars.length : Int)) = false := by rw [beq_eq_false_iff_ne]; omega
                have hln : ((row.length : Int) != (vars.length : Int)) = true := by rw [bne, hlb]; rfl
                have Hf : Hid (res = false) := hd (Hstop.out (by
                  rw [Hrd.out]
                  unfold okRow
                  rw [decide_eq_false hll]
                  rfl))
                clear hRow
                go_wp2_with fail
                go_quiet (fail)
                go_wp2_with fail
                go_ret
                exact ⟨by rw [Hf.out]; rfl, (HfV.out.trans HN.out (fun _ x => x.elim)).drewN _⟩
            · obtain rfl : rows.length = k := by omega
              have hdk : ¬ ((rows.length : Int) < (rows.length : Int)) := by omega
              have Hf : Hid (res = true) := hd (by rw [← Hres.out, Hall1.out, all_upto Hok.out]; rfl)
              go_wp2_with fail
              go_ret
              exact ⟨by rw [Hf.out]; rfl, HfV.out.trans HN.out (fun _ x => x.elim)⟩
  · rw [okTable_no hh]
    go_enter Tryz.func93, Tryz.ntmps93
    go_upto_region 1 with fail
    rw [← hV, ← hB]
    clear hV hB
    by_cases h1 : vars.length < 1
    · have hd1 : (vars.length : Int) < 1 := by omega
      go_wp2_with fail
      go_ret
      exact ⟨rfl, HfV.out⟩
    · have hd1 : ¬ ((vars.length : Int) < 1) := by omega
      by_cases h4 : 4 < vars.length
      · have hd4 : (4 : Int) < (vars.length : Int) := by omega
        go_wp2_with fail
        go_ret
        exact ⟨rfl, HfV.out⟩
      · have hd4 : ¬ ((4 : Int) < (vars.length : Int)) := by omega
        by_cases h60 : 60 < rows.length
        · have hd60 : (60 : Int) < (rows.length : Int) := by omega
          go_wp2_with fail
          go_ret
          exact ⟨rfl, HfV.out⟩
        · have hd60 : ¬ ((60 : Int) < (rows.length : Int)) := by omega
          have hw1 : (way == 1) = false := by rw [beq_eq_false_iff_ne]; omega
          have hw2 : (way == 2) = false := by rw [beq_eq_false_iff_ne]; omega
          have hn1 : (way != 1) = true := by rw [bne, hw1]; rfl
          have hn2 : (way != 2) = true := by rw [bne, hw2]; rfl
          go_wp2_with fail
          go_ret
          exact ⟨rfl, HfV.out⟩
end Go.Proofs.YtkjfpdfkcfgfkaaGreat

/- The document's answer: Post, where it is refused. -/
namespace Go.Proofs.YtkjfpdfkcfgfkaaGreat
open Go.RowKit

/-- The number that the document's Post answers. -/
def postR (zs vars : List Int) (rows : List (List Int)) (way : Int) (tn ln : Nat) (dead : Bool) : Int := if okTable zs vars rows way = false then 1 else if 12 ≤ tn then 2 else if 0 < ln then 4 else if dead = true then 3 else 0

set_option maxHeartbeats 1600000 in
set_option maxRecDepth 1000000 in
theorem refPost_no (lo Y : Nat) (zs : List Int) (szv inv : Value) (vs : List Value) (bss : List (List Bool)) (dead : Bool) (tto llo : Option Addr) (tn tcap ln lcap : Nat) (vo ro : Option Addr) (vcap rcap : Nat) (vars : List Int) (rows : List (List Int)) (nt : Bool) (way : Int) (w : World)
    (hl : vars.length * 8 ≤ 140737488355328) (hrl : rows.length * 24 ≤ 140737488355328) (hR : RIn w lo Y zs szv inv vs bss dead (.slice tto tn tcap) (.slice llo ln lcap)) (hvs : IntsAt w vo vars) (hrs : RowsAt w ro rows) (hno : postR zs vars rows way tn ln dead ≠ 0) :
    Calls Tryz.prog 79 #[.pointer (some ⟨Y, 0, none⟩), .agg #[.slice vo vars.length vcap, .slice ro rows.length rcap, .bool nt, .int .i64 way]] w fun e w' => e = .returned (.int .i64 (postR zs vars rows way tn ln dead)) ∧ Nw w w' := by
  obtain ⟨B, hB⟩ : ∃ B, B = w.heap.size := ⟨_, rfl⟩
  obtain ⟨V, hV⟩ : ∃ V, V = w.alloc (.cells #[.slice vo vars.length vcap, .slice ro rows.length rcap, .bool nt, .int .i64 way] 41) := ⟨_, rfl⟩
  have hfV : Nw w V := by rw [hV]; exact (Fr.refl _ w).alloc _
  have hbB : Blk V B #[.slice vo vars.length vcap, .slice ro rows.length rcap, .bool nt, .int .i64 way] 41 := by rw [hV, hB]; exact Blk.new _ _ _
  have Hcall := hd (refTable_any lo Y zs szv inv vs bss dead (.slice tto tn tcap) (.slice llo ln lcap) vo ro vcap rcap vars rows nt way V hl hrl (hR.nw hfV) (hvs.nw hfV) (hrs.nw hfV))
  have c0 : V.cell? ⟨B, 0, none⟩ = some (.slice vo vars.length vcap) := hbB.cell 0
  have c1 : V.cell? ⟨B, 1, none⟩ = some (.slice ro rows.length rcap) := hbB.cell 1
  have c2 : V.cell? ⟨B, 2, none⟩ = some (.bool nt) := hbB.cell 2
  have c3 : V.cell? ⟨B, 3, none⟩ = some (.int .i64 way) := hbB.cell 3
  have hBl := hbB.lt
  have HR := hd (hR.nw hfV)
  have HfV := hd hfV
  unfold postR at hno ⊢
  obtain ⟨ok, hok⟩ : ∃ ok, okTable zs vars rows way = ok := ⟨_, rfl⟩
  rw [hok] at Hcall hno ⊢
  clear hbB hfV hR hvs hrs hok
  obtain ⟨res, hres⟩ : ∃ res, (if ok = false then (1 : Int) else if 12 ≤ tn then 2 else if 0 < ln then 4 else if dead = true then 3 else 0) = res := ⟨_, rfl⟩
  rw [hres] at hno ⊢
  have Hres := hd hres
  clear hres
  go_enter Tryz.func79, Tryz.ntmps79
  go_upto_region 1 with fail
  rw [← hV, ← hB]
  clear hV hB
  go_wp2_with fail
  refine Hcall.out.mono ?_
  rintro e w1 ⟨rfl, hf1⟩
  have HR1 := hd (HR.out.nw hf1)
  have Hf1 := hd (HfV.out.trans hf1 (fun _ x => x.elim))
  have d2 : w1.cell? ⟨Y, 2, none⟩ = some (.bool dead) := HR1.out.blk.cell 2
  have d3 : w1.cell? ⟨Y, 3, none⟩ = some (.slice tto tn tcap) := HR1.out.blk.cell 3
  have d4 : w1.cell? ⟨Y, 4, none⟩ = some (.slice llo ln lcap) := HR1.out.blk.cell 4
  have hYl := HR1.out.blk.lt
  clear hf1 Hcall c0 c1 c2 c3
  cases ok with
  | false =>
    have Hr : Hid (res = 1) := hd Hres.out.symm
    go_wp2_with fail
    go_ret
    exact ⟨by rw [Hr.out]; rfl, Hf1.out⟩
  | true =>
    by_cases h12 : 12 ≤ tn
    · have hd12 : (12 : Int) ≤ (tn : Int) := by omega
      have Hr : Hid (res = 2) := hd (by rw [← Hres.out, if_neg (by simp), if_pos h12])
      go_wp2_with fail
      go_ret
      exact ⟨by rw [Hr.out]; rfl, Hf1.out⟩
    · have hd12 : ¬ ((12 : Int) ≤ (tn : Int)) := by omega
      by_cases h0 : 0 < ln
      · have hd0 : (0 : Int) < (ln : Int) := by omega
        have Hr : Hid (res = 4) := hd (by rw [← Hres.out, if_neg (by simp), if_neg h12, if_pos h0])
        go_wp2_with fail
        go_ret
        exact ⟨by rw [Hr.out]; rfl, Hf1.out⟩
      · have hd0 : ¬ ((0 : Int) < (ln : Int)) := by omega
        cases dead with
        | true =>
          have Hr : Hid (res = 3) := hd (by rw [← Hres.out, if_neg (by simp), if_neg h12, if_neg h0, if_pos rfl])
          go_wp2_with fail
          go_ret
          exact ⟨by rw [Hr.out]; rfl, Hf1.out⟩
        | false =>
          exfalso
          apply hno
          rw [← Hres.out, if_neg (by simp), if_neg h12, if_neg h0, if_neg (by simp)]
end Go.Proofs.YtkjfpdfkcfgfkaaGreat

/- A Work at level 0 whose domains are the closure of all that was asked of it. -/
namespace Go.Proofs.YtkjfpdfkcfgfkaaGreat
open Go.RowKit

theorem zero8_not {n : Nat} (hn : 0 < n) : ¬ Full n zero8 := fun h => h 0 hn (zero8_get 0)
/-- A Work at level 0, whose domains are the closure of all that was asked of it. -/
structure Posted (w0 w : World) (X : Nat) (zs : List Int) (s : WS) (bs : List Tb) (st : List Nat) : Prop where
  at_ : WAt w X zs s
  since : Since w0 X s
  nw : Nw w0 w
  busy : s.l.busy = false
  sk : s.sk = []
  clo : Closure zs.length bs st s.d
  all : Full zs.length s.d → s.bs = bs
  few : s.ts.length ≤ bs.length
  sdm : Dm st
theorem set_get (d : List Nat) (v x q : Nat) (hv : v < d.length) : (d.set v x).getD q 0 = if v = q then x else d.getD q 0 := by
  by_cases e : v = q
  · subst e
    simp [List.getD, hv]
  · simp [List.getD, e]
theorem fix_dm {d : List Nat} (h : Dm d) (v x : Nat) : Dm (d.set v (fixV (d.getD v 0) x)) := ⟨by rw [List.length_set]; exact h.len, fun q => by
  by_cases hv : v < d.length
  · rw [set_get _ _ _ _ hv]
    split
    · exact Nat.lt_of_le_of_lt Nat.and_le_left (h.lt v)
    · exact h.lt q
  · rw [List.set_eq_of_length_le (by omega)]
    exact h.lt q⟩
theorem rem_dm {d : List Nat} (h : Dm d) (v x : Nat) : Dm (d.set v (remV (d.getD v 0) x)) := ⟨by rw [List.length_set]; exact h.len, fun q => by
  by_cases hv : v < d.length
  · rw [set_get _ _ _ _ hv]
    split
    · exact remV_lt _ _ (h.lt v)
    · exact h.lt q
  · rw [List.set_eq_of_length_le (by omega)]
    exact h.lt q⟩
end Go.Proofs.YtkjfpdfkcfgfkaaGreat

/- The document's answer and the program's: what Take strikes, in numbers. -/
namespace Go.Proofs.YtkjfpdfkcfgfkaaGreat
open Go.RowKit

theorem set_getN (d : List Nat) (v x q : Nat) (hv : v < d.length) : (d.set v x).getD q 0 = if v = q then x else d.getD q 0 := getD_set_eq d v q x 0 hv
theorem struck_b6 {bss : List (List Bool)} {v value : Nat} {only : Bool} (hv : v < bss.length) (h6 : ∀ u, u < bss.length → (bss.getD u []).length ≤ 6) : ∀ k u, u < (struckTo bss v value only k).length → ((struckTo bss v value only k).getD u []).length ≤ 6
  | 0, u, hu => h6 u hu
  | k + 1, u, hu => by
    have ih := struck_b6 (value := value) (only := only) hv h6 k
    unfold struckTo at hu ⊢
    by_cases hc : ((decide (k = value)) != only) = true
    · rw [if_pos hc] at hu ⊢
      have hv' : v < (struckTo bss v value only k).length := by rw [struckTo_len]; exact hv
      unfold offB
      rw [getD_set_eq _ _ _ _ _ hv']
      split
      · rw [List.length_set]
        exact ih v hv'
      · exact ih u (by simpa [offB] using hu)
    · rw [if_neg hc] at hu ⊢
      exact ih u hu
/-- Take (only): Fix. -/
theorem struck_fix {bss : List (List Bool)} {v value n : Nat} (h8 : bss.length ≤ 8) (h6 : ∀ u, u < bss.length → (bss.getD u []).length ≤ 6) (hv : v < bss.length) (hn : (bss.getD v []).length ≤ n) : domB (struckTo bss v value true n) = (domB bss).set v (fixV ((domB bss).getD v 0) value) := by
  have hdl : (domB bss).length = 8 := (domB_dm bss).len
  refine SubD.eq (domB_dm _) (fix_dm (domB_dm bss) v value) (fun q x hx => ?_) (fun q x hx => ?_)
  · rw [domB_bit _ (by rw [struckTo_len]; exact h8) (struck_b6 hv h6 n), struckTo_get bss v value true hv q x n] at hx
    rw [set_getN _ _ _ _ (by omega)]
    split at hx
    · cases hx
    · rename_i hc
      split
      · rename_i e
        subst e
        rw [fixV_bit, domB_bit _ h8 h6, hx, Bool.true_and, decide_eq_true_eq]
        refine Classical.byContradiction fun hne => hc ⟨rfl, ?_, ?_⟩
        · refine Nat.lt_of_lt_of_le ?_ hn
          refine Classical.byContradiction fun hge => ?_
          simp only [List.getD] at hx
          rw [List.getElem?_eq_none (by simp only [List.getD] at hge; omega)] at hx
          cases hx
        · rw [decide_eq_false (fun e => hne e.symm)]
          rfl
      · rw [domB_bit _ h8 h6]
        exact hx
  · rw [set_getN _ _ _ _ (by omega)] at hx
    rw [domB_bit _ (by rw [struckTo_len]; exact h8) (struck_b6 hv h6 n), struckTo_get bss v value true hv q x n]
    split at hx
    · rename_i e
      subst e
      rw [fixV_bit, domB_bit _ h8 h6, Bool.and_eq_true, decide_eq_true_eq] at hx
      rw [if_neg (fun h => by rw [hx.2] at h; simp at h)]
      exact hx.1
    · rename_i e
      rw [domB_bit _ h8 h6] at hx
      rw [if_neg (fun h => e h.1)]
      exact hx
/-- Take (not only): Remove. -/
theorem struck_rem {bss : List (List Bool)} {v value n : Nat} (h8 : bss.length ≤ 8) (h6 : ∀ u, u < bss.length → (bss.getD u []).length ≤ 6) (hv : v < bss.length) (hn : value < n) : domB (struckTo bss v value false n) = (domB bss).set v (remV ((domB bss).getD v 0) value) := by
  have hdl : (domB bss).length = 8 := (domB_dm bss).len
  have h64 := (domB_dm bss).lt v
  refine SubD.eq (domB_dm _) (rem_dm (domB_dm bss) v value) (fun q x hx => ?_) (fun q x hx => ?_)
  · rw [domB_bit _ (by rw [struckTo_len]; exact h8) (struck_b6 hv h6 n), struckTo_get bss v value false hv q x n] at hx
    rw [set_getN _ _ _ _ (by omega)]
    split at hx
    · cases hx
    · rename_i hc
      split
      · rename_i e
        subst e
        rw [remV_bit _ _ _ h64, domB_bit _ h8 h6, hx, Bool.true_and]
        rw [decide_eq_true_eq]
        intro e
        exact hc ⟨rfl, by omega, by rw [decide_eq_true e.symm]; rfl⟩
      · rw [domB_bit _ h8 h6]
        exact hx
  · rw [set_getN _ _ _ _ (by omega)] at hx
    rw [domB_bit _ (by rw [struckTo_len]; exact h8) (struck_b6 hv h6 n), struckTo_get bss v value false hv q x n]
    split at hx
    · rename_i e
      subst e
      rw [remV_bit _ _ _ h64, domB_bit _ h8 h6] at hx
      simp only [Bool.and_eq_true, decide_eq_true_eq] at hx
      rw [if_neg (fun h => by
        have h2 := h.2.2
        rw [decide_eq_false (fun e => hx.2 e.symm)] at h2
        cases h2)]
      exact hx.1
    · rename_i e
      rw [domB_bit _ h8 h6] at hx
      rw [if_neg (fun h => e h.1)]
      exact hx
/-- No domain is empty. -/
theorem noneB_full {bss : List (List Bool)} (h8 : bss.length ≤ 8) (h6 : ∀ u, u < bss.length → (bss.getD u []).length ≤ 6) : noneB bss = false ↔ Full bss.length (domB bss) := by
  unfold noneB
  rw [List.any_eq_false]
  constructor
  · intro h q hq e
    have hm : bss.getD q [] ∈ bss := by
      rw [getD_of_lt _ _ _ hq]
      exact List.getElem_mem hq
    have h1 := h _ hm
    have h2 : (bss.getD q []).any id = true := by simpa using h1
    obtain ⟨b, hb, hb1⟩ := List.any_eq_true.1 h2
    obtain ⟨v, hv, rfl⟩ := List.getElem_of_mem hb
    have h3 := domB_bit bss h8 h6 q v
    rw [e, getD_of_lt _ _ _ hv] at h3
    have h4 : (bss.getD q [])[v] = true := hb1
    rw [h4] at h3
    simp at h3
  · intro h bs hbs
    obtain ⟨q, hq, rfl⟩ := List.getElem_of_mem hbs
    obtain ⟨v, hv⟩ := ne_zero_bit (h q hq)
    rw [domB_bit bss h8 h6, getD_of_lt bss q [] hq] at hv
    have hvl : v < bss[q].length := by
      refine Classical.byContradiction fun hn => ?_
      simp only [List.getD] at hv
      rw [List.getElem?_eq_none (by omega)] at hv
      cases hv
    rw [getD_of_lt _ _ _ hvl] at hv
    have : bss[q].any id = true := List.any_eq_true.2 ⟨_, List.getElem_mem hvl, hv⟩
    rw [this]
    simp
/-- What Close leaves is the closure. -/
theorem CInv.closure {n : Nat} {bs : List Tb} {d0 d : List Nat} (h : CInv bs d0 d) (hs : ∀ b ∈ bs, SuppAll b d) (hn : 0 < n) : (Full n d → Closure n bs d0 d) ∧ (¬ Full n d → Closure n bs d0 zero8) := by
  refine ⟨fun hf => ⟨fun _ => ⟨h.sub, hs, h.most⟩, fun hn' => absurd hf hn'⟩, fun hf => ⟨fun hz => absurd hz (zero8_not hn), fun _ => ⟨rfl, fun e he hb hF => hf (fun q hq hz => ?_)⟩⟩⟩
  obtain ⟨v, hv⟩ := ne_zero_bit (hF q hq)
  have := h.most e he hb q v hv
  rw [hz] at this
  simp at this
end Go.Proofs.YtkjfpdfkcfgfkaaGreat

/- The document's answer: copied. -/
namespace Go.Proofs.YtkjfpdfkcfgfkaaGreat
open Go.RowKit

theorem bools_oneCell (bs : List Bool) : ∀ u ∈ bs.map Value.bool, u.oneCell' = true := fun u hu => by
  obtain ⟨b, _, rfl⟩ := List.mem_map.1 hu
  rfl

/-- What append(nil, ..) leaves: a list of its own. -/
theorem nil_endB {w w1 : World} {e : TypeId} {v' : Value} {n : Nat} {xs : List Value} (hx : 0 < n) (hn : xs.length = n) (h1 : w1.ownsRow 0 e 1 v' (0 + n) ([] ++ xs))
    (hg : w.grownBy w1 (Value.slice none 0 0).ownBlock) (hat : v'.ownBlock = (Value.slice none 0 0).ownBlock ∨ v'.ownBlock = some w.heap.size) :
    ∃ g cap, v' = .slice (some ⟨g, 0, none⟩) n cap ∧ Nw w w1 ∧ Row w1 v' e xs ∧ w.heap.size ≤ g := by
  subst hn
  have hr : Row w1 v' e xs := by unfold Row; simpa using h1
  have hfr : Nw w w1 := (Fr.refl _ w).grown hg (fun k hk => (by cases hk))
  rcases h1.2 with ⟨_, hn⟩ | ⟨g, cap, cur, rfl, _⟩
  · omega
  · refine ⟨g, cap, by simp, hfr, hr, ?_⟩
    rcases hat with hat | hat
    · simp [Value.ownBlock] at hat
    · simp [Value.ownBlock] at hat; omega

set_option maxHeartbeats 1600000 in
set_option maxRecDepth 1000000 in
theorem copied_any (io : Option Addr) (icap : Nat) (bss : List (List Bool)) (w : World) (h8 : bss.length ≤ 8) (h6 : ∀ u, u < bss.length → 1 ≤ (bss.getD u []).length ∧ (bss.getD u []).length ≤ 6) (hin : BRowsAt w io bss) :
    Calls Tryz.prog 84 #[.slice io bss.length icap] w fun e w' => ∃ v, e = .returned v ∧ ∃ vs, Mine w w' v 84 vs ∧ InRows w' w.heap.size vs bss := by
  obtain ⟨i0, hi0, hz0, hz1, hz2⟩ := info_parts Tryz.infoBool
  obtain ⟨i1, hi1, hz1a, hz1b, hz1c⟩ := info_parts Tryz.infoBools
  have Hin := hd hin
  clear hin
  go_enter Tryz.func84, Tryz.ntmps84
  go_wp2_with fail
  go_loopw [3, 4, 5] (fun out i _ wr => ∃ (k : Nat) (vs : List Value), k ≤ bss.length ∧ i = .int .i64 (k : Int) ∧ Hid (Mine w wr out 84 vs) ∧ Hid (InRows wr w.heap.size vs (bss.take k))) (fun _ i _ _ => bss.length - (intOf i).toNat)
  case atStart => exact ⟨0, [], by omega, rfl, Mine.nil (Fr.refl _ _) _, InRows.nil _ _⟩
  case round =>
    obtain ⟨k, vs, hk, rfl, HM, HI⟩ := hrel
    obtain ⟨oo, oc, hof, _⟩ := HM.out.row.form
    have hv8 : vs.length ≤ 8 := by rw [HI.out.len, List.length_take]; omega
    subst hof
    by_cases hlt : k < bss.length
    · have hdk : (k : Int) < (bss.length : Int) := by omega
      obtain ⟨ib, iof, qo, qc, hie, hil, hic, hRow⟩ := (Hin.out.nw HM.out.nw) k hlt
      obtain ⟨h1, h6'⟩ := h6 k hlt
      have Htk : Hid (bss.take (k + 1) = bss.take k ++ [bss.getD k []]) := hd (by
        rw [List.take_succ_eq_append_getElem hlt, getD_of_lt _ _ _ hlt])
      obtain ⟨bs, hbs⟩ : ∃ bs, bss.getD k [] = bs := ⟨_, rfl⟩
      rw [hbs] at hic hRow h1 h6' Htk
      obtain ⟨qb, qof, hqe, hql, _⟩ := hRow 0 (by omega)
      subst hie
      subst hqe
      have Hsrc : Hid (∀ (j : Nat) (v : Value), (bs.map Value.bool)[j]? = some v → wr.cell? ((⟨qb, qof, none⟩ : Addr).add j) = some v) := fun j v hj => by
        have hjl : j < bs.length := by
          have := (List.getElem?_eq_some_iff.1 hj).1
          simpa using this
        obtain ⟨b', o', he, _, hc⟩ := hRow j hjl
        simp only [Option.some.injEq, Addr.mk.injEq, and_true] at he
        obtain ⟨rfl, rfl⟩ := he
        rw [show (⟨qb, qof, none⟩ : Addr).add j = ⟨qb, qof + j, none⟩ from by by_cases h : j = 0 <;> simp [Addr.add, h], hc]
        rw [List.getElem?_map, List.getElem?_eq_getElem hjl] at hj
        simp only [Option.map_some, Option.some.injEq] at hj
        rw [← hj, getD_of_lt _ _ _ hjl]
      clear hRow hbs
      go_wp2_with (at_builtin; first
        | (refine wpList_append_own_at _ rfl _ _ 84 rfl 0 4 i0 (.bool false) 1 1 Tryz.underlying84 hi0 hz0 hz1 hz2 rfl (by decide) _ 0 [] rfl (World.ownsRow_nil _ _ _ _) ⟨qb, qof, none⟩ bs.length qc (bs.map Value.bool) rfl (by simp) Hsrc.out (bools_oneCell _) (by unfold maxLen; omega) (by omega) (Nat.zero_le _) ?_; intro v' w2 hown' hgrow _ hat; obtain ⟨g', cap', rfl, hf2, hr2, hg2⟩ := nil_endB h1 (by simp) hown' hgrow hat; clear hown' hgrow hat; have Hr2 := hd hr2; have Hf2 := hd hf2; have HM2 := hd (HM.out.step hf2); clear hr2 hf2)
        | (refine wpList_append_own_at _ rfl _ _ 79 rfl 0 84 i1 (.slice none 0 0) 1 24 Tryz.underlying79 hi1 hz1a hz1b hz1c rfl (by decide) _ _ _ rfl (Row.alloc HM2.out.row _) ⟨_, 0, none⟩ 1 1 [.slice (some ⟨g', 0, none⟩) bs.length cap'] rfl rfl (cell_one_new _ _ _) (by simp [Value.oneCell']) (by unfold maxLen; omega) (by omega) (Nat.zero_le _) ?_; intro v' w3 hown' hgrow _ hat; obtain ⟨g3, cap3, rfl, hr3, hf3, ha3, hlt3⟩ := app1 hown' hgrow hat))
      have hnb : ∀ q cur, (Value.slice oo vs.length oc).ownBlock = some q → ¬ Blk w2 q cur 4 := fun q cur hq hb => by
        obtain ⟨cur', hb', _⟩ := HM2.out.row.blk hq
        exact absurd (hb.inj hb').2 (by decide)
      have hw2 := HM.out.nw.size
      refine ⟨⟨k + 1, vs ++ [.slice (some ⟨g', 0, none⟩) bs.length cap'], by omega, by simp, HM2.out.more (g := g3) hr3 hf3 rfl (ha3.imp (fun h => h) (fun h => by omega)), ?_⟩, by simp [intOf]; omega⟩
      rw [Htk.out]
      have hI2 := HI.out.fr Hf2.out (fun _ _ x => x.elim)
      refine (hI2.fr hf3 hnb).snoc _ bs (Hr2.out.fr hf3 (fun q hq hS => ?_)) (fun q hq => by cases hq; show w.heap.size ≤ g'; omega) (fun i hi q hq e => ?_)
      · obtain ⟨cur, hb, _⟩ := Hr2.out.blk hq
        exact hnb q cur hS hb
      · have h2 := (HI.out.row i hi).lt hq
        have h3 : q = g' := by cases e; rfl
        omega
    · obtain rfl : bss.length = k := by omega
      have hdk : ¬ ((bss.length : Int) < (bss.length : Int)) := by omega
      have HI' : Hid (InRows wr w.heap.size vs bss) := hd (by have := HI.out; rwa [List.take_length] at this)
      go_wp2_with fail
      go_ret
      refine ⟨_, rfl, vs, ?_, HI'.out⟩
      show Mine w wr (.slice oo vs.length oc) 84 vs
      exact HM.out
end Go.Proofs.YtkjfpdfkcfgfkaaGreat

/- The document's answer: Pop. -/
namespace Go.Proofs.YtkjfpdfkcfgfkaaGreat
open Go.RowKit

set_option maxHeartbeats 1600000 in
set_option maxRecDepth 1000000 in
theorem refPop_no (Y : Nat) (szv inv tv : Value) (dead : Bool) (llo : Option Addr) (lcap : Nat) (w : World) (hb : Blk w Y #[szv, inv, .bool dead, tv, .slice llo 0 lcap] 83) :
    Calls Tryz.prog 64 #[.pointer (some ⟨Y, 0, none⟩)] w fun e w' => e = .returned (.int .i64 4) ∧ w' = w := by
  have c4 : w.cell? ⟨Y, 4, none⟩ = some (.slice llo 0 lcap) := hb.cell 4
  have hYl := hb.lt
  go_enter Tryz.func64, Tryz.ntmps64
  go_wp2_with fail
  go_ret
  exact ⟨rfl, rfl⟩

set_option maxHeartbeats 1600000 in
set_option maxRecDepth 1000000 in
theorem refPop_yes (Y : Nat) (szv inv tv : Value) (dead dead' : Bool) (lg n lcap io' : Nat) (in' ic' : Nat) (w : World) (hb : Blk w Y #[szv, inv, .bool dead, tv, .slice (some ⟨lg, 0, none⟩) (n + 1) lcap] 83) (hlY : lg ≠ Y)
    (c0 : w.cell? ⟨lg, n * 2, none⟩ = some (.slice (some ⟨io', 0, none⟩) in' ic')) (c1 : w.cell? ⟨lg, n * 2 + 1, none⟩ = some (.bool dead')) (hn : n < 20) (hcap : n + 1 ≤ lcap) :
    Calls Tryz.prog 64 #[.pointer (some ⟨Y, 0, none⟩)] w fun e w' => e = .returned (.int .i64 0) ∧ Blk w' Y #[szv, .slice (some ⟨io', 0, none⟩) in' ic', .bool dead', tv, .slice (some ⟨lg, 0, none⟩) n lcap] 83 ∧ Fr (fun q => q = Y) w w' := by
  have c4 : w.cell? ⟨Y, 4, none⟩ = some (.slice (some ⟨lg, 0, none⟩) (n + 1) lcap) := hb.cell 4
  have d1 : w.cell? ⟨Y, 1, none⟩ = some inv := hb.cell 1
  have d2 : w.cell? ⟨Y, 2, none⟩ = some (.bool dead) := hb.cell 2
  have hYl := hb.lt
  have hfz := hb.free
  have hYlg : Y ≠ lg := fun e => hlY e.symm
  have HB := hd hb
  clear hb
  go_enter Tryz.func64, Tryz.ntmps64
  go_wp2_with fail
  go_ret
  refine ⟨rfl, ((HB.out.set 1 (.slice (some ⟨io', 0, none⟩) in' ic')).set 2 (.bool dead')).set 4 (.slice (some ⟨lg, 0, none⟩) n lcap), ?_⟩
  exact (((Fr.refl (fun q => q = Y) w).setCell ⟨Y, 1, none⟩ _ (.inl rfl)).setCell ⟨Y, 2, none⟩ _ (.inl rfl)).setCell ⟨Y, 4, none⟩ _ (.inl rfl)
end Go.Proofs.YtkjfpdfkcfgfkaaGreat

/- The document's Work in memory: its tables and its levels too. -/
namespace Go.Proofs.YtkjfpdfkcfgfkaaGreat
open Go.RowKit

/-- The cells of a list of structs. -/
theorem owns_cell {w : World} {v : Value} {e : TypeId} {sz n : Nat} {xs : List Value} (h : w.ownsRow 0 e sz v n xs) (i : Nat) (hi : i < n * sz) : ∃ g cap, v = .slice (some ⟨g, 0, none⟩) n cap ∧ g < w.heap.size ∧ n ≤ cap ∧ w.cell? ⟨g, i, none⟩ = xs[i]? := by
  rcases h.2 with ⟨_, h0⟩ | ⟨g, cap, cur, hv, _, hg, hn, _⟩
  · subst h0
    simp at hi
  · have hcell := h.cells (g := g) (by rw [hv]; rfl)
    have hx : i < xs.length := by rw [h.1]; exact hi
    have := hcell i xs[i] (List.getElem?_eq_getElem hx)
    rw [show (⟨g, 0, none⟩ : Addr).add i = ⟨g, i, none⟩ from by by_cases h : i = 0 <;> simp only [Addr.add, h, if_true, if_false, Nat.zero_add]] at this
    exact ⟨g, cap, hv, lt_of_block hg, hn, by rw [this, List.getElem?_eq_getElem hx]⟩
theorem owns_form {w : World} {v : Value} {e : TypeId} {sz n : Nat} {xs : List Value} (h : w.ownsRow 0 e sz v n xs) : ∃ lo cap, v = .slice lo n cap := by
  rcases h.2 with ⟨rfl, h0⟩ | ⟨g, cap, cur, rfl, _⟩
  · exact ⟨none, 0, by rw [h0]⟩
  · exact ⟨_, _, rfl⟩
/-- The first n elements alone. -/
theorem owns_cut {w : World} {g n cap : Nat} {e : TypeId} {sz : Nat} {xs ys : List Value} (h : w.ownsRow 0 e sz (.slice (some ⟨g, 0, none⟩) (n + 1) cap) (n + 1) (xs ++ ys)) (hx : xs.length = n * sz) : w.ownsRow 0 e sz (.slice (some ⟨g, 0, none⟩) n cap) n xs := by
  rcases h.2 with ⟨h1, _⟩ | ⟨g', cap', cur, hv, h0, hg, h1, h2, h3, h4⟩
  · cases h1
  · simp only [Value.slice.injEq, Option.some.injEq, Addr.mk.injEq, and_true, true_and] at hv
    obtain ⟨rfl, rfl⟩ := hv
    refine ⟨hx, .inr ⟨g, cap, cur, rfl, h0, hg, by omega, h2, h3, ?_⟩⟩
    have h5 := congrArg (List.take (n * sz)) h4
    have h6 : (xs ++ ys).take (n * sz) = xs := by rw [List.take_append_of_le_length (by omega), List.take_of_length_le (by omega)]
    rw [List.take_take, Nat.min_eq_left (by rw [Nat.add_mul]; omega), h6] at h5
    exact h5

/-- Domains: of a level, or now. -/
structure RL where
  inv : Value
  vs : List Value
  bss : List (List Bool)
  dead : Bool
def RL.has (l : RL) (k : Nat) : Prop := ∃ u, u < l.vs.length ∧ (l.vs.getD u nilS).ownBlock = some k
def RL.cells (l : RL) : List Value := [l.inv, .bool l.dead]
structure RLAt (w : World) (lo : Nat) (zs : List Int) (l : RL) : Prop where
  inn : Row w l.inv 84 l.vs
  rows : InRows w lo l.vs l.bss
  len : l.bss.length = zs.length
  each : ∀ u, u < zs.length → (l.bss.getD u []).length = (zs.getD u 0).toNat
  inlo : ∀ k, l.inv.ownBlock = some k → lo ≤ k
theorem InRows.frV {S : Nat → Prop} {w w' : World} {lo : Nat} {vs : List Value} {bss : List (List Bool)} (h : InRows w lo vs bss) (f : Fr S w w') (hn : ∀ k, (∃ u, u < vs.length ∧ (vs.getD u nilS).ownBlock = some k) → ¬ S k) : InRows w' lo vs bss :=
  ⟨h.len, fun i hi => (h.row i hi).fr f (fun k hk => hn k ⟨i, by rw [h.len]; exact hi, hk⟩), h.ne, h.lo⟩
theorem RLAt.fr {S : Nat → Prop} {w w' : World} {lo : Nat} {zs : List Int} {l : RL} (h : RLAt w lo zs l) (f : Fr S w w') (h1 : ∀ k, l.has k → ¬ S k) (h2 : ∀ k, l.inv.ownBlock = some k → ¬ S k) : RLAt w' lo zs l := ⟨h.inn.fr f h2, h.rows.frV f h1, h.len, h.each, h.inlo⟩
theorem RLAt.bool {w : World} {lo : Nat} {zs : List Int} {l : RL} (h : RLAt w lo zs l) {k : Nat} (hk : l.has k) : ∃ cur, Blk w k cur 4 := by
  obtain ⟨u, hu, hk⟩ := hk
  obtain ⟨cur, hb, _⟩ := (h.rows.row u (by rw [← h.rows.len]; exact hu)).blk hk
  exact ⟨cur, hb⟩
theorem RLAt.lo {w : World} {lo : Nat} {zs : List Int} {l : RL} (h : RLAt w lo zs l) {k : Nat} (hk : l.has k) : lo ≤ k := by
  obtain ⟨u, hu, hk⟩ := hk
  exact h.rows.lo u (by rw [← h.rows.len]; exact hu) k hk
theorem RIn.lev {w : World} {lo Y : Nat} {zs : List Int} {szv inv : Value} {vs : List Value} {bss : List (List Bool)} {dead : Bool} {tv lv : Value} (h : RIn w lo Y zs szv inv vs bss dead tv lv) : RLAt w lo zs ⟨inv, vs, bss, dead⟩ := ⟨h.inn, h.rows, h.len, h.each, h.inlo⟩
/-- The document's Work. -/
structure RS where
  szv : Value
  now : RL
  tv : Value
  ts : List TbW
  lv : Value
  ls : List RL
/-- The document's tables, by their cells. -/
def TCells (W : World) (cells : List Value) (ts : List TbW) : Prop := ∀ i, i < ts.length → ∃ vo vcap ro rcap, cells[i * 4]? = some (.slice vo (ts.getD i tbw0).tb.vars.length vcap) ∧ cells[i * 4 + 1]? = some (.slice ro (ts.getD i tbw0).tb.rows.length rcap) ∧ cells[i * 4 + 2]? = some (.bool (ts.getD i tbw0).tb.nt) ∧ cells[i * 4 + 3]? = some (.int .i64 (ts.getD i tbw0).way) ∧
    IntsAt W vo (ts.getD i tbw0).tb.vars ∧ RowsAt W ro (ts.getD i tbw0).tb.rows
theorem TCells.tabs {W w : World} {tv : Value} {cells : List Value} {ts : List TbW} (h : TCells W cells ts) (ho : w.ownsRow 0 41 4 tv ts.length cells) : RTabs W w tv ts := by
  refine ⟨owns_form ho, fun i hi => ?_⟩
  obtain ⟨vo, vcap, ro, rcap, c0, c1, c2, c3, h1, h2⟩ := h i hi
  obtain ⟨g, cap, hv, hg, _, k0⟩ := owns_cell ho (i * 4) (by omega)
  have key : ∀ c, c < 4 → w.cell? ⟨g, i * 4 + c, none⟩ = cells[i * 4 + c]? := fun c hc => by
    obtain ⟨g', cap', hv', _, _, k1⟩ := owns_cell ho (i * 4 + c) (by omega)
    rw [hv] at hv'
    simp only [Value.slice.injEq, Option.some.injEq, Addr.mk.injEq, and_true, true_and] at hv'
    rw [hv'.1]
    exact k1
  exact ⟨g, cap, vo, vcap, ro, rcap, hv, hg, k0.trans c0, (key 1 (by omega)).trans c1, (key 2 (by omega)).trans c2, (key 3 (by omega)).trans c3, h1, h2⟩
theorem TCells.snoc {W : World} {cells : List Value} {ts : List TbW} (h : TCells W cells ts) (hl : cells.length = ts.length * 4) (t : TbW) (vo ro : Option Addr) (vcap rcap : Nat) (h1 : IntsAt W vo t.tb.vars) (h2 : RowsAt W ro t.tb.rows) :
    TCells W (cells ++ [.slice vo t.tb.vars.length vcap, .slice ro t.tb.rows.length rcap, .bool t.tb.nt, .int .i64 t.way]) (ts ++ [t]) := fun i hi => by
  rw [List.length_append] at hi
  have hi' : i < ts.length + 1 := hi
  by_cases he : i < ts.length
  · obtain ⟨vo, vcap, ro, rcap, c0, c1, c2, c3, k1, k2⟩ := h i he
    have e1 : (ts ++ [t]).getD i tbw0 = ts.getD i tbw0 := by simp only [List.getD]; rw [List.getElem?_append_left he]
    rw [e1]
    exact ⟨vo, vcap, ro, rcap, by rw [List.getElem?_append_left (by omega)]; exact c0, by rw [List.getElem?_append_left (by omega)]; exact c1, by rw [List.getElem?_append_left (by omega)]; exact c2, by rw [List.getElem?_append_left (by omega)]; exact c3, k1, k2⟩
  · obtain rfl : i = ts.length := by omega
    have e1 : (ts ++ [t]).getD ts.length tbw0 = t := by simp [List.getD]
    rw [e1]
    refine ⟨vo, vcap, ro, rcap, ?_, ?_, ?_, ?_, h1, h2⟩
    · rw [List.getElem?_append_right (by omega), hl, Nat.sub_self]
      rfl
    · rw [List.getElem?_append_right (by omega), hl, Nat.add_sub_cancel_left]
      rfl
    · rw [List.getElem?_append_right (by omega), hl, Nat.add_sub_cancel_left]
      rfl
    · rw [List.getElem?_append_right (by omega), hl, Nat.add_sub_cancel_left]
      rfl
def Apart (ls : List RL) : Prop := ls.Pairwise (fun a b => ∀ k, a.has k → ¬ b.has k)
/-- The document's Work in memory. -/
structure RAt (W w : World) (lo Y : Nat) (zs : List Int) (R : RS) : Prop where
  rin : RIn w lo Y zs R.szv R.now.inv R.now.vs R.now.bss R.now.dead R.tv R.lv
  tabs : ∃ cells, w.ownsRow 0 41 4 R.tv R.ts.length cells ∧ TCells W cells R.ts
  t12 : R.ts.length ≤ 12
  tok : ∀ i, i < R.ts.length → okTable zs (R.ts.getD i tbw0).tb.vars (R.ts.getD i tbw0).tb.rows (R.ts.getD i tbw0).way = true
  lrow : w.ownsRow 0 147 2 R.lv R.ls.length (R.ls.reverse.flatMap RL.cells)
  levs : ∀ l ∈ R.ls, RLAt w lo zs l
  l20 : R.ls.length ≤ 20
  apart : Apart (R.now :: R.ls)
  tlo : ∀ k, R.tv.ownBlock = some k → lo ≤ k
  llo : ∀ k, R.lv.ownBlock = some k → lo ≤ k
/-- What it writes. -/
def RS.wr (Y : Nat) (R : RS) (k : Nat) : Prop := k = Y ∨ R.now.has k ∨ R.tv.ownBlock = some k ∨ R.lv.ownBlock = some k
/-- What is its own. -/
def RS.own (Y : Nat) (R : RS) (k : Nat) : Prop := R.wr Y k ∨ R.szv.ownBlock = some k ∨ R.now.inv.ownBlock = some k ∨ ∃ l ∈ R.ls, l.has k ∨ l.inv.ownBlock = some k
theorem RAt.rtabs {W w : World} {lo Y : Nat} {zs : List Int} {R : RS} (h : RAt W w lo Y zs R) : RTabs W w R.tv R.ts := by
  obtain ⟨cells, h1, h2⟩ := h.tabs
  exact h2.tabs h1
theorem RAt.fr {S : Nat → Prop} {W w w' : World} {lo Y : Nat} {zs : List Int} {R : RS} (h : RAt W w lo Y zs R) (f : Fr S w w') (hn : ∀ k, R.own Y k → ¬ S k) : RAt W w' lo Y zs R := by
  obtain ⟨cells, h1, h2⟩ := h.tabs
  have hr := h.rin
  refine ⟨⟨hr.blk.fr f (hn Y (.inl (.inl rfl))), hr.sz.fr f (fun k hk => hn k (.inr (.inl hk))), hr.inn.fr f (fun k hk => hn k (.inr (.inr (.inl hk)))), hr.rows.frV f (fun k hk => hn k (.inl (.inr (.inl hk)))), hr.len, hr.each, hr.zok, hr.szlo, hr.inlo, hr.ylo⟩,
    ⟨cells, ownsRow.fr h1 f (fun k hk => hn k (.inl (.inr (.inr (.inl hk))))), h2⟩, h.t12, h.tok, ownsRow.fr h.lrow f (fun k hk => hn k (.inl (.inr (.inr (.inr hk))))), fun l hl => (h.levs l hl).fr f (fun k hk => hn k (.inr (.inr (.inr ⟨l, hl, .inl hk⟩)))) (fun k hk => hn k (.inr (.inr (.inr ⟨l, hl, .inr hk⟩)))), h.l20, h.apart, h.tlo, h.llo⟩
theorem RAt.nw {W w w' : World} {lo Y : Nat} {zs : List Int} {R : RS} (h : RAt W w lo Y zs R) (f : Nw w w') : RAt W w' lo Y zs R := h.fr f (fun _ _ x => x)
def refTys : List TypeId := [83, 4, 41, 147]
theorem RAt.wrTy {W w : World} {lo Y : Nat} {zs : List Int} {R : RS} (h : RAt W w lo Y zs R) {k : Nat} (hk : R.wr Y k) : ∃ cur e, Blk w k cur e ∧ e ∈ refTys := by
  rcases hk with rfl | hk | hk | hk
  · exact ⟨_, _, h.rin.blk, by decide⟩
  · obtain ⟨cur, hb⟩ := h.rin.lev.bool hk
    exact ⟨_, _, hb, by decide⟩
  · obtain ⟨cells, h1, _⟩ := h.tabs
    obtain ⟨cur, hb⟩ := ownsRow.blk h1 hk
    exact ⟨_, _, hb, by decide⟩
  · obtain ⟨cur, hb⟩ := ownsRow.blk h.lrow hk
    exact ⟨_, _, hb, by decide⟩
theorem RAt.only {W w : World} {lo Y : Nat} {zs : List Int} {R : RS} (h : RAt W w lo Y zs R) : Only w (R.wr Y) refTys := fun k cur e hk hb => by
  obtain ⟨_, _, hb', he⟩ := h.wrTy hk
  rw [(hb.inj hb').2]
  exact he
/-- The types of what is its own, but its sizes. -/
theorem RAt.ty {W w : World} {lo Y : Nat} {zs : List Int} {R : RS} (h : RAt W w lo Y zs R) {k : Nat} (hk : R.own Y k) : R.szv.ownBlock = some k ∨ ∃ cur e, Blk w k cur e ∧ (e ∈ refTys ∨ e = 84) := by
  rcases hk with hk | hk | hk | ⟨l, hl, hk | hk⟩
  · obtain ⟨cur, e, hb, he⟩ := h.wrTy hk
    exact .inr ⟨cur, e, hb, .inl he⟩
  · exact .inl hk
  · obtain ⟨cur, hb, _⟩ := h.rin.inn.blk hk
    exact .inr ⟨cur, _, hb, .inr rfl⟩
  · obtain ⟨cur, hb⟩ := (h.levs l hl).bool hk
    exact .inr ⟨cur, _, hb, .inl (by decide)⟩
  · obtain ⟨cur, hb, _⟩ := (h.levs l hl).inn.blk hk
    exact .inr ⟨cur, _, hb, .inr rfl⟩
theorem RAt.lt {W w : World} {lo Y : Nat} {zs : List Int} {R : RS} (h : RAt W w lo Y zs R) {k : Nat} (hk : R.own Y k) : k < w.heap.size := by
  rcases h.ty hk with h1 | ⟨_, _, hb, _⟩
  · exact h.rin.sz.lt h1
  · exact hb.lt
theorem RAt.lo {W w : World} {lo Y : Nat} {zs : List Int} {R : RS} (h : RAt W w lo Y zs R) {k : Nat} (hk : R.own Y k) : lo ≤ k := by
  rcases hk with (rfl | hk | hk | hk) | hk | hk | ⟨l, hl, hk | hk⟩
  · exact h.rin.ylo
  · exact h.rin.lev.lo hk
  · exact h.tlo k hk
  · exact h.llo k hk
  · exact h.rin.szlo k hk
  · exact h.rin.inlo k hk
  · exact (h.levs l hl).lo hk
  · exact (h.levs l hl).inlo k hk
end Go.Proofs.YtkjfpdfkcfgfkaaGreat

/- The program's fretwork and the document's: what they have in common. -/
namespace Go.Proofs.YtkjfpdfkcfgfkaaGreat
open Go.RowKit

/-- Domains: the document's, and the program's. -/
def LinkD (n : Nat) (l : RL) (d : List Nat) : Prop := (l.dead = true ∧ d = zero8) ∨ (l.dead = false ∧ d = domB l.bss ∧ Full n d)
theorem LinkD.iff {n : Nat} {l : RL} {d : List Nat} (hn : 0 < n) (h : LinkD n l d) : d.getD 0 0 = 0 ↔ l.dead = true := by
  rcases h with ⟨h1, rfl⟩ | ⟨h1, h2, h3⟩
  · rw [h1, zero8_get]
    simp
  · rw [h1]
    constructor
    · intro h
      exact absurd h (h3 0 hn)
    · intro h
      cases h
def LinkL (n : Nat) : List RL → List (Nat × List Nat × List TS) → Prop
  | [], [] => True
  | l :: ls, p :: ps => LinkD n l p.2.1 ∧ LinkL n ls ps
  | _, _ => False
theorem LinkL.len {n : Nat} : ∀ {ls : List RL} {ps : List (Nat × List Nat × List TS)}, LinkL n ls ps → ls.length = ps.length
  | [], [], _ => rfl
  | l :: ls, p :: ps, h => by rw [List.length_cons, List.length_cons, h.2.len]
  | [], _ :: _, h => h.elim
  | _ :: _, [], h => h.elim
/-- A fretwork of the program's, and the document's. -/
structure Pair (bz : Bool) (W w : World) (lo X Y : Nat) (zs : List Int) (s : WS) (R : RS) : Prop where
  at_ : WAt w X zs s
  ref : RAt W w lo Y zs R
  busy : s.l.busy = bz
  now : LinkD zs.length R.now s.d
  tabs : s.bs = R.ts.map TbW.tb
  levs : LinkL zs.length R.ls s.sk
  szn : ∀ k, R.szv.ownBlock = some k → ¬ s.own X k
  xlo : ∀ k, s.own X k → lo ≤ k
structure PStep (w w' : World) (X Y : Nat) (s s' : WS) (R R' : RS) : Prop where
  fr : Fr (fun k => s.own X k ∨ R.wr Y k) w w'
  grow : ∀ k, s'.own X k ∨ R'.own Y k → s.own X k ∨ R.own Y k ∨ w.heap.size ≤ k
theorem PStep.nw {w w' : World} (h : Nw w w') (X Y : Nat) (s : WS) (R : RS) : PStep w w' X Y s s R R := ⟨h.mono (fun _ x => x.elim), fun k h => by
  rcases h with h | h
  · exact .inl h
  · exact .inr (.inl h)⟩
theorem tys_apart : ownTys.all (fun e => !(refTys.contains e) && e != 84) = true := by decide
theorem WAt.apartR {W w : World} {lo X Y : Nat} {zs zs' : List Int} {s : WS} {R : RS} (h : WAt w X zs' s) (hr : RAt W w lo Y zs R) (hz : ∀ k, R.szv.ownBlock = some k → ¬ s.own X k) (k : Nat) (hk : R.own Y k) : ¬ s.own X k := fun ho => by
  rcases hr.ty hk with h1 | ⟨cur, e, hb, he⟩
  · exact hz k h1 ho
  · obtain ⟨cur', e', hb', he'⟩ := h.mem.ty ho
    have e1 := (hb.inj hb').2
    subst e1
    have h2 := List.all_eq_true.1 tys_apart e he'
    simp only [Bool.and_eq_true, Bool.not_eq_true', bne_iff_ne, ne_eq] at h2
    rcases he with he | he
    · have : refTys.contains e = true := List.contains_iff_mem.2 he
      rw [h2.1] at this
      cases this
    · exact h2.2 he
theorem Pair.nw {bz : Bool} {W w w' : World} {lo X Y : Nat} {zs : List Int} {s : WS} {R : RS} (h : Pair bz W w lo X Y zs s R) (f : Nw w w') : Pair bz W w' lo X Y zs s R := ⟨h.at_.nw f, h.ref.nw f, h.busy, h.now, h.tabs, h.levs, h.szn, h.xlo⟩
/-- Behind the program's call. -/
theorem Pair.mid {bz : Bool} {W w w1 w2 : World} {lo X Y : Nat} {zs : List Int} {s s' : WS} {R : RS} (h : Pair bz W w lo X Y zs s R) (k : WStep w w1 X s s') (f : Nw w1 w2) : RAt W w2 lo Y zs R := (h.ref.fr k.fr (h.at_.apartR h.ref h.szn)).nw f
theorem Pair.join {bz : Bool} {W w w1 w2 w3 : World} {lo X Y : Nat} {zs : List Int} {s s' : WS} {R R' : RS} (hlo : W.heap.size ≤ lo) (hW : Nw W w) (hlw : lo ≤ w.heap.size) (h : Pair bz W w lo X Y zs s R) (h1 : WAt w1 X zs s') (k : WStep w w1 X s s') (f : Nw w1 w2) (hr : RAt W w3 lo Y zs R') (hfr : Fr (R.wr Y) w2 w3) (hz : R'.szv = R.szv) (hg : ∀ k, R'.own Y k → R.own Y k ∨ w2.heap.size ≤ k)
    (hb : s'.l.busy = bz) (hn : LinkD zs.length R'.now s'.d) (ht : s'.bs = R'.ts.map TbW.tb) (hl : LinkL zs.length R'.ls s'.sk) : Pair bz W w3 lo X Y zs s' R' ∧ PStep w w3 X Y s s' R R' ∧ Nw W w3 := by
  have hr2 := h.mid k f
  have hz' : ∀ k, R.szv.ownBlock = some k → ¬ s'.own X k := fun q hq ho => by
    rcases k.grow q ho with h2 | h2
    · exact h.szn q hq h2
    · have := h.ref.rin.sz.lt hq
      omega
  have h12 := h1.nw f
  have hw2 : w.heap.size ≤ w2.heap.size := Nat.le_trans k.fr.size f.size
  have hwr : Fr (fun k => s.own X k ∨ R.wr Y k) w w3 := ((k.fr.mono (fun i hi => .inl (.inl hi))).trans f (fun i hi => hi.elim)).trans hfr (fun i hi => .inl (.inr hi))
  refine ⟨⟨h12.fr hfr (fun q hq hw => h12.apartR hr2 hz' q (.inl hw) hq) hr2.only (by decide), hr, hb, hn, ht, hl, by rw [hz]; exact hz', fun q hq => ?_⟩, ⟨hwr, fun q hq => ?_⟩, hW.trans hwr (fun i hi => .inr ?_)⟩
  · rcases k.grow q hq with h2 | h2
    · exact h.xlo q h2
    · omega
  · rcases hq with hq | hq
    · rcases k.grow q hq with h2 | h2
      · exact .inl h2
      · exact .inr (.inr h2)
    · rcases hg q hq with h2 | h2
      · exact .inr (.inl h2)
      · exact .inr (.inr (by omega))
  · rcases hi with hi | hi
    · have := h.xlo i hi
      omega
    · have := h.ref.lo (.inl hi)
      omega
/-- Other domains, and nothing else. -/
theorem RAt.renow {W w w' : World} {lo Y : Nat} {zs : List Int} {R : RS} {bss : List (List Bool)} {dead : Bool} (h : RAt W w lo Y zs R) (hf : Fr (fun q => q = Y ∨ R.now.has q) w w') (hin : RIn w' lo Y zs R.szv R.now.inv R.now.vs bss dead R.tv R.lv) : RAt W w' lo Y zs { R with now := ⟨R.now.inv, R.now.vs, bss, dead⟩ } := by
  obtain ⟨cells, h1, h2⟩ := h.tabs
  have hty : ∀ q, (q = Y ∨ R.now.has q) → ∃ cur e, Blk w q cur e ∧ (e = 83 ∨ e = 4) := fun q hq => by
    rcases hq with rfl | hq
    · exact ⟨_, _, h.rin.blk, .inl rfl⟩
    · obtain ⟨cur, hb⟩ := h.rin.lev.bool hq
      exact ⟨_, _, hb, .inr rfl⟩
  refine ⟨hin, ⟨cells, ownsRow.fr h1 hf (fun q hq hs => ?_), h2⟩, h.t12, h.tok, ownsRow.fr h.lrow hf (fun q hq hs => ?_), fun l hl => (h.levs l hl).fr hf (fun q hq hs => ?_) (fun q hq hs => ?_), h.l20, ?_, h.tlo, h.llo⟩
  · obtain ⟨cur, e, hb, he⟩ := hty q hs
    obtain ⟨cur', hb'⟩ := ownsRow.blk h1 hq
    rw [(hb.inj hb').2] at he
    exact absurd he (by decide)
  · obtain ⟨cur, e, hb, he⟩ := hty q hs
    obtain ⟨cur', hb'⟩ := ownsRow.blk h.lrow hq
    rw [(hb.inj hb').2] at he
    exact absurd he (by decide)
  · rcases hs with rfl | hs
    · obtain ⟨cur, hb⟩ := (h.levs l hl).bool hq
      exact absurd (hb.inj h.rin.blk).2 (by decide)
    · exact (List.pairwise_cons.1 h.apart).1 l hl q hs hq
  · obtain ⟨cur, e, hb, he⟩ := hty q hs
    obtain ⟨cur', hb', _⟩ := (h.levs l hl).inn.blk hq
    rw [(hb.inj hb').2] at he
    exact absurd he (by decide)
  · have ha := List.pairwise_cons.1 h.apart
    exact List.pairwise_cons.2 ⟨ha.1, ha.2⟩
theorem RAt.tblk {W w : World} {lo Y : Nat} {zs : List Int} {R : RS} (h : RAt W w lo Y zs R) : ∀ k, R.tv.ownBlock = some k → ∃ cur, Blk w k cur 41 := fun k hk => by
  obtain ⟨cells, h1, _⟩ := h.tabs
  exact ownsRow.blk h1 hk
/-- What Close leaves: the closure. -/
theorem link_close {n : Nat} {bs : List Tb} {d0 : List Nat} {bss : List (List Bool)} {inv : Value} {vs : List Value} (hn : 0 < n) (hl : bss.length = n) (h8 : bss.length ≤ 8) (h6 : ∀ u, u < bss.length → (bss.getD u []).length ≤ 6) (h : CInv bs d0 (domB bss)) (hs : ∀ b ∈ bs, SuppAll b (domB bss)) : ∃ d, Dm d ∧ Closure n bs d0 d ∧ LinkD n ⟨inv, vs, bss, noneB bss⟩ d := by
  obtain ⟨h1, h2⟩ := h.closure hs hn
  have hf := noneB_full h8 h6
  rw [hl] at hf
  cases hb : noneB bss with
  | false =>
    have hF := hf.1 hb
    exact ⟨_, domB_dm bss, h1 hF, .inr ⟨rfl, rfl, hF⟩⟩
  | true =>
    have hF : ¬ Full n (domB bss) := fun hF => by
      rw [hf.2 hF] at hb
      cases hb
    exact ⟨_, zero8_dm, h2 hF, .inl ⟨rfl, rfl⟩⟩
theorem wr_now {Y : Nat} {R : RS} {q : Nat} (h : q = Y ∨ R.now.has q) : R.wr Y q := h.elim .inl (fun h => .inr (.inl h))
/-- The document's Take, where it is done. -/
theorem take_ref {W w : World} {lo Y : Nat} {zs : List Int} {R : RS} {v value : Nat} {only : Bool} (hlo : W.heap.size ≤ lo) (hW : Nw W w) (h : RAt W w lo Y zs R) (hd : R.now.dead = false) (hv : v < zs.length) (hx : (value : Int) < zs.getD v 0) :
    Calls Tryz.prog 58 #[.pointer (some ⟨Y, 0, none⟩), .int .i64 (v : Int), .int .i64 (value : Int), .bool only] w fun e w' => e = .returned (.int .i64 0) ∧ ∃ now d, RAt W w' lo Y zs { R with now := now } ∧ Fr (R.wr Y) w w' ∧ (∀ k, RS.own Y { R with now := now } k → R.own Y k) ∧ Dm d ∧ Closure zs.length (R.ts.map TbW.tb) (domB (struckTo R.now.bss v value only (zs.getD v 0).toNat)) d ∧ LinkD zs.length now d := by
  have hr := h.rin
  rw [hd] at hr
  refine (refTake_ok W lo Y zs R.szv R.now.inv R.now.vs R.now.bss R.tv R.lv R.ts v value only w hlo hW h.t12 h.tok hr h.rtabs h.tblk hv hx).mono ?_
  rintro e w' ⟨rfl, b', h1, h2, h3, h4, h5⟩
  obtain ⟨d, k1, k2, k3⟩ := link_close (inv := R.now.inv) (vs := R.now.vs) (okSizes_len h.rin.zok).1 h1.len h1.in8 h1.b6 h3 h4
  exact ⟨rfl, _, d, h.renow h5 h1, h5.mono (fun q hq => .inl (wr_now hq)), fun k hk => hk, k1, k2, k3⟩
theorem bit_none (d : List Nat) (q : Nat) (h : ∀ v, (d.getD q 0).testBit v = false) : d.getD q 0 = 0 := Nat.eq_of_testBit_eq (fun v => by rw [h v, Nat.zero_testBit])
/-- The values of a domain. -/
theorem LinkD.vals {zs : List Int} {l : RL} {d : List Nat} (h : LinkD zs.length l d) (h8 : l.bss.length ≤ 8) (h6 : ∀ u, u < l.bss.length → (l.bss.getD u []).length ≤ 6) (hl : l.bss.length = zs.length) (q : Nat) : vals (d.getD q 0) = if q < zs.length then rDom l.bss l.dead q else [] := by
  rcases h with ⟨h1, rfl⟩ | ⟨h1, h2, h3⟩
  · rw [zero8_get, vals_zero, h1]
    simp [rDom]
  · rw [h1, h2]
    by_cases hq : q < zs.length
    · rw [if_pos hq, vals_true _ h8 h6 q (by rw [hl]; exact hq)]
      simp [rDom]
    · rw [if_neg hq, bit_none _ _ (fun v => ?_), vals_zero]
      rw [domB_bit _ h8 h6]
      have : l.bss.getD q [] = [] := by
        simp only [List.getD]
        rw [List.getElem?_eq_none (by omega)]
        rfl
      rw [this]
      rfl
end Go.Proofs.YtkjfpdfkcfgfkaaGreat

/- A region that draws its order, whose last operation writes what was read: by the name of its operations; in a round, too. -/
namespace Go.Proofs.YtkjfpdfkcfgfkaaGreat
open Go.RowKit Go.Shelf

section
variable {P : Program} {Q : Exit → Act → World → Prop} {S : World → Prop} {ops : Array Oper}
theorem region_nU {ops' : Array Oper} {id : Nat} {a : Act} {w : World} (ops : Array Oper) (n : Nat) (S : World → Prop) (z : Nat) (ho : ops' = ops) (hn : ops.size = n) (hm : P.follows .mixedOrders = true)
    (h : wpAnyU P .any ops Q S z n (Array.replicate n false) a w.drew) : (Code.region id ops' true).wp P Q a w := by
  subst ho
  subst hn
  exact region_U z hm h
def takeUB (ops : Array Oper) (listed : Array Bool) (z i : Nat) (d : Option Tmp) : Bool := takeB ops listed i d && Region.waitsFor .any ops z i
theorem takeU_at {z i : Nat} {d : Option Tmp} {v : Value} {fuel : Nat} {listed : Array Bool} {a : Act} {w : World} (hB : takeUB ops listed z i d = true) (hw : Region.wanted (opAt ops i) (yielded ops a.tmps) = true)
    (hQ : ∀ c a w, Q (.panic c) (a.put d v) w → Q (.panic c) a w) (hy : ∀ w, S w → (execOp a.eval (opAt ops i)).run P w = .ok (.value v) w) (hS : S w)
    (h : wpAnyU P .any ops Q S z fuel (listed.setIfInBounds i true) (a.put d v) w) : wpAnyU P .any ops Q S z (fuel + 1) listed a w := by
  simp only [takeUB, takeB, Bool.and_eq_true, decide_eq_true_eq] at hB
  obtain ⟨⟨⟨⟨⟨h1, h2⟩, h3⟩, h4⟩, h5⟩, h6⟩ := hB
  subst h5
  exact anyU_take (i := i) (oi := opAt ops i) (v := v) h6 (opAt_of h4) h1 h2 h3 hQ (.inl ⟨hw, hy⟩) hS h
theorem valueU_at {z i : Nat} {d : Option Tmp} {fuel : Nat} {listed : Array Bool} {a : Act} {w w' : World} {v : Value} (hB : oneB ops listed i d = true) (hw : Region.wanted (opAt ops i) (yielded ops a.tmps) = true)
    (hr : (execOp a.eval (opAt ops i)).run P w = .ok (.value v) w') (hS : i ≠ z → S w') (h : wpAnyU P .any ops Q S z fuel (listed.setIfInBounds i true) (a.put d v) w') : wpAnyU P .any ops Q S z (fuel + 1) listed a w := by
  simp only [oneB, Bool.and_eq_true, decide_eq_true_eq] at hB
  obtain ⟨⟨h3, h4⟩, h5⟩ := hB
  subst h5
  exact anyU_one h3 (op_value (opAt_of h4) hw hr ⟨hS, h⟩)
theorem skipU_at {z i : Nat} {d : Option Tmp} {fuel : Nat} {listed : Array Bool} {a : Act} {w w' : World} (hB : oneB ops listed i d = true) (hw : Region.wanted (opAt ops i) (yielded ops a.tmps) = true)
    (hr : (execOp a.eval (opAt ops i)).run P w = .ok .skip w') (hS : i ≠ z → S w') (h : wpAnyU P .any ops Q S z fuel (listed.setIfInBounds i true) (a.put d undef) w') : wpAnyU P .any ops Q S z (fuel + 1) listed a w := by
  simp only [oneB, Bool.and_eq_true, decide_eq_true_eq] at hB
  obtain ⟨⟨h3, h4⟩, h5⟩ := hB
  subst h5
  exact anyU_one h3 (op_skip (opAt_of h4) hw hr ⟨hS, h⟩)
end
/-- A store of one cell. -/
theorem exec_storeU {ev : Operand → Value} {o : Oper} {w : World} {b off : Nat} {v old : Value} (t : TypeId) (x y : Operand) (ho : o.op = .store t x y) (hx : ev x = .pointer (some ⟨b, off, none⟩)) (hy : ev y = v) (h1 : v.oneCell' = true) (hsz : (sizeOf t).run Tryz.prog w = .ok 1 w) (hc : w.cell? ⟨b, off, none⟩ = some old) (hf : w.frozen? ⟨b, off, none⟩ = false) :
    (execOp ev o).run Tryz.prog w = .ok .skip (w.setCell ⟨b, off, none⟩ v) := by
  have hs : (Sem.store Mode.plain (⟨b, off, none⟩ : Addr) v (.pure ())).run Tryz.prog w = .ok () (w.setCell ⟨b, off, none⟩ v) := by
    cases v <;> first
      | (simp [Value.oneCell'] at h1; done)
      | (unfold Sem.run; simp [hc, hf, Sem.run])
  have h1c : v.cells = #[v] := by cases v <;> first | rfl | (simp [Value.oneCell'] at h1; done)
  unfold execOp
  simp [ho, hx, hy, Instr.storeAt, Instr.sureAddr, storeVar, h1c, hsz, storeCells, Addr.add, store, hs, Result.andThen]
end Go.Proofs.YtkjfpdfkcfgfkaaGreat

/- The document's answer: Post, where it is done. -/
namespace Go.Proofs.YtkjfpdfkcfgfkaaGreat
open Go.RowKit

theorem Tryz.infoTableR : (Tryz.prog.info? 41).map (fun i => (i.zero, i.size, i.bytes)) = some (some (.agg #[.slice none 0 0, .slice none 0 0, .bool false, .int .i64 0]), 4, 64) := by kernel_rfl
/-- A load of four cells. -/
theorem exec_load4 {ev : Operand → Value} {o : Oper} {w : World} {b off : Nat} {v0 v1 v2 v3 : Value} (t : TypeId) (x : Operand) (ho : o.op = .load t x) (hx : ev x = .pointer (some ⟨b, off, none⟩)) (hag : (isAgg t).run Tryz.prog w = .ok true w) (hsz : (sizeOf t).run Tryz.prog w = .ok 4 w)
    (c0 : w.cell? ⟨b, off, none⟩ = some v0) (c1 : w.cell? ⟨b, off + 1, none⟩ = some v1) (c2 : w.cell? ⟨b, off + 2, none⟩ = some v2) (c3 : w.cell? ⟨b, off + 3, none⟩ = some v3) :
    (execOp ev o).run Tryz.prog w = .ok (.value (.agg #[v0, v1, v2, v3])) w := by
  have hl : ∀ (a : Addr) (v : Value), w.cell? a = some v → (Sem.load Mode.plain a Sem.pure).run Tryz.prog w = .ok v w := fun a v hc => by
    unfold Sem.run
    rw [hc]
    rfl
  unfold execOp
  simp [ho, hx, Instr.loadAt, Instr.sureAddr, loadVar, hag, hsz, Result.andThen, load, loadCells, loadCellsFrom, Addr.add, hl _ _ c0, hl _ _ c1, hl _ _ c2, hl _ _ c3]
/-- append of one struct. -/
theorem exec_appendN {ev : Operand → Value} {o : Oper} {w : World} {v : Value} {xs ys : List Value} {g c n : Nat} {e : TypeId} {i0 : TypeInfo} {z : Value} (sz by_ : Nat) (s y : Operand) (t : TypeId) (ho : o.op = .call { callee := .builtin .append, args := #[s, y], argTypes := #[t, t] }) (hs : ev s = v) (hy : ev y = .slice (some ⟨g, 0, none⟩) 1 c)
    (ht : Tryz.prog.underlying t = some (.slice e)) (hi : Tryz.prog.info? e = some i0) (hz : i0.zero = some z) (h1 : i0.size = sz) (hb : i0.bytes = by_) (hzc : z.cells.size = sz) (hsz : 0 < sz)
    (hr : w.ownsRow 0 e sz v n xs) (hyl : ys.length = 1 * sz) (hc : ∀ j u, ys[j]? = some u → w.cell? ((⟨g, 0, none⟩ : Addr).add j) = some u) (hx : ∀ u ∈ ys, u.oneCell' = true) (h63 : n + 1 ≤ maxLen) (hl : (n + 1) * by_ ≤ 140737488355328) :
    ∃ v' w', (execOp ev o).run Tryz.prog w = .ok (.value v') w' ∧ w'.ownsRow 0 e sz v' (n + 1) (xs ++ ys) ∧ w.grownBy w' v.ownBlock ∧ (v'.ownBlock = v.ownBlock ∨ v'.ownBlock = some w.heap.size) := by
  obtain ⟨v', w', hr', h2, h3, _, h5⟩ := run_append_own_at (P := Tryz.prog) w 0 t o.type e i0 z sz by_ ht hi hz h1 hb hzc hsz v n xs hr ⟨g, 0, none⟩ 1 c ys hyl hc hx h63 hl (Nat.zero_le _)
  refine ⟨v', w', ?_, h2, h3, h5⟩
  unfold execOp
  simp only [ho, resolve, invoke, builtin, Sem.run_bind, Sem.run_pure, Result.andThen_ok, List.map_toArray, List.map_cons, List.map_nil, hs, hy, hr']
/-- What an append of one struct leaves. -/
theorem appS {w w1 : World} {e : TypeId} {size : Nat} {v v' : Value} {k : Nat} {xs : List Value} (h1 : w1.ownsRow 0 e size v' (k + 1) xs) (hg : w.grownBy w1 v.ownBlock) (hat : v'.ownBlock = v.ownBlock ∨ v'.ownBlock = some w.heap.size) :
    ∃ g cap, v' = .slice (some ⟨g, 0, none⟩) (k + 1) cap ∧ Fr (fun j => v.ownBlock = some j) w w1 ∧ (v.ownBlock = some g ∨ w.heap.size ≤ g) ∧ g < w1.heap.size := by
  have hfr : Fr (fun j => v.ownBlock = some j) w w1 := (Fr.refl (fun j => v.ownBlock = some j) w).grown hg (fun k hk => .inl hk)
  rcases h1.2 with ⟨_, hn⟩ | ⟨g, cap, cur, rfl, _, hgg, _⟩
  · omega
  · refine ⟨g, cap, rfl, hfr, ?_, lt_of_block hgg⟩
    rcases hat with hat | hat
    · exact .inl hat.symm
    · right
      have : g = w.heap.size := by simpa [Value.ownBlock] using hat
      omega
theorem blk_cells {w : World} {g : Nat} {xs : List Value} {e : TypeId} (h : Blk w g xs.toArray e) : ∀ j u, xs[j]? = some u → w.cell? ((⟨g, 0, none⟩ : Addr).add j) = some u := by
  intro j u hj
  rw [show (⟨g, 0, none⟩ : Addr).add j = ⟨g, j, none⟩ from by by_cases h : j = 0 <;> simp [Addr.add, h], h.cell]
  simpa using hj
noncomputable def postReg : Array Oper := regOps Tryz.f79 10
def postEv (x y : Value) : Operand → Value
  | .tmp 31 => x
  | .tmp _ => y
  | _ => undef

set_option maxHeartbeats 1600000 in
set_option maxRecDepth 1000000 in
theorem refPost_yes (W : World) (lo Y : Nat) (zs : List Int) (R : RS) (vo ro : Option Addr) (vcap rcap : Nat) (vars : List Int) (rows : List (List Int)) (nt : Bool) (way : Int) (w : World) (hlo : W.heap.size ≤ lo) (hlw : lo ≤ w.heap.size) (hW : Nw W w) (hR : RAt W w lo Y zs R) (hdd : R.now.dead = false) (hls : R.ls = []) (ht12 : R.ts.length < 12) (hok : okTable zs vars rows way = true)
    (hvs : IntsAt W vo vars) (hrs : RowsAt W ro rows) :
    Calls Tryz.prog 79 #[.pointer (some ⟨Y, 0, none⟩), .agg #[.slice vo vars.length vcap, .slice ro rows.length rcap, .bool nt, .int .i64 way]] w fun e w' => e = .returned (.int .i64 0) ∧ ∃ now tv d, RAt W w' lo Y zs { R with now := now, tv := tv, ts := R.ts ++ [⟨⟨vars, rows, nt⟩, way⟩] } ∧ Fr (R.wr Y) w w' ∧ (∀ k, RS.own Y { R with now := now, tv := tv, ts := R.ts ++ [⟨⟨vars, rows, nt⟩, way⟩] } k → R.own Y k ∨ w.heap.size ≤ k) ∧ Dm d ∧ Closure zs.length ((R.ts ++ [(⟨⟨vars, rows, nt⟩, way⟩ : TbW)]).map TbW.tb) (domB R.now.bss) d ∧ LinkD zs.length now d := by
  obtain ⟨B, hB⟩ : ∃ B, B = w.heap.size := ⟨_, rfl⟩
  obtain ⟨V, hV⟩ : ∃ V, V = w.alloc (.cells #[.slice vo vars.length vcap, .slice ro rows.length rcap, .bool nt, .int .i64 way] 41) := ⟨_, rfl⟩
  have hfV : Nw w V := by rw [hV]; exact (Fr.refl _ w).alloc _
  have hbB : Blk V B #[.slice vo vars.length vcap, .slice ro rows.length rcap, .bool nt, .int .i64 way] 41 := by rw [hV, hB]; exact Blk.new _ _ _
  have hRV := hR.nw hfV
  obtain ⟨_, hv1, hr60, hVO, _⟩ := okTable_parts hok (okSizes_len hR.rin.zok).2
  have hv4 := hVO.four
  have Hcall := hd (refTable_any lo Y zs R.szv R.now.inv R.now.vs R.now.bss R.now.dead R.tv R.lv vo ro vcap rcap vars rows nt way V (by omega) (by omega) hRV.rin ((hvs.nw hW).nw hfV) ((hrs.nw hW).nw hfV))
  rw [hok] at Hcall
  obtain ⟨cells, ht1, ht2⟩ := hRV.tabs
  obtain ⟨tto, tcap, htv⟩ := owns_form ht1
  have hll := hR.lrow
  obtain ⟨llo, lcap, hlv⟩ := owns_form hll
  rw [hls] at hlv
  have c0 : V.cell? ⟨B, 0, none⟩ = some (.slice vo vars.length vcap) := hbB.cell 0
  have c1 : V.cell? ⟨B, 1, none⟩ = some (.slice ro rows.length rcap) := hbB.cell 1
  have c2 : V.cell? ⟨B, 2, none⟩ = some (.bool nt) := hbB.cell 2
  have c3 : V.cell? ⟨B, 3, none⟩ = some (.int .i64 way) := hbB.cell 3
  have hBl := hbB.lt
  have HR := hd hRV
  have HR0 := hd hR
  have HfV := hd hfV
  have HbB := hd hbB
  have Hb0 := hd hB
  have HW := hd hW
  have Ht1 := hd ht1
  have Ht2 := hd ht2
  have Hlv := hd hlv
  have Htv := hd htv
  have Hdd := hd hdd
  have Hls := hd hls
  have Hvs := hd hvs
  have Hrs := hd hrs
  have Hok := hd hok
  obtain ⟨i0, hi0, hz0, hz1, hz2⟩ := info_parts Tryz.infoTableR
  obtain ⟨tn, htn⟩ : ∃ tn, R.ts.length = tn := ⟨_, rfl⟩
  have Htn := hd htn
  rw [htn] at ht12
  clear hbB hfV hR hRV hvs hrs ht1 ht2 htv hlv hll hdd hls hW htn hok
  go_enter Tryz.func79, Tryz.ntmps79
  go_upto_region 1 with fail
  rw [← hV, ← hB]
  clear hV hB
  go_wp2_with fail
  refine Hcall.out.mono ?_
  rintro e w1 ⟨rfl, hf1⟩
  have HR1 := hd (HR.out.nw hf1)
  have HB1 := hd (HbB.out.nw hf1)
  have Hf1 := hd (HfV.out.trans hf1 (fun _ x => x.elim))
  have d2 : w1.cell? ⟨Y, 2, none⟩ = some (.bool false) := by
    have := HR1.out.rin.blk.cell 2
    rw [Hdd.out] at this
    exact this
  have d3 : w1.cell? ⟨Y, 3, none⟩ = some (.slice tto tn tcap) := by
    have := HR1.out.rin.blk.cell 3
    rw [Htv.out, Htn.out] at this
    exact this
  have d4 : w1.cell? ⟨Y, 4, none⟩ = some (.slice llo 0 lcap) := by
    have := HR1.out.rin.blk.cell 4
    rw [Hlv.out] at this
    exact this
  have hYl := HR1.out.rin.blk.lt
  have hown1 : w1.ownsRow 0 41 4 (.slice tto tn tcap) tn cells := by
    have := ownsRow.fr Ht1.out hf1 (fun _ _ x => x)
    rw [Htv.out, Htn.out] at this
    exact this
  have Hown1 := hd hown1
  clear hf1 Hcall c0 c1 c2 c3 hBl hown1
  have hd12 : ¬ ((12 : Int) ≤ (tn : Int)) := by omega
  have hBl := HB1.out.lt
  have e0 : w1.cell? ⟨B, 0, none⟩ = some (.slice vo vars.length vcap) := HB1.out.cell 0
  have e1 : w1.cell? ⟨B, 1, none⟩ = some (.slice ro rows.length rcap) := HB1.out.cell 1
  have e2 : w1.cell? ⟨B, 2, none⟩ = some (.bool nt) := HB1.out.cell 2
  have e3 : w1.cell? ⟨B, 3, none⟩ = some (.int .i64 way) := HB1.out.cell 3
  go_wp2_with fail
  have HtvB : Hid (∀ k, (Value.slice tto tn tcap).ownBlock = some k → k < B) := fun k hk => by
    have h1 : k < w.heap.size := by
      obtain ⟨cells0, h0, _⟩ := HR0.out.tabs
      refine (World.ownsRow.lt h0 k ?_).2
      rw [Htv.out, Htn.out]
      exact hk
    rw [Hb0.out]
    exact h1
  have HtvY : Hid (∀ k, (Value.slice tto tn tcap).ownBlock = some k → k ≠ Y) := fun k hk e => by
    obtain ⟨cur, hb⟩ := ownsRow.blk Hown1.out hk
    rw [e] at hb
    exact absurd (hb.inj HR1.out.rin.blk).2 (by decide)
  have hK0 : Fr (fun k => (Value.slice tto tn tcap).ownBlock = some k) w1 w1.drew := (Fr.refl _ w1).drew
  have hnB : ¬ (Value.slice tto tn tcap).ownBlock = some B := fun h => by
    have := HtvB.out B h
    omega
  have hnY : ¬ (Value.slice tto tn tcap).ownBlock = some Y := fun h => HtvY.out Y h rfl
  refine region_nU postReg 11 (fun w'' => Fr (fun k => (Value.slice tto tn tcap).ownBlock = some k) w1 w'') 10 (by kernel_rfl) (by kernel_rfl) (by kernel_rfl) ?_
  refine takeU_at (i := 0) (d := some 27) (v := .pointer (some ⟨Y, 0, none⟩)) (by kernel_rfl) (by kernel_rfl) (fun _ _ _ h => h) (fun w'' hS => by kernel_rfl) hK0 ?_
  refine takeU_at (i := 1) (d := some 28) (v := .pointer (some ⟨Y, 0, none⟩)) (by kernel_rfl) (by kernel_rfl) (fun _ _ _ h => h) (fun w'' hS => by kernel_rfl) hK0 ?_
  refine takeU_at (i := 2) (d := some 29) (v := .pointer (some ⟨Y, 0, none⟩)) (by kernel_rfl) (by kernel_rfl) (fun _ _ _ h => h) (fun w'' hS => by kernel_rfl) hK0 ?_
  refine takeU_at (i := 3) (d := some 30) (v := .pointer (some ⟨Y, 3, none⟩)) (by kernel_rfl) (by kernel_rfl) (fun _ _ _ h => h) (fun w'' hS => by kernel_rfl) hK0 ?_
  refine takeU_at (i := 4) (d := some 31) (v := .slice tto tn tcap) (by kernel_rfl) (by kernel_rfl) (fun _ _ _ h => h) (fun w'' hS => exec_load 80 (.tmp 30) (by kernel_rfl) (by kernel_rfl) (by kernel_rfl) ((hS.cell hYl hnY).trans d3)) hK0 ?_
  refine takeU_at (i := 5) (d := some 32) (v := .agg #[.slice vo vars.length vcap, .slice ro rows.length rcap, .bool nt, .int .i64 way]) (by kernel_rfl) (by kernel_rfl) (fun _ _ _ h => h) (fun w'' hS => exec_load4 41 (.tmp 3) (by kernel_rfl) (by kernel_rfl) (by kernel_rfl) (by kernel_rfl) ((hS.cell hBl hnB).trans e0) ((hS.cell hBl hnB).trans e1) ((hS.cell hBl hnB).trans e2) ((hS.cell hBl hnB).trans e3)) hK0 ?_
  obtain ⟨wa, hwa⟩ : ∃ wa, w1.drew.alloc (.cells #[.slice vo vars.length vcap, .slice ro rows.length rcap, .bool nt, .int .i64 way] 41) = wa := ⟨_, rfl⟩
  have hfa : Nw w1 wa := by rw [← hwa]; exact ((Fr.refl _ w1).drew).alloc _
  have hba : Blk wa w1.heap.size #[.slice vo vars.length vcap, .slice ro rows.length rcap, .bool nt, .int .i64 way] 41 := by rw [← hwa]; exact Blk.new _ _ _
  have hKa : Fr (fun k => (Value.slice tto tn tcap).ownBlock = some k) w1 wa := hfa.mono (fun _ x => x.elim)
  refine valueU_at (i := 6) (d := some 33) (v := .slice (some ⟨w1.heap.size, 0, none⟩) 1 1) (w' := wa) (by kernel_rfl) (by kernel_rfl) (by rw [← hwa]; kernel_rfl) (fun _ => hKa) ?_
  obtain ⟨v', wb, hrun, hA1, hA2, hA3⟩ := exec_appendN (c := 1) (ys := [.slice vo vars.length vcap, .slice ro rows.length rcap, .bool nt, .int .i64 way]) (ev := postEv (.slice tto tn tcap) (.slice (some ⟨w1.heap.size, 0, none⟩) 1 1)) (o := opAt postReg 7) (w := wa) 4 64 (.tmp 31) (.tmp 33) 80 (by kernel_rfl) (by kernel_rfl) (by kernel_rfl) Tryz.underlying80 hi0 hz0 hz1 hz2 rfl (by decide) (ownsRow.fr Hown1.out hfa (fun _ _ x => x)) rfl (blk_cells hba) (by simp [Value.oneCell']) (by unfold maxLen; omega) (by omega)
  obtain ⟨g', cap', rfl, hfb, hab, hltb⟩ := appS hA1 hA2 hA3
  have hKb : Fr (fun k => (Value.slice tto tn tcap).ownBlock = some k) w1 wb := hKa.trans hfb (fun i h => .inl h)
  refine valueU_at (i := 7) (d := some 34) (v := .slice (some ⟨g', 0, none⟩) (tn + 1) cap') (w' := wb) (by kernel_rfl) (by kernel_rfl) (Eq.trans (exec_same (s := .tmp 31) (y := .tmp 33) (t := 80) (by kernel_rfl) (by kernel_rfl)) hrun) (fun _ => hKb) ?_
  have hbY := HR1.out.rin.blk.fr hKb hnY
  refine valueU_at (i := 8) (d := some 35) (v := .pointer (some ⟨Y, 0, none⟩)) (w' := wb) (by kernel_rfl) (by kernel_rfl) (by kernel_rfl) (fun _ => hKb) ?_
  refine valueU_at (i := 9) (d := some 36) (v := .pointer (some ⟨Y, 3, none⟩)) (w' := wb) (by kernel_rfl) (by kernel_rfl) (by kernel_rfl) (fun _ => hKb) ?_
  refine skipU_at (i := 10) (d := none) (w' := wb.setCell ⟨Y, 3, none⟩ (.slice (some ⟨g', 0, none⟩) (tn + 1) cap')) (by kernel_rfl) (by kernel_rfl) (exec_storeU (old := R.tv) 80 (.tmp 36) (.tmp 34) (by kernel_rfl) (by kernel_rfl) (by kernel_rfl) rfl (by kernel_rfl) (hbY.cell 3) (hbY.free 3)) (fun h => absurd rfl h) ?_
  refine anyU_done (by kernel_rfl) (show _ from ?_) _
  simp only [Act.put, List.setIfInBounds_toArray, List.set_cons_zero, List.set_cons_succ]
  obtain ⟨w2, hw2⟩ : ∃ w2, wb.setCell ⟨Y, 3, none⟩ (.slice (some ⟨g', 0, none⟩) (tn + 1) cap') = w2 := ⟨_, rfl⟩
  have hfs : Fr (fun k => k = Y) wb w2 := by rw [← hw2]; exact (Fr.refl (fun k => k = Y) wb).setCell _ _ (.inl rfl)
  have hg'Y : g' ≠ Y := fun e => by
    obtain ⟨cur, hb⟩ := ownsRow.blk hA1 (k := g') rfl
    rw [e] at hb
    exact absurd (hb.inj hbY).2 (by decide)
  have hblk2 : Blk w2 Y #[R.szv, R.now.inv, .bool R.now.dead, .slice (some ⟨g', 0, none⟩) (tn + 1) cap', R.lv] 83 := by
    rw [← hw2]
    have := hbY.set 3 (.slice (some ⟨g', 0, none⟩) (tn + 1) cap')
    simpa using this
  have hr1 := HR1.out.rin
  have hr2 : RIn w2 lo Y zs R.szv R.now.inv R.now.vs R.now.bss R.now.dead (.slice (some ⟨g', 0, none⟩) (tn + 1) cap') R.lv := by
    have hnT : ∀ {q : Nat} {cur : Array Value} {e : TypeId}, Blk w1 q cur e → e ≠ 41 → ¬ (Value.slice tto tn tcap).ownBlock = some q := fun hq he h => by
      obtain ⟨cur', hb'⟩ := ownsRow.blk Hown1.out h
      exact he (hq.inj hb').2
    have hnY2 : ∀ {q : Nat} {cur : Array Value} {e : TypeId}, Blk wb q cur e → e ≠ 83 → ¬ q = Y := fun hq he h => by
      rw [h] at hq
      exact he (hq.inj hbY).2
    have b1 : Row wb R.szv 3 (zs.map (Value.int .i64)) := hr1.sz.fr hKb (fun k hk => by
      obtain ⟨cur, hb, _⟩ := hr1.sz.blk hk
      exact hnT hb (by decide))
    have b2 : Row wb R.now.inv 84 R.now.vs := hr1.inn.fr hKb (fun k hk => by
      obtain ⟨cur, hb, _⟩ := hr1.inn.blk hk
      exact hnT hb (by decide))
    have b3 : InRows wb lo R.now.vs R.now.bss := hr1.rows.fr hKb (fun k cur hs hb => hnT hb (by decide) hs)
    exact ⟨hblk2, b1.fr hfs (fun k hk => by
      obtain ⟨cur, hb, _⟩ := b1.blk hk
      exact hnY2 hb (by decide)), b2.fr hfs (fun k hk => by
      obtain ⟨cur, hb, _⟩ := b2.blk hk
      exact hnY2 hb (by decide)), b3.fr hfs (fun k cur hs hb => hnY2 hb (by decide) hs), hr1.len, hr1.each, hr1.zok, hr1.szlo, hr1.inlo, hr1.ylo⟩
  have hown2 : w2.ownsRow 0 41 4 (.slice (some ⟨g', 0, none⟩) (tn + 1) cap') (tn + 1) (cells ++ [.slice vo vars.length vcap, .slice ro rows.length rcap, .bool nt, .int .i64 way]) := ownsRow.fr hA1 hfs (fun k hk e => by
    cases hk
    exact hg'Y e)
  have htc : TCells W (cells ++ [.slice vo vars.length vcap, .slice ro rows.length rcap, .bool nt, .int .i64 way]) (R.ts ++ [⟨⟨vars, rows, nt⟩, way⟩]) := Ht2.out.snoc (by rw [Htn.out]; exact Hown1.out.1) ⟨⟨vars, rows, nt⟩, way⟩ vo ro vcap rcap Hvs.out Hrs.out
  have hlen : (R.ts ++ [(⟨⟨vars, rows, nt⟩, way⟩ : TbW)]).length = tn + 1 := by rw [List.length_append, Htn.out]; rfl
  have hwsz := HfV.out.size
  have hglo : lo ≤ g' := by
    rcases hab with h | h
    · exact HR1.out.tlo g' (by rw [Htv.out, Htn.out]; exact h)
    · have := hfa.size
      have := Hf1.out.size
      omega
  have hR2 : RAt W w2 lo Y zs { R with tv := .slice (some ⟨g', 0, none⟩) (tn + 1) cap', ts := R.ts ++ [⟨⟨vars, rows, nt⟩, way⟩] } := by
    refine ⟨hr2, ⟨_, by show w2.ownsRow 0 41 4 _ (R.ts ++ [(⟨⟨vars, rows, nt⟩, way⟩ : TbW)]).length _; rw [hlen]; exact hown2, htc⟩, by show (R.ts ++ [(⟨⟨vars, rows, nt⟩, way⟩ : TbW)]).length ≤ 12; rw [hlen]; omega, fun i hi => ?_, ?_, ?_, HR1.out.l20, HR1.out.apart, fun k hk => (by cases hk; exact hglo), HR1.out.llo⟩
    · have hi' : i < tn + 1 := by rw [← hlen]; exact hi
      by_cases he : i < R.ts.length
      · have e1 : (R.ts ++ [(⟨⟨vars, rows, nt⟩, way⟩ : TbW)]).getD i tbw0 = R.ts.getD i tbw0 := by simp only [List.getD]; rw [List.getElem?_append_left he]
        show okTable zs ((R.ts ++ [(⟨⟨vars, rows, nt⟩, way⟩ : TbW)]).getD i tbw0).tb.vars _ _ = true
        rw [e1]
        exact HR1.out.tok i he
      · obtain rfl : i = R.ts.length := by have := Htn.out; omega
        have e1 : (R.ts ++ [(⟨⟨vars, rows, nt⟩, way⟩ : TbW)]).getD R.ts.length tbw0 = ⟨⟨vars, rows, nt⟩, way⟩ := by simp [List.getD]
        show okTable zs ((R.ts ++ [(⟨⟨vars, rows, nt⟩, way⟩ : TbW)]).getD R.ts.length tbw0).tb.vars _ _ = true
        rw [e1]
        exact Hok.out
    · refine ownsRow.fr (ownsRow.fr HR1.out.lrow hKb (fun k hk h => ?_)) hfs (fun k hk h => ?_)
      · obtain ⟨cur, hb⟩ := ownsRow.blk HR1.out.lrow hk
        obtain ⟨cur', hb'⟩ := ownsRow.blk Hown1.out h
        exact absurd (hb.inj hb').2 (by decide)
      · obtain ⟨cur, hb⟩ := ownsRow.blk HR1.out.lrow hk
        rw [h] at hb
        exact absurd (hb.inj hr1.blk).2 (by decide)
    · intro l hl
      have : l ∈ R.ls := hl
      rw [Hls.out] at this
      cases this
  have HR2 := hd hR2
  have hf02 : Fr (R.wr Y) w w2 := ((Hf1.out.mono (fun _ x => x.elim)).trans hKb (fun i hi => .inl (.inr (.inr (.inl (by rw [Htv.out, Htn.out]; exact hi)))))).trans hfs (fun i hi => .inl (.inl hi))
  have Hf02 := hd hf02
  have Hg'n := hd (show R.tv.ownBlock = some g' ∨ w.heap.size ≤ g' from by
    rcases hab with h | h
    · exact .inl (by rw [Htv.out, Htn.out]; exact h)
    · right
      have := hfa.size
      have := Hf1.out.size
      omega)
  have hW2 : Nw W w2 := HW.out.trans hf02 (fun i hi => .inr (Nat.le_trans hlo (HR0.out.lo (.inl hi))))
  have Hclose := hd (close_any W lo Y zs R.szv R.now.inv R.now.vs R.now.bss R.now.dead (.slice (some ⟨g', 0, none⟩) (tn + 1) cap') R.lv (R.ts ++ [⟨⟨vars, rows, nt⟩, way⟩]) w2 hlo hW2 (by rw [hlen]; omega) hR2.tok hr2 hR2.rtabs hR2.tblk)
  rw [hw2]
  clear hR2 hf02 hW2 hr2 hr1 hown2 htc hlen hblk2 hg'Y hfs hw2 hbY hKb hfb hab hltb hA1 hA2 hA3 hrun hKa hba hfa hwa hK0 hnB hnY d2 d3 d4 e0 e1 e2 e3 hYl hBl HtvB HtvY hglo hwsz
  go_wp2_with fail
  refine Hclose.out.mono ?_
  rintro e w3 ⟨rfl, b', h1, h2, h3, h4, h5⟩
  rw [Hdd.out, Bool.false_or] at h1
  have Hfin := hd (show ∃ now tv d, RAt W w3 lo Y zs { R with now := now, tv := tv, ts := R.ts ++ [⟨⟨vars, rows, nt⟩, way⟩] } ∧ Fr (R.wr Y) w w3 ∧ (∀ k, RS.own Y { R with now := now, tv := tv, ts := R.ts ++ [⟨⟨vars, rows, nt⟩, way⟩] } k → R.own Y k ∨ w.heap.size ≤ k) ∧ Dm d ∧ Closure zs.length ((R.ts ++ [(⟨⟨vars, rows, nt⟩, way⟩ : TbW)]).map TbW.tb) (domB R.now.bss) d ∧ LinkD zs.length now d from by
    obtain ⟨d, k1, k2, k3⟩ := link_close (inv := R.now.inv) (vs := R.now.vs) (okSizes_len HR0.out.rin.zok).1 h1.len h1.in8 h1.b6 h3 h4
    refine ⟨_, _, d, HR2.out.renow h5 h1, Hf02.out.trans h5 (fun i hi => .inl (hi.elim .inl (fun h => .inr (.inl h)))), fun k hk => ?_, k1, k2, k3⟩
    rcases hk with (rfl | hk | hk | hk) | hk | hk | hk
    · exact .inl (.inl (.inl rfl))
    · exact .inl (.inl (.inr (.inl hk)))
    · cases hk
      rcases Hg'n.out with h | h
      · exact .inl (.inl (.inr (.inr (.inl h))))
      · exact .inr h
    · exact .inl (.inl (.inr (.inr (.inr hk))))
    · exact .inl (.inr (.inl hk))
    · exact .inl (.inr (.inr (.inl hk)))
    · exact .inl (.inr (.inr (.inr hk))))
  clear h1 h2 h3 h4 h5 Hclose
  go_wp2_with fail
  go_ret
  exact ⟨rfl, Hfin.out⟩
end Go.Proofs.YtkjfpdfkcfgfkaaGreat

/- The program's calls and the document's, one behind the other: Fix, Remove, Pop, Look, Domain. -/
namespace Go.Proofs.YtkjfpdfkcfgfkaaGreat
open Go.RowKit

/-- What is around a pair. -/
structure Env (W w : World) (lo : Nat) : Prop where
  base : W.heap.size ≤ lo
  nw : Nw W w
  le : lo ≤ w.heap.size
theorem Env.step {W w w' : World} {lo : Nat} (h : Env W w lo) (f : Nw w w') : Env W w' lo := ⟨h.base, h.nw.trans f (fun _ x => x.elim), Nat.le_trans h.le f.size⟩
/-- The document's call, behind the program's; its answer is the same. -/
def Next (bz : Bool) (W w w1 : World) (lo X Y : Nat) (zs : List Int) (s : WS) (R : RS) (f : FuncId) (args : Array Value) (r : Value) : Prop :=
  ∀ w2, Nw w1 w2 → Calls Tryz.prog f args w2 fun e w3 => e = .returned r ∧ ∃ s' R', Pair bz W w3 lo X Y zs s' R' ∧ PStep w w3 X Y s s' R R' ∧ Nw W w3
/-- Where both refuse. -/
theorem next_no {bz : Bool} {W w w1 : World} {lo X Y : Nat} {zs : List Int} {s : WS} {R : RS} {f : FuncId} {args : Array Value} {r : Value} (hE : Env W w lo) (h : Pair bz W w lo X Y zs s R) (k : Nw w w1) (hc : ∀ w2, Nw w w2 → Calls Tryz.prog f args w2 fun e w3 => e = .returned r ∧ Nw w2 w3) : Next bz W w w1 lo X Y zs s R f args r := fun w2 f2 => by
  have k2 := k.trans f2 (fun _ x => x.elim)
  refine (hc w2 k2).mono ?_
  rintro e w3 ⟨rfl, f3⟩
  have k3 := k2.trans f3 (fun _ x => x.elim)
  exact ⟨rfl, s, R, h.nw k3, PStep.nw k3 X Y s R, hE.nw.trans k3 (fun _ x => x.elim)⟩
theorem fault_cases (zs : List Int) (d : List Nat) (v value : Int) : (faultOf zs d v value = 1 ∧ ¬ (0 ≤ v ∧ v < zs.length ∧ 0 ≤ value ∧ value < zs.getD v.toNat 0)) ∨ (∃ v' x' : Nat, v = (v' : Int) ∧ value = (x' : Int) ∧ v' < zs.length ∧ (x' : Int) < zs.getD v' 0 ∧ faultOf zs d v value = if d.getD 0 0 = 0 then 3 else 0) := by
  unfold faultOf
  by_cases h : 0 ≤ v ∧ v < zs.length ∧ 0 ≤ value ∧ value < zs.getD v.toNat 0
  · rw [if_pos h]
    obtain ⟨h1, h2, h3, h4⟩ := h
    obtain ⟨v', rfl⟩ : ∃ v' : Nat, v = (v' : Int) := ⟨v.toNat, by omega⟩
    obtain ⟨x', rfl⟩ : ∃ x' : Nat, value = (x' : Int) := ⟨value.toNat, by omega⟩
    rw [Int.toNat_natCast] at h4
    exact .inr ⟨v', x', rfl, rfl, by omega, h4, rfl⟩
  · rw [if_neg h]
    exact .inl ⟨rfl, h⟩
theorem fix_two {W w : World} {lo X Y : Nat} {zs : List Int} {s : WS} {R : RS} (v value : Int) (hE : Env W w lo) (h : Pair false W w lo X Y zs s R) :
    Calls Tryz.prog 56 #[.pointer (some ⟨X, 0, none⟩), .int .i64 v, .int .i64 value] w fun e w1 => ∃ r : Int, e = .returned (.int .i64 r) ∧ Fr (s.own X) w w1 ∧ Next false W w w1 lo X Y zs s R 58 #[.pointer (some ⟨Y, 0, none⟩), .int .i64 v, .int .i64 value, .bool true] (.int .i64 r) := by
  have hpos : 0 < zs.length := (okSizes_len h.at_.mem.zok).1
  rcases fault_cases zs s.d v value with ⟨hf, hno⟩ | ⟨v, value, rfl, rfl, hv, hx, hf⟩
  · refine (fix_no X zs s v value w h.at_ h.busy (by rw [hf]; decide)).mono ?_
    rintro e w1 ⟨rfl, rfl⟩
    rw [hf]
    refine ⟨1, rfl, Fr.refl _ _, next_no hE h (Fr.refl _ _) (fun w2 f2 => ?_)⟩
    refine (refTake_arg lo Y zs R.szv R.now.inv R.now.vs R.now.bss R.now.dead R.tv R.lv v value true w2 (h.ref.nw f2).rin hno).mono ?_
    rintro e w3 ⟨rfl, rfl⟩
    exact ⟨rfl, Fr.refl _ _⟩
  · by_cases h0 : s.d.getD 0 0 = 0
    · rw [if_pos h0] at hf
      have hdd := (h.now.iff hpos).1 h0
      refine (fix_no X zs s v value w h.at_ h.busy (by rw [hf]; decide)).mono ?_
      rintro e w1 ⟨rfl, rfl⟩
      rw [hf]
      refine ⟨3, rfl, Fr.refl _ _, next_no hE h (Fr.refl _ _) (fun w2 f2 => ?_)⟩
      have hr := (h.ref.nw f2).rin
      rw [hdd] at hr
      refine (refTake_dead lo Y zs R.szv R.now.inv R.now.vs R.now.bss R.tv R.lv v value true w2 hr hv hx).mono ?_
      rintro e w3 ⟨rfl, rfl⟩
      exact ⟨rfl, Fr.refl _ _⟩
    · rw [if_neg h0] at hf
      obtain ⟨hdd, hsd⟩ : R.now.dead = false ∧ s.d = domB R.now.bss := by
        rcases h.now with ⟨h1, h2⟩ | ⟨h1, h2, _⟩
        · rw [h2, zero8_get] at h0
          exact absurd rfl h0
        · exact ⟨h1, h2⟩
      refine (fix_yes X zs s v value w h.at_ h.busy hf).mono ?_
      rintro e w1 ⟨rfl, d', bv, ts, us, h1, h2, h3, h4⟩
      have hW1 : Nw W w1 := hE.nw.trans h4.fr (fun i hi => .inr (Nat.le_trans hE.base (h.xlo i hi)))
      refine ⟨0, rfl, h4.fr, fun w2 f2 => ?_⟩
      refine (take_ref hE.base (hW1.trans f2 (fun _ x => x.elim)) (h.mid h4 f2) hdd hv hx).mono ?_
      rintro e w3 ⟨rfl, now, d, k1, k2, k3, k4, k5, k6⟩
      refine ⟨rfl, _, _, h.join hE.base hE.nw hE.le h3 h4 f2 k1 k2 rfl (fun q hq => .inl (k3 q hq)) h.busy ?_ h.tabs h.levs⟩
      have hr := h.ref.rin
      rw [struck_fix hr.in8 hr.b6 (by rw [hr.len]; exact hv) (by rw [hr.each v hv]; exact Nat.le_refl _), ← hsd, ← h.tabs] at k5
      rw [show (s.set d' bv ts us).d = d from h1.one h2 k4 k5]
      exact k6
theorem remove_two {W w : World} {lo X Y : Nat} {zs : List Int} {s : WS} {R : RS} (v value : Int) (hE : Env W w lo) (h : Pair false W w lo X Y zs s R) :
    Calls Tryz.prog 13 #[.pointer (some ⟨X, 0, none⟩), .int .i64 v, .int .i64 value] w fun e w1 => ∃ r : Int, e = .returned (.int .i64 r) ∧ Fr (s.own X) w w1 ∧ Next false W w w1 lo X Y zs s R 58 #[.pointer (some ⟨Y, 0, none⟩), .int .i64 v, .int .i64 value, .bool false] (.int .i64 r) := by
  have hpos : 0 < zs.length := (okSizes_len h.at_.mem.zok).1
  rcases fault_cases zs s.d v value with ⟨hf, hno⟩ | ⟨v, value, rfl, rfl, hv, hx, hf⟩
  · refine (remove_no X zs s v value w h.at_ h.busy (by rw [hf]; decide)).mono ?_
    rintro e w1 ⟨rfl, rfl⟩
    rw [hf]
    refine ⟨1, rfl, Fr.refl _ _, next_no hE h (Fr.refl _ _) (fun w2 f2 => ?_)⟩
    refine (refTake_arg lo Y zs R.szv R.now.inv R.now.vs R.now.bss R.now.dead R.tv R.lv v value false w2 (h.ref.nw f2).rin hno).mono ?_
    rintro e w3 ⟨rfl, rfl⟩
    exact ⟨rfl, Fr.refl _ _⟩
  · by_cases h0 : s.d.getD 0 0 = 0
    · rw [if_pos h0] at hf
      have hdd := (h.now.iff hpos).1 h0
      refine (remove_no X zs s v value w h.at_ h.busy (by rw [hf]; decide)).mono ?_
      rintro e w1 ⟨rfl, rfl⟩
      rw [hf]
      refine ⟨3, rfl, Fr.refl _ _, next_no hE h (Fr.refl _ _) (fun w2 f2 => ?_)⟩
      have hr := (h.ref.nw f2).rin
      rw [hdd] at hr
      refine (refTake_dead lo Y zs R.szv R.now.inv R.now.vs R.now.bss R.tv R.lv v value false w2 hr hv hx).mono ?_
      rintro e w3 ⟨rfl, rfl⟩
      exact ⟨rfl, Fr.refl _ _⟩
    · rw [if_neg h0] at hf
      obtain ⟨hdd, hsd⟩ : R.now.dead = false ∧ s.d = domB R.now.bss := by
        rcases h.now with ⟨h1, h2⟩ | ⟨h1, h2, _⟩
        · rw [h2, zero8_get] at h0
          exact absurd rfl h0
        · exact ⟨h1, h2⟩
      refine (remove_yes X zs s v value w h.at_ h.busy hf).mono ?_
      rintro e w1 ⟨rfl, d', bv, ts, us, h1, h2, h3, h4⟩
      have hW1 : Nw W w1 := hE.nw.trans h4.fr (fun i hi => .inr (Nat.le_trans hE.base (h.xlo i hi)))
      refine ⟨0, rfl, h4.fr, fun w2 f2 => ?_⟩
      refine (take_ref hE.base (hW1.trans f2 (fun _ x => x.elim)) (h.mid h4 f2) hdd hv hx).mono ?_
      rintro e w3 ⟨rfl, now, d, k1, k2, k3, k4, k5, k6⟩
      refine ⟨rfl, _, _, h.join hE.base hE.nw hE.le h3 h4 f2 k1 k2 rfl (fun q hq => .inl (k3 q hq)) h.busy ?_ h.tabs h.levs⟩
      have hr := h.ref.rin
      rw [struck_rem hr.in8 hr.b6 (by rw [hr.len]; exact hv) (by omega), ← hsd, ← h.tabs] at k5
      rw [show (s.set d' bv ts us).d = d from h1.one h2 k4 k5]
      exact k6
/-- The document's Pop, where it is done. -/
theorem flatL : ∀ (L : List RL), (L.flatMap RL.cells).length = L.length * 2
  | [] => rfl
  | l :: L => by
    rw [List.flatMap_cons, List.length_append, flatL L, List.length_cons]
    show 2 + _ = _
    omega
theorem pop_ref {W w : World} {lo Y : Nat} {zs : List Int} {R : RS} {l : RL} {ls : List RL} (h : RAt W w lo Y zs R) (hl : R.ls = l :: ls) :
    Calls Tryz.prog 64 #[.pointer (some ⟨Y, 0, none⟩)] w fun e w' => e = .returned (.int .i64 0) ∧ ∃ lv', RAt W w' lo Y zs { R with now := l, lv := lv', ls := ls } ∧ Fr (R.wr Y) w w' ∧ (∀ k, RS.own Y { R with now := l, lv := lv', ls := ls } k → R.own Y k) := by
  have hlr := h.lrow
  rw [hl, List.length_cons, List.reverse_cons, List.flatMap_append] at hlr
  have hcut := flatL ls.reverse
  rw [List.length_reverse] at hcut
  have hlL := h.levs l (by rw [hl]; simp)
  have hz := okSizes_len h.rin.zok
  obtain ⟨lg, lcap, hlv, hlgt, hcap, c0⟩ := owns_cell hlr (ls.length * 2) (by omega)
  obtain ⟨_, _, hlv', _, _, c1⟩ := owns_cell hlr (ls.length * 2 + 1) (by omega)
  rw [hlv] at hlv'
  simp only [Value.slice.injEq, Option.some.injEq, Addr.mk.injEq, and_true, true_and] at hlv'
  rw [← hlv'.1] at c1
  rw [List.getElem?_append_right (by omega), hcut, Nat.sub_self] at c0
  rw [List.getElem?_append_right (by omega), hcut, Nat.add_sub_cancel_left] at c1
  have c0' : w.cell? ⟨lg, ls.length * 2, none⟩ = some l.inv := c0
  have c1' : w.cell? ⟨lg, ls.length * 2 + 1, none⟩ = some (.bool l.dead) := c1
  have hb := h.rin.blk
  obtain ⟨io, ic, hif, hio⟩ := hlL.inn.form
  have hvl : 0 < l.vs.length := by rw [hlL.rows.len, hlL.len]; exact hz.1
  obtain ⟨ig, icap, hig, _⟩ : ∃ ig icap, l.inv = .slice (some ⟨ig, 0, none⟩) l.vs.length icap ∧ True := by
    obtain ⟨g, c, he, _⟩ := hlL.inn.cell 0 hvl
    exact ⟨g, c, he, trivial⟩
  rw [hig] at c0'
  rw [hlv] at hb
  have h20 := h.l20
  rw [hl, List.length_cons] at h20
  have hlY : lg ≠ Y := fun e => by
    obtain ⟨cur, hb'⟩ := ownsRow.blk hlr (k := lg) (by rw [hlv]; rfl)
    rw [e] at hb'
    exact absurd (hb'.inj hb).2 (by decide)
  refine (refPop_yes Y R.szv R.now.inv R.tv R.now.dead l.dead lg ls.length lcap ig l.vs.length icap w hb hlY c0' c1' (by omega) hcap).mono ?_
  rintro e w' ⟨rfl, hB, hF⟩
  obtain ⟨cells, t1, t2⟩ := h.tabs
  have hYn : ∀ {q : Nat} {cur : Array Value} {e : TypeId}, Blk w q cur e → e ≠ 83 → ¬ q = Y := fun hq he e => by
    rw [e] at hq
    exact he (hq.inj hb).2
  have hLf : ∀ l' ∈ R.ls, RLAt w' lo zs l' := fun l' hl' => (h.levs l' hl').fr hF (fun k hk => by
    obtain ⟨cur, hb'⟩ := (h.levs l' hl').bool hk
    exact hYn hb' (by decide)) (fun k hk => by
    obtain ⟨cur, hb', _⟩ := (h.levs l' hl').inn.blk hk
    exact hYn hb' (by decide))
  have hl' := hLf l (by rw [hl]; simp)
  rw [hlv] at hlr
  refine ⟨rfl, .slice (some ⟨lg, 0, none⟩) ls.length lcap, ⟨?_, ⟨cells, ownsRow.fr t1 hF (fun k hk => ?_), t2⟩, h.t12, h.tok, ?_, fun l' hl' => hLf l' (by rw [hl]; simp [hl']), by show ls.length ≤ 20; omega, ?_, h.tlo, fun k hk => h.llo k (by rw [hlv]; exact hk)⟩, hF.mono (fun q hq => .inl (.inl hq)), fun k hk => ?_⟩
  · rw [← hig] at hB
    exact ⟨hB, h.rin.sz.fr hF (fun k hk => by
      obtain ⟨cur, hb', _⟩ := h.rin.sz.blk hk
      exact hYn hb' (by decide)), hl'.inn, hl'.rows, hl'.len, hl'.each, h.rin.zok, h.rin.szlo, hl'.inlo, h.rin.ylo⟩
  · obtain ⟨cur, hb'⟩ := ownsRow.blk t1 hk
    exact hYn hb' (by decide)
  · refine ownsRow.fr (owns_cut hlr (by rw [flatL, List.length_reverse])) hF (fun k hk => ?_)
    obtain ⟨cur, hb'⟩ := ownsRow.blk hlr (k := k) (by cases hk; rfl)
    exact hYn hb' (by decide)
  · have := h.apart
    rw [hl] at this
    exact (List.pairwise_cons.1 this).2
  · rcases hk with (rfl | hk | hk | hk) | hk | hk | ⟨l', hl', hk⟩
    · exact .inl (.inl rfl)
    · exact .inr (.inr (.inr ⟨l, by rw [hl]; simp, .inl hk⟩))
    · exact .inl (.inr (.inr (.inl hk)))
    · exact .inl (.inr (.inr (.inr (by rw [hlv]; exact hk))))
    · exact .inr (.inl hk)
    · exact .inr (.inr (.inr ⟨l, by rw [hl]; simp, .inr hk⟩))
    · exact .inr (.inr (.inr ⟨l', by rw [hl]; exact List.mem_cons_of_mem _ hl', hk⟩))
theorem pop_two {W w : World} {lo X Y : Nat} {zs : List Int} {s : WS} {R : RS} (hE : Env W w lo) (h : Pair false W w lo X Y zs s R) :
    Calls Tryz.prog 62 #[.pointer (some ⟨X, 0, none⟩)] w fun e w1 => ∃ r : Int, e = .returned (.int .i64 r) ∧ Fr (s.own X) w w1 ∧ Next false W w w1 lo X Y zs s R 64 #[.pointer (some ⟨Y, 0, none⟩)] (.int .i64 r) := by
  have hlev := h.levs
  cases hls : R.ls with
  | nil =>
    rw [hls] at hlev
    have hsk : s.sk = [] := List.eq_nil_of_length_eq_zero (by rw [← hlev.len]; rfl)
    refine (wpop_no X zs s w h.at_ h.busy hsk).mono ?_
    rintro e w1 ⟨rfl, rfl⟩
    refine ⟨4, rfl, Fr.refl _ _, next_no hE h (Fr.refl _ _) (fun w2 f2 => ?_)⟩
    have hr := (h.ref.nw f2).rin.blk
    obtain ⟨llo, lcap, hlv⟩ := owns_form h.ref.lrow
    rw [hlv, hls] at hr
    refine (refPop_no Y R.szv R.now.inv R.tv R.now.dead llo lcap w2 hr).mono ?_
    rintro e w3 ⟨rfl, rfl⟩
    exact ⟨rfl, Fr.refl _ _⟩
  | cons l ls =>
    rw [hls] at hlev
    cases hsk : s.sk with
    | nil =>
      rw [hsk] at hlev
      exact hlev.elim
    | cons p r =>
      rw [hsk] at hlev
      obtain ⟨n, p⟩ := p
      refine (wpop_yes X zs s n p r w h.at_ h.busy hsk).mono ?_
      rintro e w1 ⟨rfl, ts, bv, sv, h1, h2, h3, h4⟩
      have hW1 : Nw W w1 := hE.nw.trans h4.fr (fun i hi => .inr (Nat.le_trans hE.base (h.xlo i hi)))
      refine ⟨0, rfl, h4.fr, fun w2 f2 => ?_⟩
      refine (pop_ref (h.mid h4 f2) hls).mono ?_
      rintro e w3 ⟨rfl, lv', k1, k2, k3⟩
      exact ⟨rfl, _, _, h.join hE.base hE.nw hE.le h3 h4 f2 k1 k2 rfl (fun q hq => .inl (k3 q hq)) h.busy hlev.1 h.tabs hlev.2⟩
end Go.Proofs.YtkjfpdfkcfgfkaaGreat

/- The document's answer: Push. -/
namespace Go.Proofs.YtkjfpdfkcfgfkaaGreat
open Go.RowKit

theorem Tryz.infoLevelR : (Tryz.prog.info? 147).map (fun i => (i.zero, i.size, i.bytes)) = some (some (.agg #[.slice none 0 0, .bool false]), 2, 32) := by kernel_rfl
section
variable {P : Program} {Q : Exit → Act → World → Prop} {S : World → Prop} {ops : Array Oper}
theorem enterU_at {z i : Nat} {d : Option Tmp} {fuel : Nat} {listed : Array Bool} {a : Act} {w w' : World} {f : FuncId} {args : Array Value} (hB : oneB ops listed i d = true) (hw : Region.wanted (opAt ops i) (yielded ops a.tmps) = true)
    (hr : (execOp a.eval (opAt ops i)).run P w = .ok (.enter f args) w')
    (h : Calls P f args w' (fun e w'' => ∃ v, e = .returned v ∧ (i ≠ z → S w'') ∧ wpAnyU P .any ops Q S z fuel (listed.setIfInBounds i true) (a.put d v) w'')) : wpAnyU P .any ops Q S z (fuel + 1) listed a w := by
  simp only [oneB, Bool.and_eq_true, decide_eq_true_eq] at hB
  obtain ⟨⟨h3, h4⟩, h5⟩ := hB
  subst h5
  exact anyU_one h3 (op_enter (opAt_of h4) hw hr h)
end
noncomputable def pushReg : Array Oper := regOps Tryz.f63 3
def pushEv (x y : Value) : Operand → Value
  | .tmp 13 => x
  | .tmp _ => y
  | _ => undef

set_option maxHeartbeats 1600000 in
set_option maxRecDepth 1000000 in
theorem refPush_no (Y : Nat) (szv inv tv : Value) (dead : Bool) (llo : Option Addr) (lcap : Nat) (w : World) (hb : Blk w Y #[szv, inv, .bool dead, tv, .slice llo 20 lcap] 83) :
    Calls Tryz.prog 63 #[.pointer (some ⟨Y, 0, none⟩)] w fun e w' => e = .returned (.int .i64 2) ∧ w' = w := by
  have c4 : w.cell? ⟨Y, 4, none⟩ = some (.slice llo 20 lcap) := hb.cell 4
  have hYl := hb.lt
  go_enter Tryz.func63, Tryz.ntmps63
  go_wp2_with fail
  go_ret
  exact ⟨rfl, rfl⟩

set_option maxHeartbeats 1600000 in
set_option maxRecDepth 1000000 in
theorem refPush_yes (W : World) (lo Y : Nat) (zs : List Int) (R : RS) (w : World) (hlw : lo ≤ w.heap.size) (hR : RAt W w lo Y zs R) (h20 : R.ls.length < 20) :
    Calls Tryz.prog 63 #[.pointer (some ⟨Y, 0, none⟩)] w fun e w' => e = .returned (.int .i64 0) ∧ ∃ lv inv vs, RAt W w' lo Y zs { R with lv := lv, ls := ⟨inv, vs, R.now.bss, R.now.dead⟩ :: R.ls } ∧ Fr (R.wr Y) w w' ∧ (∀ k, RS.own Y { R with lv := lv, ls := ⟨inv, vs, R.now.bss, R.now.dead⟩ :: R.ls } k → R.own Y k ∨ w.heap.size ≤ k) := by
  obtain ⟨llo, lcap, hlv⟩ := owns_form hR.lrow
  obtain ⟨io, icap, hio, hBR, hcY⟩ := hR.rin.brows
  obtain ⟨i0, hi0, hz0, hz1, hz2⟩ := info_parts Tryz.infoLevelR
  have h1 : w.cell? ⟨Y, 4, none⟩ = some (.slice llo R.ls.length lcap) := by
    have := hR.rin.blk.cell 4
    rw [hlv] at this
    exact this
  have h2 : w.cell? ⟨Y, 2, none⟩ = some (.bool R.now.dead) := hR.rin.blk.cell 2
  have h6 : ∀ u, u < R.now.bss.length → 1 ≤ (R.now.bss.getD u []).length ∧ (R.now.bss.getD u []).length ≤ 6 := fun u hu => ⟨by
    rw [hR.rin.each u (by rw [← hR.rin.len]; exact hu)]
    have := (okSizes_get hR.rin.zok u (by rw [← hR.rin.len]; exact hu)).1
    omega, hR.rin.b6 u hu⟩
  have HBR := hd hBR
  have H6 := hd h6
  have H8 := hd hR.rin.in8
  have HR := hd hR
  have Hlv := hd hlv
  have hYl := hR.rin.blk.lt
  obtain ⟨n, hn⟩ : ∃ n, R.ls.length = n := ⟨_, rfl⟩
  obtain ⟨bss, hbss⟩ : ∃ bss, R.now.bss = bss := ⟨_, rfl⟩
  obtain ⟨dead, hdead⟩ : ∃ dead, R.now.dead = dead := ⟨_, rfl⟩
  rw [hn] at h1 h20 Hlv
  rw [hbss] at hcY HBR H6 H8
  rw [hdead] at h2
  have Hn := hd hn
  have Hbss := hd hbss
  have Hdead := hd hdead
  have hlY : ¬ (Value.slice llo n lcap).ownBlock = some Y := fun h => by
    obtain ⟨cur, hb⟩ := ownsRow.blk hR.lrow (k := Y) (by rw [Hlv.out]; exact h)
    exact absurd (hb.inj hR.rin.blk).2 (by decide)
  have hln : ¬ ((20 : Int) ≤ (n : Int)) := by omega
  clear hR hBR h6 hlv hn hbss hdead
  go_enter Tryz.func63, Tryz.ntmps63
  go_wp2_with fail
  have hK0 : Fr (fun k => (Value.slice llo n lcap).ownBlock = some k) w w.drew := (Fr.refl _ w).drew
  refine region_nU pushReg 20 (fun w'' => Fr (fun k => (Value.slice llo n lcap).ownBlock = some k) w w'') 19 (by kernel_rfl) (by kernel_rfl) (by kernel_rfl) ?_
  refine takeU_at (i := 0) (d := some 9) (v := .pointer (some ⟨Y, 0, none⟩)) (by kernel_rfl) (by kernel_rfl) (fun _ _ _ h => h) (fun w'' hS => by kernel_rfl) hK0 ?_
  refine takeU_at (i := 1) (d := some 10) (v := .pointer (some ⟨Y, 0, none⟩)) (by kernel_rfl) (by kernel_rfl) (fun _ _ _ h => h) (fun w'' hS => by kernel_rfl) hK0 ?_
  refine takeU_at (i := 2) (d := some 11) (v := .pointer (some ⟨Y, 0, none⟩)) (by kernel_rfl) (by kernel_rfl) (fun _ _ _ h => h) (fun w'' hS => by kernel_rfl) hK0 ?_
  refine takeU_at (i := 3) (d := some 12) (v := .pointer (some ⟨Y, 4, none⟩)) (by kernel_rfl) (by kernel_rfl) (fun _ _ _ h => h) (fun w'' hS => by kernel_rfl) hK0 ?_
  refine takeU_at (i := 4) (d := some 13) (v := .slice llo n lcap) (by kernel_rfl) (by kernel_rfl) (fun _ _ _ h => h) (fun w'' hS => exec_load 81 (.tmp 12) (by kernel_rfl) (by kernel_rfl) (by kernel_rfl) ((hS.cell hYl hlY).trans h1)) hK0 ?_
  refine takeU_at (i := 5) (d := some 14) (v := .pointer (some ⟨Y, 0, none⟩)) (by kernel_rfl) (by kernel_rfl) (fun _ _ _ h => h) (fun w'' hS => by kernel_rfl) hK0 ?_
  refine takeU_at (i := 6) (d := some 15) (v := .pointer (some ⟨Y, 0, none⟩)) (by kernel_rfl) (by kernel_rfl) (fun _ _ _ h => h) (fun w'' hS => by kernel_rfl) hK0 ?_
  refine takeU_at (i := 7) (d := some 16) (v := .pointer (some ⟨Y, 1, none⟩)) (by kernel_rfl) (by kernel_rfl) (fun _ _ _ h => h) (fun w'' hS => by kernel_rfl) hK0 ?_
  refine takeU_at (i := 8) (d := some 17) (v := .slice io bss.length icap) (by kernel_rfl) (by kernel_rfl) (fun _ _ _ h => h) (fun w'' hS => exec_load 79 (.tmp 16) (by kernel_rfl) (by kernel_rfl) (by kernel_rfl) ((hS.cell hYl hlY).trans hcY)) hK0 ?_
  refine takeU_at (i := 10) (d := some 19) (v := .pointer (some ⟨Y, 0, none⟩)) (by kernel_rfl) (by kernel_rfl) (fun _ _ _ h => h) (fun w'' hS => by kernel_rfl) hK0 ?_
  refine takeU_at (i := 11) (d := some 20) (v := .pointer (some ⟨Y, 0, none⟩)) (by kernel_rfl) (by kernel_rfl) (fun _ _ _ h => h) (fun w'' hS => by kernel_rfl) hK0 ?_
  refine takeU_at (i := 12) (d := some 21) (v := .pointer (some ⟨Y, 2, none⟩)) (by kernel_rfl) (by kernel_rfl) (fun _ _ _ h => h) (fun w'' hS => by kernel_rfl) hK0 ?_
  refine takeU_at (i := 13) (d := some 22) (v := .bool dead) (by kernel_rfl) (by kernel_rfl) (fun _ _ _ h => h) (fun w'' hS => exec_load 4 (.tmp 21) (by kernel_rfl) (by kernel_rfl) (by kernel_rfl) ((hS.cell hYl hlY).trans h2)) hK0 ?_
  refine enterU_at (i := 9) (d := some 18) (w' := w.drew) (f := 84) (args := #[.slice io bss.length icap]) (by kernel_rfl) (by kernel_rfl) (by kernel_rfl) ?_
  have hdr : Nw w w.drew := (Fr.refl _ w).drew
  refine (copied_any io icap bss w.drew H8.out H6.out (HBR.out.nw hdr)).mono ?_
  rintro e w1 ⟨v1, rfl, vs1, hM, hI⟩
  have hf1 : Nw w w1 := hdr.trans hM.nw (fun _ x => x.elim)
  have hK1 : Fr (fun k => (Value.slice llo n lcap).ownBlock = some k) w w1 := hf1.mono (fun _ x => x.elim)
  obtain ⟨o1, c1, hv1, _⟩ := hM.row.form
  have hone1 : v1.oneCell' = true := by rw [hv1]; rfl
  refine ⟨v1, rfl, fun _ => hK1, ?_⟩
  subst hv1
  refine valueU_at (i := 14) (d := some 23) (v := .agg #[.slice o1 vs1.length c1, .bool dead]) (w' := w1) (by kernel_rfl) (by kernel_rfl) (by kernel_rfl) (fun _ => hK1) ?_
  obtain ⟨wa, hwa⟩ : ∃ wa, w1.alloc (.cells #[.slice o1 vs1.length c1, .bool dead] 147) = wa := ⟨_, rfl⟩
  have hfa : Nw w1 wa := by rw [← hwa]; exact (Fr.refl _ w1).alloc _
  have hba : Blk wa w1.heap.size #[.slice o1 vs1.length c1, .bool dead] 147 := by rw [← hwa]; exact Blk.new _ _ _
  have hf1a : Nw w wa := hf1.trans hfa (fun _ x => x.elim)
  have hKa : Fr (fun k => (Value.slice llo n lcap).ownBlock = some k) w wa := hf1a.mono (fun _ x => x.elim)
  refine valueU_at (i := 15) (d := some 24) (v := .slice (some ⟨w1.heap.size, 0, none⟩) 1 1) (w' := wa) (by kernel_rfl) (by kernel_rfl) (by rw [← hwa]; kernel_rfl) (fun _ => hKa) ?_
  have hown : wa.ownsRow 0 147 2 (.slice llo n lcap) n (R.ls.reverse.flatMap RL.cells) := by
    have := ownsRow.fr HR.out.lrow hf1a (fun _ _ x => x)
    rw [Hlv.out, Hn.out] at this
    exact this
  obtain ⟨v', wb, hrun, hA1, hA2, hA3⟩ := exec_appendN (c := 1) (ys := [.slice o1 vs1.length c1, .bool dead]) (ev := pushEv (.slice llo n lcap) (.slice (some ⟨w1.heap.size, 0, none⟩) 1 1)) (o := opAt pushReg 16) (w := wa) 2 32 (.tmp 13) (.tmp 24) 81 (by kernel_rfl) (by kernel_rfl) (by kernel_rfl) Tryz.underlying81 hi0 hz0 hz1 hz2 rfl (by decide) hown rfl (blk_cells hba) (by simp [Value.oneCell']) (by unfold maxLen; omega) (by omega)
  obtain ⟨g', cap', rfl, hfb, hab, hltb⟩ := appS hA1 hA2 hA3
  have hKb : Fr (fun k => (Value.slice llo n lcap).ownBlock = some k) w wb := hKa.trans hfb (fun i h => .inl h)
  refine valueU_at (i := 16) (d := some 25) (v := .slice (some ⟨g', 0, none⟩) (n + 1) cap') (w' := wb) (by kernel_rfl) (by kernel_rfl) (Eq.trans (exec_same (s := .tmp 13) (y := .tmp 24) (t := 81) (by kernel_rfl) (by kernel_rfl)) hrun) (fun _ => hKb) ?_
  have hbY := HR.out.rin.blk.fr hKb hlY
  refine valueU_at (i := 17) (d := some 26) (v := .pointer (some ⟨Y, 0, none⟩)) (w' := wb) (by kernel_rfl) (by kernel_rfl) (by kernel_rfl) (fun _ => hKb) ?_
  refine valueU_at (i := 18) (d := some 27) (v := .pointer (some ⟨Y, 4, none⟩)) (w' := wb) (by kernel_rfl) (by kernel_rfl) (by kernel_rfl) (fun _ => hKb) ?_
  refine skipU_at (i := 19) (d := none) (w' := wb.setCell ⟨Y, 4, none⟩ (.slice (some ⟨g', 0, none⟩) (n + 1) cap')) (by kernel_rfl) (by kernel_rfl) (exec_storeU (old := R.lv) 81 (.tmp 27) (.tmp 25) (by kernel_rfl) (by kernel_rfl) (by kernel_rfl) rfl (by kernel_rfl) (hbY.cell 4) (hbY.free 4)) (fun h => absurd rfl h) ?_
  refine anyU_done (by kernel_rfl) (show _ from ?_) _
  simp only [Act.put, List.setIfInBounds_toArray, List.set_cons_zero, List.set_cons_succ]
  obtain ⟨w2, hw2⟩ : ∃ w2, wb.setCell ⟨Y, 4, none⟩ (.slice (some ⟨g', 0, none⟩) (n + 1) cap') = w2 := ⟨_, rfl⟩
  have hfs : Fr (fun k => k = Y) wb w2 := by rw [← hw2]; exact (Fr.refl (fun k => k = Y) wb).setCell _ _ (.inl rfl)
  have hg'Y : g' ≠ Y := fun e => by
    obtain ⟨cur, hb⟩ := ownsRow.blk hA1 (k := g') rfl
    rw [e] at hb
    exact absurd (hb.inj hbY).2 (by decide)
  have hblk2 : Blk w2 Y #[R.szv, R.now.inv, .bool R.now.dead, R.tv, .slice (some ⟨g', 0, none⟩) (n + 1) cap'] 83 := by
    rw [← hw2]
    have := hbY.set 4 (.slice (some ⟨g', 0, none⟩) (n + 1) cap')
    simpa using this
  -- what is neither Y nor the levels' block stays
  have hnT : ∀ {q : Nat} {cur : Array Value} {e : TypeId}, Blk wa q cur e → e ≠ 147 → ¬ (Value.slice llo n lcap).ownBlock = some q := fun hq he h => by
    obtain ⟨cur', hb'⟩ := ownsRow.blk hown h
    exact he (hq.inj hb').2
  have hnY2 : ∀ {q : Nat} {cur : Array Value} {e : TypeId}, Blk wb q cur e → e ≠ 83 → ¬ q = Y := fun hq he h => by
    rw [h] at hq
    exact he (hq.inj hbY).2
  have keepR : ∀ {v : Value} {e : TypeId} {sz k : Nat} {xs : List Value}, wa.ownsRow 0 e sz v k xs → e ≠ 147 → e ≠ 83 → w2.ownsRow 0 e sz v k xs := fun {v e sz k xs} h h1 h2 => by
    have hb : wb.ownsRow 0 e sz v k xs := ownsRow.fr h hfb (fun q hq => by
      obtain ⟨cur, hb⟩ := ownsRow.blk h hq
      exact hnT hb h1)
    exact ownsRow.fr hb hfs (fun q hq => by
      obtain ⟨cur, hb'⟩ := ownsRow.blk hb hq
      exact hnY2 hb' h2)
  have keepL : ∀ {l : RL}, RLAt wa lo zs l → RLAt w2 lo zs l := fun {l} h => ⟨keepR h.inn (by decide) (by decide), ⟨h.rows.len, fun i hi => keepR (h.rows.row i hi) (by decide) (by decide), h.rows.ne, h.rows.lo⟩, h.len, h.each, h.inlo⟩
  have hRa := HR.out.nw hf1a
  have hnow := keepL hRa.rin.lev
  have hnew : RLAt w2 lo zs ⟨.slice o1 vs1.length c1, vs1, R.now.bss, R.now.dead⟩ := by
    have hI2 : InRows w1 lo vs1 R.now.bss := by
      rw [Hbss.out]
      exact ⟨hI.len, hI.row, hI.ne, fun i hi k hk => Nat.le_trans hlw (hI.lo i hi k hk)⟩
    exact keepL ⟨hM.row.nw hfa, hI2.fr hfa (fun _ _ x => x.elim), HR.out.rin.len, HR.out.rin.each, fun k hk => Nat.le_trans hlw (hM.since k hk)⟩
  obtain ⟨cells, t1, t2⟩ := hRa.tabs
  have hglo : lo ≤ g' := by
    rcases hab with h | h
    · exact HR.out.llo g' (by rw [Hlv.out]; exact h)
    · have := hf1a.size
      omega
  have hnewHas : ∀ k, RL.has ⟨.slice o1 vs1.length c1, vs1, R.now.bss, R.now.dead⟩ k → w.heap.size ≤ k := fun k ⟨u, hu, hk⟩ => hI.lo u (by rw [← hI.len]; exact hu) k hk
  have hR2 : RAt W w2 lo Y zs { R with lv := .slice (some ⟨g', 0, none⟩) (n + 1) cap', ls := ⟨.slice o1 vs1.length c1, vs1, R.now.bss, R.now.dead⟩ :: R.ls } := by
    refine ⟨⟨hblk2, keepR hRa.rin.sz (by decide) (by decide), hnow.inn, hnow.rows, hnow.len, hnow.each, HR.out.rin.zok, HR.out.rin.szlo, HR.out.rin.inlo, HR.out.rin.ylo⟩, ⟨cells, keepR t1 (by decide) (by decide), t2⟩, HR.out.t12, HR.out.tok, ?_, ?_, ?_, ?_, HR.out.tlo, fun k hk => (by cases hk; exact hglo)⟩
    · show w2.ownsRow 0 147 2 _ (R.ls.length + 1) ((_ :: R.ls).reverse.flatMap RL.cells)
      rw [Hn.out, List.reverse_cons, List.flatMap_append]
      have := ownsRow.fr hA1 hfs (fun k hk e => by
        cases hk
        exact hg'Y e)
      rw [← Hdead.out] at this
      exact this
    · intro l hl
      rcases List.mem_cons.1 hl with rfl | hl
      · exact hnew
      · exact keepL (hRa.levs l hl)
    · show R.ls.length + 1 ≤ 20
      rw [Hn.out]
      omega
    · have ha := List.pairwise_cons.1 HR.out.apart
      refine List.pairwise_cons.2 ⟨fun b hb => ?_, List.pairwise_cons.2 ⟨fun b hb k hk hbk => ?_, ha.2⟩⟩
      · rcases List.mem_cons.1 hb with rfl | hb
        · intro k hk hbk
          obtain ⟨cur, hbl⟩ := HR.out.rin.lev.bool hk
          have := hbl.lt
          have := hnewHas k hbk
          omega
        · exact ha.1 b hb
      · obtain ⟨cur, hbl⟩ := (HR.out.levs b hb).bool hbk
        have := hbl.lt
        have := hnewHas k hk
        omega
  have Hfin := hd (show ∃ lv inv vs, RAt W w2 lo Y zs { R with lv := lv, ls := ⟨inv, vs, R.now.bss, R.now.dead⟩ :: R.ls } ∧ Fr (R.wr Y) w w2 ∧ (∀ k, RS.own Y { R with lv := lv, ls := ⟨inv, vs, R.now.bss, R.now.dead⟩ :: R.ls } k → R.own Y k ∨ w.heap.size ≤ k) from by
    refine ⟨_, _, _, hR2, (hKb.mono (fun i hi => .inl (.inr (.inr (.inr (by rw [Hlv.out]; exact hi)))))).trans hfs (fun i hi => .inl (.inl hi)), fun k hk => ?_⟩
    rcases hk with (rfl | hk | hk | hk) | hk | hk | ⟨l, hl, hk⟩
    · exact .inl (.inl (.inl rfl))
    · exact .inl (.inl (.inr (.inl hk)))
    · exact .inl (.inl (.inr (.inr (.inl hk))))
    · cases hk
      rcases hab with h | h
      · exact .inl (.inl (.inr (.inr (.inr (by rw [Hlv.out]; exact h)))))
      · right
        have := hf1a.size
        show w.heap.size ≤ g'
        omega
    · exact .inl (.inr (.inl hk))
    · exact .inl (.inr (.inr (.inl hk)))
    · rcases List.mem_cons.1 hl with rfl | hl
      · rcases hk with hk | hk
        · exact .inr (hnewHas k hk)
        · exact .inr (hM.since k hk)
      · exact .inl (.inr (.inr (.inr ⟨l, hl, hk⟩))))
  rw [hw2]
  clear hR2 hnow hnew keepL keepR hnT hnY2 hRa hblk2 hg'Y hfs hw2 hbY hKb hfb hab hltb hA1 hA2 hA3 hrun hKa hba hfa hwa hK0 h1 h2 hcY hYl hK1 hf1 hM hI hown hf1a hglo hnewHas t1 t2 hdr hlY
  go_wp2_with fail
  go_ret
  exact ⟨rfl, Hfin.out⟩
end Go.Proofs.YtkjfpdfkcfgfkaaGreat

/- The program's calls and the document's, one behind the other: Push, Post, Look, Domain. -/
namespace Go.Proofs.YtkjfpdfkcfgfkaaGreat
open Go.RowKit

theorem push_two {W w : World} {lo X Y : Nat} {zs : List Int} {s : WS} {R : RS} (hE : Env W w lo) (h : Pair false W w lo X Y zs s R) :
    Calls Tryz.prog 61 #[.pointer (some ⟨X, 0, none⟩)] w fun e w1 => ∃ r : Int, e = .returned (.int .i64 r) ∧ Fr (s.own X) w w1 ∧ Next false W w w1 lo X Y zs s R 63 #[.pointer (some ⟨Y, 0, none⟩)] (.int .i64 r) := by
  have hlen := h.levs.len
  have h20 := h.ref.l20
  by_cases hf : s.sk.length = 20
  · refine (wpush_no X zs s w h.at_ h.busy hf).mono ?_
    rintro e w1 ⟨rfl, rfl⟩
    refine ⟨2, rfl, Fr.refl _ _, next_no hE h (Fr.refl _ _) (fun w2 f2 => ?_)⟩
    have hr := (h.ref.nw f2).rin.blk
    obtain ⟨llo, lcap, hlv⟩ := owns_form h.ref.lrow
    rw [hlv, hlen, hf] at hr
    refine (refPush_no Y R.szv R.now.inv R.tv R.now.dead llo lcap w2 hr).mono ?_
    rintro e w3 ⟨rfl, rfl⟩
    exact ⟨rfl, Fr.refl _ _⟩
  · refine (wpush_yes X zs s w h.at_ h.busy (by omega)).mono ?_
    rintro e w1 ⟨rfl, sv, h3, h4⟩
    have hW1 : Nw W w1 := hE.nw.trans h4.fr (fun i hi => .inr (Nat.le_trans hE.base (h.xlo i hi)))
    refine ⟨0, rfl, h4.fr, fun w2 f2 => ?_⟩
    refine (refPush_yes W lo Y zs R w2 (Nat.le_trans hE.le (Nat.le_trans h4.fr.size f2.size)) (h.mid h4 f2) (by omega)).mono ?_
    rintro e w3 ⟨rfl, lv, inv, vs, k1, k2, k3⟩
    exact ⟨rfl, _, _, h.join hE.base hE.nw hE.le h3 h4 f2 k1 k2 rfl k3 h.busy h.now h.tabs ⟨h.now, h.levs⟩⟩
/-- What the program's Post did. -/
structure Did (zs : List Int) (s s' : WS) (vars : List Int) (rows : List (List Int)) (nt : Bool) (way r : Int) : Prop where
  num : r = postOf zs s vars rows way
  busy : s'.l.busy = s.l.busy
  no : r ≠ 0 → s' = s
  yes : r = 0 → s'.bs = s.bs ++ [⟨vars, rows, nt⟩] ∧ s'.sk = s.sk ∧ Dm s'.d ∧ Closure zs.length (s.bs ++ [⟨vars, rows, nt⟩]) s.d s'.d
theorem post_prog {X : Nat} {zs : List Int} {s : WS} {w : World} {vo ro : Option Addr} {vcap rcap : Nat} {vars : List Int} {rows : List (List Int)} {nt : Bool} {way : Int} (h : WAt w X zs s) (hbz : s.l.busy = false)
    (hl : vars.length * 8 ≤ 140737488355328) (hrl : rows.length * 24 ≤ 140737488355328) (hvcap : vars.length ≤ vcap) (hvs : IntsAt w vo vars) (hrs : RowsAt w ro rows) :
    Calls Tryz.prog 11 #[.pointer (some ⟨X, 0, none⟩), .agg #[.slice vo vars.length vcap, .slice ro rows.length rcap, .bool nt, .int .i64 way]] w fun e w' => ∃ (r : Int) (s' : WS), e = .returned (.int .i64 r) ∧ WAt w' X zs s' ∧ WStep w w' X s s' ∧ Did zs s s' vars rows nt way r := by
  by_cases h0 : postOf zs s vars rows way = 0
  · refine (post_yes X vo ro vcap rcap zs s vars rows nt way w h hbz hvcap hvs hrs h0).mono ?_
    rintro e w' ⟨rfl, so, tcap, x, d', bv, ts, us, h1, h2, h3, h4⟩
    exact ⟨0, _, rfl, h3, h4, h0.symm, rfl, fun h => absurd rfl h, fun _ => ⟨rfl, rfl, h2, h1⟩⟩
  · refine (post_no X vo ro vcap rcap zs s vars rows nt way w h hbz hl hrl hvcap hvs hrs h0).mono ?_
    rintro e w' ⟨rfl, hf⟩
    exact ⟨_, s, rfl, h.nw hf, WStep.nw hf X s, rfl, rfl, fun _ => rfl, fun h => absurd h h0⟩
/-- What the document's Post does then. -/
theorem post_doc {W w : World} {lo Y : Nat} {zs : List Int} {s s' : WS} {R : RS} {vo ro : Option Addr} {vcap rcap : Nat} {vars : List Int} {rows : List (List Int)} {nt : Bool} {way r : Int} (hlo : W.heap.size ≤ lo) (hlw : lo ≤ w.heap.size) (hW : Nw W w) (hR : RAt W w lo Y zs R) (hts : s.ts.length = s.bs.length)
    (hnow : LinkD zs.length R.now s.d) (htabs : s.bs = R.ts.map TbW.tb) (hlevs : LinkL zs.length R.ls s.sk) (hl : vars.length * 8 ≤ 140737488355328) (hrl : rows.length * 24 ≤ 140737488355328) (hvs : IntsAt W vo vars) (hrs : RowsAt W ro rows) (hd : Did zs s s' vars rows nt way r) :
    Calls Tryz.prog 79 #[.pointer (some ⟨Y, 0, none⟩), .agg #[.slice vo vars.length vcap, .slice ro rows.length rcap, .bool nt, .int .i64 way]] w fun e w' => e = .returned (.int .i64 r) ∧ ∃ R', RAt W w' lo Y zs R' ∧ Fr (R.wr Y) w w' ∧ (∀ k, R'.own Y k → R.own Y k ∨ w.heap.size ≤ k) ∧ R'.szv = R.szv ∧ LinkD zs.length R'.now s'.d ∧ s'.bs = R'.ts.map TbW.tb ∧ LinkL zs.length R'.ls s'.sk := by
  have hpos := (okSizes_len hR.rin.zok).1
  have htl : s.ts.length = R.ts.length := by rw [hts, htabs, List.length_map]
  have hll := hlevs.len
  have ht12 := hR.t12
  have hpR : postR zs vars rows way R.ts.length R.ls.length R.now.dead = r := by
    rw [hd.num]
    unfold postR postOf
    rw [htl, hll]
    by_cases h1 : okTable zs vars rows way = false
    · rw [if_pos h1, if_pos h1]
    · rw [if_neg h1, if_neg h1]
      by_cases h2 : R.ts.length = 12
      · rw [if_pos h2, if_pos (by omega)]
      · rw [if_neg h2, if_neg (by omega)]
        by_cases h3 : s.sk.length ≠ 0
        · rw [if_pos h3, if_pos (by omega)]
        · rw [if_neg h3, if_neg (by omega)]
          by_cases h4 : R.now.dead = true
          · rw [if_pos h4, if_pos ((hnow.iff hpos).2 h4)]
          · rw [if_neg h4, if_neg (fun h => h4 ((hnow.iff hpos).1 h))]
  obtain ⟨cells, t1, _⟩ := hR.tabs
  obtain ⟨tto, tcap, htv⟩ := owns_form t1
  obtain ⟨llo, lcap, hlv⟩ := owns_form hR.lrow
  by_cases h0 : r = 0
  · rw [h0] at hpR ⊢
    unfold postR at hpR
    by_cases h1 : okTable zs vars rows way = false
    · rw [if_pos h1] at hpR
      omega
    · rw [if_neg h1] at hpR
      by_cases h2 : 12 ≤ R.ts.length
      · rw [if_pos h2] at hpR
        omega
      · rw [if_neg h2] at hpR
        by_cases h3 : 0 < R.ls.length
        · rw [if_pos h3] at hpR
          omega
        · rw [if_neg h3] at hpR
          by_cases h4 : R.now.dead = true
          · rw [if_pos h4] at hpR
            omega
          · have hdd : R.now.dead = false := by simpa using h4
            have hsd : s.d = domB R.now.bss := by
              rcases hnow with ⟨h5, _⟩ | ⟨_, h5, _⟩
              · exact absurd h5 h4
              · exact h5
            obtain ⟨y1, y2, y3, y4⟩ := hd.yes h0
            refine (refPost_yes W lo Y zs R vo ro vcap rcap vars rows nt way w hlo hlw hW hR hdd (List.eq_nil_of_length_eq_zero (by omega)) (by omega) (by simpa using h1) hvs hrs).mono ?_
            rintro e w' ⟨rfl, now, tv, d, k1, k2, k3, k4, k5, k6⟩
            have e1 : s'.bs = (R.ts ++ [(⟨⟨vars, rows, nt⟩, way⟩ : TbW)]).map TbW.tb := by rw [y1, htabs, List.map_append]; rfl
            refine ⟨rfl, _, k1, k2, k3, rfl, ?_, e1, by rw [y2]; exact hlevs⟩
            rw [← e1, ← hsd] at k5
            rw [← y1] at y4
            rw [y4.one y3 k4 k5]
            exact k6
  · rw [hd.no h0]
    have hr := hR.rin
    rw [htv, hlv] at hr
    rw [← hpR]
    refine (refPost_no lo Y zs R.szv R.now.inv R.now.vs R.now.bss R.now.dead tto llo R.ts.length tcap R.ls.length lcap vo ro vcap rcap vars rows nt way w hl hrl hr (hvs.nw hW) (hrs.nw hW) (by rw [hpR]; exact h0)).mono ?_
    rintro e w' ⟨rfl, hf⟩
    exact ⟨rfl, R, hR.nw hf, hf.mono (fun _ x => x.elim), fun k hk => .inl hk, rfl, hnow, htabs, hlevs⟩
theorem Pair.fin {bz : Bool} {W w2 w3 : World} {lo X Y : Nat} {zs : List Int} {s' : WS} {R R' : RS} (h12 : WAt w2 X zs s') (hr2 : RAt W w2 lo Y zs R) (hz' : ∀ k, R.szv.ownBlock = some k → ¬ s'.own X k) (hx' : ∀ k, s'.own X k → lo ≤ k) (hr : RAt W w3 lo Y zs R') (hfr : Fr (R.wr Y) w2 w3) (hz : R'.szv = R.szv)
    (hb : s'.l.busy = bz) (hn : LinkD zs.length R'.now s'.d) (ht : s'.bs = R'.ts.map TbW.tb) (hl : LinkL zs.length R'.ls s'.sk) : Pair bz W w3 lo X Y zs s' R' :=
  ⟨h12.fr hfr (fun q hq hw => h12.apartR hr2 hz' q (.inl hw) hq) hr2.only (by decide), hr, hb, hn, ht, hl, by rw [hz]; exact hz', hx'⟩
/-- How many values are left. -/
theorem left_link {l : RL} {zs : List Int} {d : List Nat} (hv : ∀ q, vals (d.getD q 0) = if q < zs.length then rDom l.bss l.dead q else []) (h8 : zs.length ≤ 8) : leftTo d 8 = leftR l.bss l.dead zs.length ∧ fixTo d 8 = fixR l.bss l.dead zs.length := by
  have hp : ∀ q, pop (d.getD q 0) = if q < zs.length then (rDom l.bss l.dead q).length else 0 := fun q => by
    show (vals (d.getD q 0)).length = _
    rw [hv q]
    split <;> rfl
  have h1 : ∀ k, k ≤ zs.length → leftTo d k = leftR l.bss l.dead k ∧ fixTo d k = fixR l.bss l.dead k := by
    intro k
    induction k with
    | zero => intro _; exact ⟨by simp [leftTo, leftR], by simp [fixTo, fixR]⟩
    | succ k ih =>
      intro hk
      obtain ⟨i1, i2⟩ := ih (by omega)
      rw [leftTo_succ, fixTo_succ, hp k, if_pos (by omega), i1, i2]
      exact ⟨rfl, rfl⟩
  have h2 : ∀ k, zs.length + k ≤ 8 → leftTo d (zs.length + k) = leftTo d zs.length ∧ fixTo d (zs.length + k) = fixTo d zs.length := by
    intro k
    induction k with
    | zero => intro _; exact ⟨rfl, rfl⟩
    | succ k ih =>
      intro hk
      obtain ⟨i1, i2⟩ := ih (by omega)
      rw [← Nat.add_assoc, leftTo_succ, fixTo_succ, hp (zs.length + k), if_neg (by omega), i1, i2]
      exact ⟨rfl, rfl⟩
  obtain ⟨i1, i2⟩ := h1 zs.length (Nat.le_refl _)
  obtain ⟨j1, j2⟩ := h2 (8 - zs.length) (by omega)
  rw [show zs.length + (8 - zs.length) = 8 by omega] at j1 j2
  exact ⟨j1.trans i1, j2.trans i2⟩
theorem look_two {W w : World} {lo X Y : Nat} {zs : List Int} {s : WS} {R : RS} (h : Pair false W w lo X Y zs s R) :
    Calls Tryz.prog 59 #[.pointer (some ⟨X, 0, none⟩)] w fun e w1 => ∃ (a b c l f : Nat) (dd : Bool), e = .returned (.agg #[.int .i64 (a : Int), .int .i64 (b : Int), .int .i64 (c : Int), .bool dd, .int .i64 (l : Int), .int .i64 (f : Int)]) ∧ Nw w w1 ∧
      ∀ w2, Nw w w2 → Calls Tryz.prog 60 #[.pointer (some ⟨Y, 0, none⟩)] w2 fun e w3 => e = .returned (.agg #[.int .i64 (a : Int), .int .i64 (b : Int), .int .i64 (c : Int), .bool dd, .int .i64 (l : Int), .int .i64 (f : Int)]) ∧ Nw w2 w3 := by
  have hz := okSizes_len h.at_.mem.zok
  refine (look_any X zs s w h.at_ h.busy).mono ?_
  rintro e w1 ⟨rfl, hf⟩
  refine ⟨zs.length, s.ts.length, s.sk.length, leftTo s.d 8, fixTo s.d 8, (s.d.getD 0 0 == 0), rfl, hf, fun w2 f2 => ?_⟩
  have hr := (h.ref.nw f2).rin
  obtain ⟨cells, t1, _⟩ := h.ref.tabs
  obtain ⟨tto, tcap, htv⟩ := owns_form t1
  obtain ⟨llo, lcap, hlv⟩ := owns_form h.ref.lrow
  rw [htv, hlv] at hr
  refine (refLook_any lo Y zs R.szv R.now.inv R.now.vs R.now.bss R.now.dead tto llo R.ts.length tcap R.ls.length lcap w2 hr).mono ?_
  rintro e w3 ⟨rfl, hf3⟩
  refine ⟨?_, hf3⟩
  obtain ⟨l1, l2⟩ := left_link (LinkD.vals h.now h.ref.rin.in8 h.ref.rin.b6 h.ref.rin.len) hz.2
  have htl : s.ts.length = R.ts.length := by rw [h.at_.mem.fits.1, h.tabs, List.length_map]
  have hdb : (s.d.getD 0 0 == 0) = R.now.dead := by
    have := h.now.iff hz.1
    cases hb : R.now.dead with
    | true =>
      rw [this.2 hb]
      rfl
    | false =>
      rw [beq_eq_false_iff_ne]
      intro h0
      rw [this.1 h0] at hb
      cases hb
  rw [htl, ← h.levs.len, l1, l2, hdb]
end Go.Proofs.YtkjfpdfkcfgfkaaGreat

/- Contract of the statement's helper 'returned'. -/
namespace Go.Proofs.YtkjfpdfkcfgfkaaGreat
open Go.RowKit

theorem Tryz.infoInts : (Tryz.prog.info? 22).map (fun i => (i.zero, i.size, i.bytes)) = some (some (.slice none 0 0), 1, 24) := by kernel_rfl

/-- The cells of 'own' when the first k have been turned. -/
def turnedTo (zs : List Int) (k : Nat) : Array Value := ((List.replicate k (-7) ++ (zs ++ [78]).drop k).map (Value.int .i64)).toArray
theorem turnedTo_zero (zs : List Int) : turnedTo zs 0 = ((zs ++ [78]).map (Value.int .i64)).toArray := by simp [turnedTo]
theorem turnedTo_size (zs : List Int) (k : Nat) (hk : k ≤ zs.length + 1) : (turnedTo zs k).size = zs.length + 1 := by simp [turnedTo]; omega
theorem turnedTo_succ (zs : List Int) (k : Nat) (hk : k < zs.length + 1) : (turnedTo zs k).setIfInBounds k (.int .i64 (-7)) = turnedTo zs (k + 1) := by
  apply Array.ext
  · simp [turnedTo_size zs k (by omega), turnedTo_size zs (k + 1) (by omega)]
  · intro i h1 h2
    simp only [turnedTo, List.setIfInBounds_toArray, List.getElem_toArray, List.getElem_set, List.getElem_map]
    by_cases h : k = i
    · subst h; simp
    · rw [if_neg h]
      congr 1
      simp only [List.getElem_append, List.length_replicate, List.getElem_replicate, List.getElem_drop]
      by_cases h3 : i < k
      · simp [h3, show i < k + 1 by omega]
      · simp only [h3, show ¬ i < k + 1 by omega, dite_false]
        have e1 : k + (i - k) = i := by omega
        have e2 : k + 1 + (i - (k + 1)) = i := by omega
        simp only [e1, e2]
theorem turnedTo_end (zs : List Int) : turnedTo zs (zs.length + 1) = (List.replicate (zs.length + 1) (Value.int .i64 (-7))).toArray := by
  simp [turnedTo]

set_option maxHeartbeats 800000 in
set_option maxRecDepth 1000000 in
theorem returned_any (B g : Nat) (ao : Option Addr) (cap : Nat) (zs : List Int) (s0 s1 tv s3 : Value) (xs : List Value) (w : World) (hz : zs.length * 8 ≤ 140737488355328)
    (hB : Blk w B #[s0, s1, tv, s3] 29) (htv : Row w tv 22 xs) (hxs : (xs.length + 1) * 24 ≤ 140737488355328)
    (hg : Blk w g ((zs ++ [78]).map (Value.int .i64)).toArray 3) (hl : IntsAt w ao zs) :
    Calls Tryz.prog 16 #[.pointer (some ⟨B, 0, none⟩), .slice (some ⟨g, 0, none⟩) (zs.length + 1) (zs.length + 1), .slice ao zs.length cap] w fun e w' =>
      e = .returned (.bool true) ∧ ∃ tv', Fr (fun k => k = B ∨ k = g ∨ tv.ownBlock = some k) w w' ∧ Blk w' B #[s0, s1, tv', s3] 29 ∧
        Row w' tv' 22 (xs ++ [.slice (some ⟨g, 0, none⟩) (zs.length + 1) (zs.length + 1)]) ∧ Blk w' g (turnedTo zs (zs.length + 1)) 3 ∧
        (∀ k, tv'.ownBlock = some k → tv.ownBlock = some k ∨ w.heap.size ≤ k) := by
  obtain ⟨i0, hi, hz0, hz1, hz2⟩ := info_parts Tryz.infoInts
  have hg78 : w.cell? ⟨g, zs.length, none⟩ = some (.int .i64 78) := by rw [hg.cell]; simp
  have hown : IntsAt w (some ⟨g, 0, none⟩) zs := IntsAt.of_blk hg 0 zs (fun i hi => by
    simp [List.getElem?_append_left, hi])
  go_enter Tryz.func16, Tryz.ntmps16
  go_wp2_with (go_at_call 33; refine (sameInts_eq _ _ _ _ zs _ hz hown hl).mono ?_; rintro e w' ⟨rfl, n, rfl⟩)
  have hgn : Blk (w.drewN n) g (turnedTo zs 0) 3 := by rw [turnedTo_zero]; exact hg
  have hFr0 : Fr (fun k => k = g) w (w.drewN n) := (Fr.refl _ w).drewN n
  clear hg78 hown hl
  go_loopw [10] (fun i wr => ∃ k : Nat, k ≤ zs.length + 1 ∧ i = .int .i64 k ∧ Hid (Blk wr g (turnedTo zs k) 3) ∧ Fr (fun k => k = g) w wr) (fun i _ => zs.length + 1 - (intOf i).toNat)
  case atStart => exact ⟨0, Nat.zero_le _, rfl, hgn, hFr0⟩
  case round =>
    obtain ⟨k, hk, rfl, hb, hf⟩ := hrel
    clear hgn hFr0
    by_cases hlt : k < zs.length + 1
    · have hfz := hb.out.free k
      have hck : wr.cell? ⟨g, k, none⟩ = some _ := (hb.out.cell k).trans (Array.getElem?_eq_getElem (by rw [turnedTo_size zs k hk]; exact hlt))
      go_wp2
      go_roundw
      case rel => exact ⟨k + 1, by omega, by go_num, by rw [← turnedTo_succ zs k hlt]; exact hb.out.set k _, hf.setCell _ _ (.inl rfl)⟩
      case measure => simp [intOf]; omega
    · obtain rfl : k = zs.length + 1 := by omega
      have hgB : g ≠ B := fun e => by subst e; have := (hg.inj hB).2; revert this; decide
      have hBr : Blk wr B #[s0, s1, tv, s3] 29 := hB.fr hf (fun e => hgB e.symm)
      have htr : Row wr tv 22 xs := htv.fr hf (fun k hk e => by subst e; exact htv.ne hg (by decide) hk)
      have hc2 : wr.cell? ⟨B, 2, none⟩ = some tv := hBr.cell 2
      go_wp2_with (at_builtin; refine wpList_append_own_at _ rfl _ _ 26 rfl 0 22 i0 (.slice none 0 0) 1 24 Tryz.underlying26 hi hz0 hz1 hz2 rfl (by decide) _ _ _ rfl (htr.alloc _) ⟨wr.heap.size, 0, none⟩ 1 1 [.slice (some ⟨g, 0, none⟩) (zs.length + 1) (zs.length + 1)] rfl rfl (cell_one_new _ _ _) (by simp [Value.oneCell']) (by unfold maxLen; omega) (by omega) (Nat.zero_le _) ?_; intro v' w1 hown' hgrow _ hat; obtain ⟨g', cap', rfl, hr1, hf1, ha1, hlt1⟩ := app1 hown' hgrow hat; have hB1 : Blk w1 B #[s0, s1, tv, s3] 29 := hBr.fr hf1 (fun e => htr.ne hBr (by decide) e); have hfzB := hB1.free 2; have hcB1 : w1.cell? ⟨B, 2, none⟩ = some tv := hB1.cell 2; clear hown' hgrow hat)
      have hb1 : Blk w1 g (turnedTo zs (zs.length + 1)) 3 := hb.out.fr hf1 (fun e => htr.ne hb.out (by decide) e)
      have hg'B : g' ≠ B := fun e => by
        subst e
        exact hr1.ne hB1 (by decide) rfl
      go_ret
      refine ⟨rfl, .slice (some ⟨g', 0, none⟩) (xs.length + 1) cap', ?_, ?_, ?_, hb1.other _ _ hgB, ?_⟩
      · exact ((hf.mono (fun i e => .inl (.inr (.inl e)))).trans hf1 (fun i e => .inl (.inr (.inr e)))).setCell _ _ (.inl (.inl rfl))
      · have := hB1.set 2 (.slice (some ⟨g', 0, none⟩) (xs.length + 1) cap')
        simpa using this
      · exact hr1.fr ((Fr.refl (fun k => k = B) w1).setCell ⟨B, 2, none⟩ _ (.inl rfl)) (fun k hk e => hg'B (by cases hk; exact e))
      · intro k hk
        cases hk
        rcases ha1 with h | h
        · exact .inl h
        · exact .inr (by have := hf.size; simp only [h]; omega)
end Go.Proofs.YtkjfpdfkcfgfkaaGreat

/- Contract of the statement's helper 'kept': all lists that came out, and all that were handed in, hold what the caller wrote. -/
namespace Go.Proofs.YtkjfpdfkcfgfkaaGreat
open Go.RowKit

/-- A slice all of whose numbers are c. -/
def AllAre (w : World) (v : Value) (c : Int) : Prop := ∃ ao n cap, v = .slice ao n cap ∧ n * 8 ≤ 140737488355328 ∧ IntsAt w ao (List.replicate n c)
/-- A slice of n nil slices. -/
def AllNil (w : World) (v : Value) : Prop := ∃ ao n cap, v = .slice ao n cap ∧ n * 24 ≤ 140737488355328 ∧ ∀ i, i < n → ∃ b o, ao = some ⟨b, o, none⟩ ∧ b < w.heap.size ∧ w.cell? ⟨b, o + i, none⟩ = some (.slice none 0 0)

/-- What 'kept' looks at. -/
structure Keeps (w : World) (nv tv rv : Value) (nums turned rows : List Value) : Prop where
  rn : Row w nv 22 nums
  rt : Row w tv 22 turned
  rr : Row w rv 26 rows
  ln : nums.length * 24 ≤ 140737488355328
  lt : turned.length * 24 ≤ 140737488355328
  lr : rows.length * 24 ≤ 140737488355328
  an : ∀ i (h : i < nums.length), AllAre w nums[i] (-1 - (i / 4 * 4 : Nat))
  at_ : ∀ i (h : i < turned.length), AllAre w turned[i] (-7)
  ar : ∀ i (h : i < rows.length), AllNil w rows[i]

set_option maxHeartbeats 1600000 in
set_option maxRecDepth 1000000 in
theorem kept_any (B : Nat) (s0 nv tv rv : Value) (nums turned rows : List Value) (w : World)
    (hB : Blk w B #[s0, nv, tv, rv] 29) (hK : Keeps w nv tv rv nums turned rows) :
    Calls Tryz.prog 19 #[.pointer (some ⟨B, 0, none⟩)] w fun e w' => e = .returned (.bool true) ∧ w' = w := by
  have c1 : w.cell? ⟨B, 1, none⟩ = some nv := hB.cell 1
  have c2 : w.cell? ⟨B, 2, none⟩ = some tv := hB.cell 2
  have c3 : w.cell? ⟨B, 3, none⟩ = some rv := hB.cell 3
  have hln := hK.ln
  have hlt := hK.lt
  have hlr := hK.lr
  obtain ⟨an, cn, rfl, hna⟩ := hK.rn.form
  obtain ⟨at0, ct, rfl, hta⟩ := hK.rt.form
  obtain ⟨ar, cr, rfl, hra⟩ := hK.rr.form
  have HK := hd hK
  have HB := hd hB
  clear hK hB hna hta hra
  go_enter Tryz.func19, Tryz.ntmps19
  go_wp2
  go_loop [3] (fun i => ∃ k : Nat, k ≤ nums.length ∧ i = .int .i64 k) (fun i => nums.length - (intOf i).toNat)
  case atStart => exact ⟨0, Nat.zero_le _, rfl⟩
  case round =>
    obtain ⟨k, hk, rfl⟩ := hrel
    by_cases hkl : k < nums.length
    · obtain ⟨g, cap, he, _, hcell, _⟩ := HK.out.rn.cell k hkl
      obtain ⟨ao, m, cap2, he2, hm, hz⟩ := HK.out.an k hkl
      cases he
      rw [he2] at hcell
      clear he2
      go_wp2
      go_loop [4] (fun i => ∃ j : Nat, j ≤ m ∧ i = .int .i64 j) (fun i => m - (intOf i).toNat)
      case atStart => exact ⟨0, Nat.zero_le _, rfl⟩
      case round =>
        obtain ⟨j, hj, rfl⟩ := hrel
        by_cases hjl : j < m
        · obtain ⟨b, o, rfl, _, hc⟩ := hz j (by simpa using hjl)
          clear hz
          rw [show (List.replicate m (-1 - ((k / 4 * 4 : Nat) : Int))).getD j 0 = -1 - ((k / 4 * 4 : Nat) : Int) from by simp [hjl]] at hc
          go_wp2
          exact ⟨⟨j + 1, by omega, by go_num⟩, by simp [intOf]; omega⟩
        · go_wp2
          exact ⟨⟨k + 1, by omega, by go_num⟩, by simp [intOf]; omega⟩
    · go_wp2
      clear c1 hkl hk
      go_loop [5] (fun i => ∃ k : Nat, k ≤ turned.length ∧ i = .int .i64 k) (fun i => turned.length - (intOf i).toNat)
      case atStart => exact ⟨0, Nat.zero_le _, rfl⟩
      case round =>
        obtain ⟨k, hk, rfl⟩ := hrel
        by_cases hkl : k < turned.length
        · obtain ⟨g, cap, he, _, hcell, _⟩ := HK.out.rt.cell k hkl
          obtain ⟨ao, m, cap2, he2, hm, hz⟩ := HK.out.at_ k hkl
          cases he
          rw [he2] at hcell
          clear he2
          go_wp2
          go_loop [6] (fun i => ∃ j : Nat, j ≤ m ∧ i = .int .i64 j) (fun i => m - (intOf i).toNat)
          case atStart => exact ⟨0, Nat.zero_le _, rfl⟩
          case round =>
            obtain ⟨j, hj, rfl⟩ := hrel
            by_cases hjl : j < m
            · obtain ⟨b, o, rfl, _, hc⟩ := hz j (by simpa using hjl)
              clear hz
              rw [show (List.replicate m (-7 : Int)).getD j 0 = -7 from by simp [hjl]] at hc
              go_wp2
              exact ⟨⟨j + 1, by omega, by go_num⟩, by simp [intOf]; omega⟩
            · go_wp2
              exact ⟨⟨k + 1, by omega, by go_num⟩, by simp [intOf]; omega⟩
        · go_wp2
          clear c2 hkl hk
          go_loop [7] (fun i => ∃ k : Nat, k ≤ rows.length ∧ i = .int .i64 k) (fun i => rows.length - (intOf i).toNat)
          case atStart => exact ⟨0, Nat.zero_le _, rfl⟩
          case round =>
            obtain ⟨k, hk, rfl⟩ := hrel
            by_cases hkl : k < rows.length
            · obtain ⟨g, cap, he, _, hcell, _⟩ := HK.out.rr.cell k hkl
              obtain ⟨ao, m, cap2, he2, hm, hz⟩ := HK.out.ar k hkl
              cases he
              rw [he2] at hcell
              clear he2
              go_wp2
              go_loop [8] (fun i => ∃ j : Nat, j ≤ m ∧ i = .int .i64 j) (fun i => m - (intOf i).toNat)
              case atStart => exact ⟨0, Nat.zero_le _, rfl⟩
              case round =>
                obtain ⟨j, hj, rfl⟩ := hrel
                by_cases hjl : j < m
                · obtain ⟨b, o, rfl, _, hc⟩ := hz j hjl
                  clear hz
                  go_wp2
                  exact ⟨⟨j + 1, by omega, by go_num⟩, by simp [intOf]; omega⟩
                · go_wp2
                  exact ⟨⟨k + 1, by omega, by go_num⟩, by simp [intOf]; omega⟩
            · go_wp2
              go_ret
              exact ⟨rfl, rfl⟩
end Go.Proofs.YtkjfpdfkcfgfkaaGreat

/- Contract of the statement's helper 'opens'. -/
namespace Go.Proofs.YtkjfpdfkcfgfkaaGreat
open Go.RowKit

theorem Tryz.infoSide : (Tryz.prog.info? 49).map (fun i => (i.zero, i.size, i.bytes)) = some (some (.pointer none), 1, 8) := by kernel_rfl

theorem new_ok (b o : Nat) (cap : Nat) (zs : List Int) (w : World) (h1 : 1 ≤ zs.length) (h8 : zs.length ≤ 8) (h : IntsAt w (some ⟨b, o, none⟩) zs) (hok : okSizes zs = true) :
    Calls Tryz.prog 10 #[.slice (some ⟨b, o, none⟩) zs.length cap] w fun e w' =>
      Nw w w' ∧ ∃ B szv, e = .returned (.tuple #[.pointer (some ⟨B, 0, none⟩), .int .i64 0]) ∧ Blk w' B (workCells szv (fullTo zs zs.length) (.slice none 0 0) rest0) 66 ∧
          Row w' szv 3 (zs.map (Value.int .i64)) ∧ w.heap.size ≤ B ∧ (∀ k, szv.ownBlock = some k → w.heap.size ≤ k) :=
  (new_any b o cap zs w h1 h8 h).mono fun e w' ⟨hf, hr⟩ => ⟨hf, hr.elim (fun x => x.2) (fun x => by rw [hok] at x; cases x.1)⟩
theorem new_no (b o : Nat) (cap : Nat) (zs : List Int) (w : World) (h1 : 1 ≤ zs.length) (h8 : zs.length ≤ 8) (h : IntsAt w (some ⟨b, o, none⟩) zs) (hok : okSizes zs = false) :
    Calls Tryz.prog 10 #[.slice (some ⟨b, o, none⟩) zs.length cap] w fun e w' => Nw w w' ∧ e = .returned (.tuple #[.pointer none, .int .i64 1]) :=
  (new_any b o cap zs w h1 h8 h).mono fun e w' ⟨hf, hr⟩ => ⟨hf, hr.elim (fun x => by rw [hok] at x; cases x.1) (fun x => x.2)⟩
theorem refNew_ok (b o : Nat) (cap : Nat) (zs : List Int) (w : World) (h1 : 1 ≤ zs.length) (h8 : zs.length ≤ 8) (h : IntsAt w (some ⟨b, o, none⟩) zs) (hok : okSizes zs = true) :
    Calls Tryz.prog 15 #[.slice (some ⟨b, o, none⟩) zs.length cap] w fun e w' =>
      Nw w w' ∧ ∃ B, e = .returned (.pointer (some ⟨B, 0, none⟩)) ∧ w.heap.size ≤ B ∧ RefAt w' w.heap.size B zs (allIn zs zs.length) false nilS nilS :=
  (refNew_any b o cap zs w h1 h8 h).mono fun e w' ⟨hf, hr⟩ => ⟨hf, hr.elim (fun x => x.2) (fun x => by rw [hok] at x; cases x.1)⟩
theorem refNew_no (b o : Nat) (cap : Nat) (zs : List Int) (w : World) (h1 : 1 ≤ zs.length) (h8 : zs.length ≤ 8) (h : IntsAt w (some ⟨b, o, none⟩) zs) (hok : okSizes zs = false) :
    Calls Tryz.prog 15 #[.slice (some ⟨b, o, none⟩) zs.length cap] w fun e w' => Nw w w' ∧ e = .returned (.pointer none) :=
  (refNew_any b o cap zs w h1 h8 h).mono fun e w' ⟨hf, hr⟩ => ⟨hf, hr.elim (fun x => by rw [hok] at x; cases x.1) (fun x => x.2)⟩

/-- The document's Work stays as it is where what is written are no blocks of its kinds from lo on. -/
theorem RefAt.fr {S : Nat → Prop} {w w' : World} {lo B : Nat} {zs : List Int} {bss : List (List Bool)} {dead : Bool} {tv lv : Value} (h : RefAt w lo B zs bss dead tv lv) (f : Fr S w w')
    (hn : ∀ k, S k → k ≠ B ∧ ¬ lo ≤ k) : RefAt w' lo B zs bss dead tv lv := by
  obtain ⟨szv, inv, vs, hB, hsz, hin, hvs, h1, h2⟩ := h.ex
  refine ⟨szv, inv, vs, hB.fr f (fun e => (hn _ e).1 rfl), hsz.fr f (fun k hk e => (hn k e).2 (h1 k hk)), hin.fr f (fun k hk e => (hn k e).2 (h2 k hk)), ?_, h1, h2⟩
  exact ⟨hvs.len, fun i hi => (hvs.row i hi).fr f (fun k hk e => (hn k e).2 (hvs.lo i hi k hk)), hvs.ne, hvs.lo⟩

set_option maxHeartbeats 1600000 in
set_option maxRecDepth 1000000 in
/-- Too few or too many sizes: nothing is opened. -/
theorem opens_len (B : Nat) (sv nv tv rv : Value) (ts : List Value) (ao : Option Addr) (cap : Nat) (zs : List Int) (w : World) (hz : zs.length * 8 ≤ 140737488351232)
    (hB : Blk w B #[sv, nv, tv, rv] 29) (htv : Row w tv 22 ts) (hts : (ts.length + 1) * 24 ≤ 140737488355328) (hl : IntsAt w ao zs) (hlen : zs.length < 1 ∨ 8 < zs.length) :
    Calls Tryz.prog 8 #[.pointer (some ⟨B, 0, none⟩), .slice ao zs.length cap] w fun e w' =>
      e = .returned (.bool true) ∧ ∃ tv', Fr (fun k => k = B ∨ tv.ownBlock = some k) w w' ∧ Blk w' B #[sv, nv, tv', rv] 29 ∧
        Row w' tv' 22 (ts ++ [.slice (some ⟨w.heap.size, 0, none⟩) (zs.length + 1) (zs.length + 1)]) ∧ Blk w' w.heap.size (turnedTo zs (zs.length + 1)) 3 ∧
        (∀ k, tv'.ownBlock = some k → tv.ownBlock = some k ∨ w.heap.size ≤ k) := by
  have hBlt := hB.lt
  go_enter Tryz.func8, Tryz.ntmps8
  go_wp2_with (first
    | (go_at_call 14; refine (lent_any _ _ zs _ (by omega) hl).mono ?_; rintro e w1 ⟨rfl, hf1, hg1⟩)
    | (go_at_call 10; refine (new_len _ _ _ _ (by omega) hlen).mono ?_; rintro e w2 ⟨rfl, rfl⟩)
    | (go_at_call 15; refine (refNew_len _ _ _ _ (by omega) hlen).mono ?_; rintro e w2 ⟨rfl, rfl⟩)
    | (go_at_call 16; refine (returned_any B w.heap.size ao cap zs sv nv tv rv ts _ (by omega) (hB.nw hf1) (htv.nw hf1) hts hg1 (hl.nw hf1)).mono ?_; rintro e w2 ⟨rfl, tv', hf2, hB2, htv2, hg2, hlo2⟩))
  go_ret
  refine ⟨rfl, tv', hf1.mono (fun i h => h.elim) |>.trans hf2 ?_, hB2, htv2, hg2, ?_⟩
  · rintro i (h | h | h)
    · exact .inl (.inl h)
    · exact .inr (by omega)
    · exact .inl (.inr h)
  · intro k hk
    rcases hlo2 k hk with h | h
    · exact .inl h
    · exact .inr (Nat.le_trans hf1.size h)

/-- A side in memory: the program's fretwork, and the document's; nothing is gone through. -/
def sideCells (X Y : Nat) : Array Value := #[.pointer (some ⟨X, 0, none⟩), .pointer (some ⟨Y, 0, none⟩), .bool false, .nilFunc, .nilFunc]

theorem opens_apart {w : World} {B g : Nat} {sv tv : Value} {ss ts : List Value} {c1 c2 : Array Value} (hsv : Row w sv 49 ss) (hB : Blk w B c1 29) (hg : Blk w g c2 3) (htv : Row w tv 22 ts)
    (k : Nat) (hk : sv.ownBlock = some k) (e : k = B ∨ k = g ∨ tv.ownBlock = some k) : False := by
  rcases e with e | e | e
  · subst e; exact hsv.ne hB (by decide) hk
  · subst e; exact hsv.ne hg (by decide) hk
  · obtain ⟨cur, hb, _⟩ := htv.blk e
    exact hsv.ne hb (by decide) hk

end Go.Proofs.YtkjfpdfkcfgfkaaGreat

/- What 'opens' leaves, whatever the sizes are; what is said of 'first'. -/
namespace Go.Proofs.YtkjfpdfkcfgfkaaGreat
open Go.RowKit

theorem turned_all {w : World} {g : Nat} {zs : List Int} (h : Blk w g (turnedTo zs (zs.length + 1)) 3) (hz : (zs.length + 1) * 8 ≤ 140737488355328) : AllAre w (.slice (some ⟨g, 0, none⟩) (zs.length + 1) (zs.length + 1)) (-7) := by
  refine ⟨some ⟨g, 0, none⟩, zs.length + 1, zs.length + 1, rfl, hz, IntsAt.of_blk h 0 _ (fun i hi => ?_)⟩
  rw [turnedTo_end, Nat.zero_add]
  simp only [List.length_replicate] at hi
  simp [hi]

/-- What is said of 'first'. -/
def FirstOk : Prop := ∀ w : World, Calls Tryz.prog 7 #[] w fun e w' => e = .returned (.bool true) ∧ Nw w w'
end Go.Proofs.YtkjfpdfkcfgfkaaGreat
