/- Alike: the walk. -/
import Derived.Test.YtkjfpdfkcfgfkaaM8

namespace Go.Proofs.Ytkjfpdfkcfgfkaa
open Go.RowKit

/-- What a raw number says to remove. -/
def remOf (zs : List Int) (c : Int) : Nat × Nat := ((pickOf c zs.length).toNat, (pickOf (c.tdiv 8) (zs.getD (pickOf c zs.length).toNat 0)).toNat)
theorem exec_quo8 {ev : Operand → Value} {o : Oper} {w : World} (a r : Int) (x y : Operand) (ho : o.op = .binOp .quo 3 x y 3) (hx : ev x = .int .i64 a) (hy : ev y = .int .i64 8) (hr : r = a.tdiv 8) (hb : In64 r) :
    (execOp ev o).run Try.prog w = .ok (.value (.int .i64 r)) w := by
  have h2 : (eqGuard .quo 3 x y (.int .i64 a) (.int .i64 8)).run Try.prog w = .ok () w := by kernel_rfl
  have h3 : (binOp .quo 3 (.int .i64 a) (.int .i64 8)).run Try.prog w = .ok (.int .i64 (IntKind.i64.wrap (a.tdiv 8))) w := by kernel_rfl
  unfold execOp
  have h4 : IntKind.i64.wrap (a.tdiv 8) = r := by rw [IntKind.wrap_i64] <;> (unfold In64 at hb; omega)
  simp [ho, hx, hy, h2, h3, h4, Result.andThen]
theorem TblsOwn.cellF {W w : World} {v : Value} {tvs : List Value} {ts : List Tw} (h : TblsOwn W w v tvs ts) (i : Nat) (hi : i < ts.length) : ∃ g cap vo vcap ro rcap, v = .slice (some ⟨g, 0, none⟩) ts.length cap ∧ g < w.heap.size ∧
    w.cell? ⟨g, i * 4, none⟩ = some (.slice vo (ts.getD i tw0).tb.vars.length vcap) ∧ w.cell? ⟨g, i * 4 + 1, none⟩ = some (.slice ro (ts.getD i tw0).tb.rows.length rcap) ∧ w.cell? ⟨g, i * 4 + 2, none⟩ = some (.bool (ts.getD i tw0).tb.nt) ∧ w.cell? ⟨g, i * 4 + 3, none⟩ = some (.int .i64 (ts.getD i tw0).way) ∧
    (ts.getD i tw0).tb.vars.length ≤ vcap ∧ ∀ way', TblAt w (.agg #[.slice vo (ts.getD i tw0).tb.vars.length vcap, .slice ro (ts.getD i tw0).tb.rows.length rcap, .bool (ts.getD i tw0).tb.nt, .int .i64 way']) (ts.getD i tw0).tb.vars (ts.getD i tw0).tb.rows (ts.getD i tw0).tb.nt way' := by
  obtain ⟨t, ht, hta⟩ := h.each i hi
  have e1 : ts.getD i tw0 = t := by simp [List.getD, ht]
  rw [e1]
  obtain ⟨vo, vcap, ro, rcap, rl, hf, h2, h3⟩ := hta.form
  have hc := h2.capG
  rw [List.length_map] at hc
  have hfour : ∀ tv ∈ tvs, (tblC tv).length = 4 := fun tv htv => by
    obtain ⟨j, hj, e⟩ := List.getElem_of_mem htv
    obtain ⟨t', _, hta'⟩ := h.each j (by rw [← h.len]; exact hj)
    have e2 : tvs.getD j undef = tv := by simp [List.getD, hj, e]
    rw [e2] at hta'
    exact hta'.four
  have hcs : tblC (tvs.getD i undef) = [.slice vo t.tb.vars.length vcap, .slice ro t.tb.rows.length rcap, .bool t.tb.nt, .int .i64 t.way] := by rw [hf]; rfl
  rcases h.row.2 with ⟨rfl, h0⟩ | ⟨g, cap, cur, hv, _, hg, _⟩
  · omega
  · have hcell := h.row.cells (g := g) (by rw [hv]; rfl)
    have key : ∀ c u, c < 4 → (tblC (tvs.getD i undef))[c]? = some u → w.cell? ⟨g, i * 4 + c, none⟩ = some u := fun c u hc hu => by
      have := hcell (i * 4 + c) u (by rw [flat4 tvs i c hfour hc (by rw [h.len]; exact hi)]; exact hu)
      rw [show (⟨g, 0, none⟩ : Addr).add (i * 4 + c) = ⟨g, i * 4 + c, none⟩ from by by_cases h : i * 4 + c = 0 <;> simp only [Addr.add, h, if_true, if_false, Nat.zero_add]] at this
      exact this
    rw [hcs] at key
    exact ⟨g, cap, vo, vcap, ro, rcap, hv, lt_of_block hg, by simpa using key 0 _ (by omega) rfl, key 1 _ (by omega) rfl, key 2 _ (by omega) rfl, key 3 _ (by omega) rfl, hc, fun way' => ⟨vo, vcap, ro, rcap, rl, rfl, h2, h3⟩⟩
theorem okTable_flip {zs vars : List Int} {rows : List (List Int)} {way : Int} (h : okTable zs vars rows way = true) : okTable zs vars rows (3 - way) = true := by
  unfold okTable at h ⊢
  simp only [Bool.and_eq_true] at h ⊢
  refine ⟨⟨⟨?_, h.1.1.2⟩, h.1.2⟩, h.2⟩
  have := h.1.1.1
  simp only [okWay, Bool.or_eq_true, beq_iff_eq] at this ⊢
  omega
def flips (ts : List Tw) (k : Nat) : List Tw := (ts.drop k).reverse.map Tw.flip
theorem flips_len (ts : List Tw) (k : Nat) : (flips ts k).length = ts.length - k := by simp [flips]
theorem flips_step (ts : List Tw) (k : Nat) (h : k < ts.length) : flips ts k = flips ts (k + 1) ++ [(ts.getD k tw0).flip] := by
  unfold flips
  rw [List.drop_eq_getElem_cons h, List.reverse_cons, List.map_append]
  simp [List.getD, h]
theorem flips_mem (ts : List Tw) (b : Tb) : b ∈ ts.map Tw.tb ↔ b ∈ (flips ts 0).map Tw.tb := by
  simp [flips, Tw.flip]
theorem flips_ok {zs : List Int} {ts : List Tw} (h : ∀ i, i < ts.length → okTable zs (ts.getD i tw0).tb.vars (ts.getD i tw0).tb.rows (ts.getD i tw0).way = true) (i : Nat) (hi : i < (flips ts 0).length) : okTable zs ((flips ts 0).getD i tw0).tb.vars ((flips ts 0).getD i tw0).tb.rows ((flips ts 0).getD i tw0).way = true := by
  rw [flips_len] at hi
  have e : (flips ts 0).getD i tw0 = (ts.getD (ts.length - 1 - i) tw0).flip := by
    have h1 : i < ts.length := by omega
    have h2 : ts.length - 1 - i < ts.length := by omega
    simp [flips, List.getD, h1, h2]
  rw [e]
  exact okTable_flip (h _ (by omega))
noncomputable def alkA : Array Oper := regOps Try.f7 25
noncomputable def alkB : Array Oper := regOps Try.f7 30

set_option maxHeartbeats 3200000 in
set_option maxRecDepth 1000000 in
theorem alike_walk (ao ro so : Option Addr) (ac rc sc : Nat) (raw ys : List Int) (rs : List RawT) (w : World) (hl1 : raw.length * 8 ≤ 140737488355328) (hl2 : ys.length * 8 ≤ 140737488355328)
    (ha : IntsAt w ao raw) (hr : RawsAt w ro rs) (hs : IntsAt w so ys) (hi1 : ∀ c ∈ raw, In64 c) (hi2 : ∀ c ∈ ys, In64 c) :
    Calls Try.prog 7 #[.slice ao raw.length ac, .slice ro rs.length rc, .slice so ys.length sc] w fun e w' => e = .returned (.bool true) ∧ Nw w w' := by
  obtain ⟨i0, hi0, hz0, hza, hzb⟩ := info_parts Try.infoATable
  obtain ⟨hz1, hz6⟩ := fitL_len raw 6 (by omega)
  have hzok := fitL_sizes raw 6 (by omega) (by omega)
  obtain ⟨zs, hzs⟩ : ∃ zs, fitL raw 6 = zs := ⟨_, rfl⟩
  rw [hzs] at hz1 hz6 hzok
  have hzget := fun i hi => okSizes_get hzok i hi
  have htok := tablesTo_ok zs rs 6 hz1 hzget
  obtain ⟨ts, hts⟩ : ∃ ts, tablesTo zs rs 6 = ts := ⟨_, rfl⟩
  have htl : ts.length ≤ 6 := by rw [← hts]; simp [tablesTo]; omega
  rw [hts] at htok
  have Hha := hd ha
  have Hhr := hd hr
  have Hhs := hd hs
  clear ha hr hs
  go_enter Try.func7, Try.ntmps7
  go_wp2_with fail
  refine (sure_ok _).mono ?_
  rintro e w0 ⟨rfl, hf0⟩
  have Hf0 := hd hf0
  clear hf0
  go_wp2_with fail
  refine (counted_ok _).mono ?_
  rintro e w1 ⟨rfl, hf1⟩
  have Hf1 := hd (Hf0.out.trans hf1 (fun _ x => x.elim))
  clear hf1 Hf0
  go_wp2_with fail
  refine (fit_any ao ac raw 6 w1 (by omega) hl1 (Hha.out.nw Hf1.out) hi1).mono ?_
  rintro e w2 ⟨zv, rfl, hO⟩
  rw [hzs] at hO
  obtain ⟨zo, zc, hzv, _⟩ := hO.row.form
  rw [List.length_map] at hzv
  subst hzv
  have HO := hd hO
  have Hf2 := hd (Hf1.out.trans hO.nw (fun _ x => x.elim))
  clear hO Hf1
  go_wp2_with fail
  refine (tables_any ro zo rc zc rs zs 6 w2 (by omega) (by omega) hzget (Hhr.out.nw Hf2.out) HO.out.row.ints').mono ?_
  rw [hts]
  rintro e w3 ⟨tv, rfl, tvs, hT⟩
  obtain ⟨lo, lcap, hform⟩ := hT.form
  subst hform
  have HT := hd hT
  have HO3 := hd (HO.out.row.nw hT.nw).ints'
  have Hf3 := hd (Hf2.out.trans hT.nw (fun _ x => x.elim))
  clear hT HO Hf2 hts hzs
  go_wp2_with fail
  go_loopw [11, 12, 13] (fun m i _ wr => ∃ (k : Nat) (tvs' : List Value), k ≤ ts.length ∧ i = .int .i64 ((k : Int) - 1) ∧ Hid (TblsOwn w3 wr m tvs' (flips ts k))) (fun _ i _ _ => (intOf i + 1).toNat)
  case atStart =>
    refine ⟨ts.length, [], by omega, by simp, ?_⟩
    have e : flips ts ts.length = [] := by simp [flips]
    rw [e]
    exact ⟨World.ownsRow_nil _ _ _ _, Fr.refl _ _, fun q hq => (by cases hq), rfl, fun i hi => absurd hi (Nat.not_lt_zero _)⟩
  case round =>
    obtain ⟨k, tvs', hk, rfl, HM⟩ := hrel
    obtain ⟨mo, mc, hform⟩ := HM.out.form
    rw [flips_len] at hform
    subst hform
    cases k with
    | succ k =>
      have e1 : (((k + 1 : Nat) : Int) - 1) = (k : Int) := by omega
      rw [e1]
      have hlt : k < ts.length := by omega
      have hge : (0 : Int) ≤ (k : Int) := by omega
      have hge' : (k : Int) ≥ 0 := by omega
      obtain ⟨hway, _⟩ := okTable_parts (htok k hlt) (by omega)
      have hTw := HT.out.step HM.out.nw
      obtain ⟨g, cap, vo, vcap, tro, trc, hv, hgl, c0, c1, c2, c3, hvc, hTA⟩ := hTw.cellF k hlt
      simp only [Value.slice.injEq] at hv
      obtain ⟨rfl, _, rfl⟩ := hv
      have Hstep := hd (flips_step ts k hlt)
      obtain ⟨t, htv⟩ : ∃ t, ts.getD k tw0 = t := ⟨_, rfl⟩
      rw [htv] at c0 c1 c2 c3 hvc hTA Hstep hway
      have HTA := hd hTA
      have hwb : 0 ≤ t.way ∧ t.way ≤ 2 := by omega
      have hkl : (k : Int) < (ts.length : Int) := by omega
      clear hTA hTw htv hway
      have Hrow := hd HM.out.row
      rw [flips_len] at Hrow
      obtain ⟨mk, hmk⟩ : ∃ mk, ts.length - (k + 1) = mk := ⟨_, rfl⟩
      have Hmk := hd (flips_len ts (k + 1))
      rw [hmk] at Hrow HM Hmk ⊢
      have hmkl : mk ≤ 6 := by omega
      clear hmk
      have Hcn : Hid (∀ (T : World), T.heap.size = wr.heap.size + 1 → ∀ (xs : List Value) (j : Nat) (u : Value), xs[j]? = some u → (T.alloc (.cells xs.toArray 58)).cell? ((⟨wr.heap.size + 1, 0, none⟩ : Addr).add j) = some u) := fun T hT xs => by
        rw [← hT]
        exact cells_new T xs _
      go_wp2_with (at_builtin; refine wpList_append_own_at _ rfl _ _ 34 rfl 0 58 i0 (.agg #[.slice none 0 0, .slice none 0 0, .bool false, .int .i64 0]) 4 64 Try.underlying34 hi0 hz0 hza hzb rfl (by decide) _ mk _ rfl (ownsRow.fr Hrow.out (((Fr.refl (fun _ => False) _).alloc _).alloc _) (fun _ _ x => x)) ⟨_, 0, none⟩ 1 1 [.slice vo _ vcap, .slice tro _ trc, .bool t.tb.nt, .int .i64 _] rfl rfl (Hcn.out _ (by simp) _) (by simp [Value.oneCell']) (by unfold maxLen; omega) (by omega) (Nat.zero_le _) ?_; intro v' w4 hown' hgrow _ hat; obtain ⟨g', cap', rfl, hf3, ha3, hlt3⟩ := appN hown' hgrow hat)
      have hfT : Nw wr (wr.alloc (.cells #[.slice vo t.tb.vars.length vcap, .slice tro t.tb.rows.length trc, .bool t.tb.nt, .int .i64 (3 - t.way)] 58)) := (Fr.refl _ wr).alloc _
      refine ⟨⟨k, tvs' ++ [.agg #[.slice vo t.tb.vars.length vcap, .slice tro t.tb.rows.length trc, .bool t.tb.nt, .int .i64 (3 - t.way)]], by omega, rfl, ?_⟩, by simp [intOf]⟩
      rw [Hstep.out]
      exact (HM.out.step hfT).more Hmk.out ((HTA.out _).nw hfT) hown' hf3 ha3
    | zero =>
      have hge : ¬ ((0 : Int) ≤ ((0 : Nat) : Int) - 1) := by omega
      have hm0 := flips_len ts 0
      obtain ⟨ms, hms⟩ : ∃ ms, flips ts 0 = ms := ⟨_, rfl⟩
      have hmok := flips_ok htok
      have Hmem := hd (flips_mem ts)
      rw [hms] at hm0 HM hmok Hmem
      rw [show ts.length - 0 = ms.length from hm0.symm] at HM ⊢
      rename World => wm
      have Hnm := hd HM.out.nw
      have HTm := hd (HT.out.step HM.out.nw)
      have HOm := hd (HO3.out.nw HM.out.nw)
      have Hf4 := hd (Hf3.out.trans HM.out.nw (fun _ x => x.elim))
      have hml : ms.length ≤ 6 := by omega
      clear HT HO3 hms hm0
      obtain ⟨zb, zof, rfl, _, _⟩ := HOm.out 0 hz1
      go_wp2_with fail
      refine (new_any zb zof zc zs _ hz1 (by omega) HOm.out).mono ?_
      rintro e w4 ⟨hf1, hcase⟩
      obtain ⟨_, X, szv, rfl, hX1, hs1, hXl, hsl⟩ := hcase.resolve_right (fun h => absurd h.1 (by rw [hzok]; simp))
      have HP := hd (Posted.of_new hzok hf1 hX1 hs1 hXl hsl)
      clear hX1 hs1 hsl hf1 hXl
      go_wp2_with fail
      refine (new_any zb zof zc zs _ hz1 (by omega) (HOm.out.nw HP.out.nw)).mono ?_
      rintro e w5 ⟨hf1, hcase⟩
      obtain ⟨_, Y, szv', rfl, hX1, hs1, hXl, hsl⟩ := hcase.resolve_right (fun h => absurd h.1 (by rw [hzok]; simp))
      have HQ := hd (Posted.of_new hzok hf1 hX1 hs1 hXl hsl)
      clear hX1 hs1 hsl hf1 hXl
      have H2 := hd (Two.of HP.out HQ.out)
      have HSa := hd (PSem.of_posted HP.out)
      have HSb := hd (PSem.of_posted HQ.out)
      clear HP HQ
      obtain ⟨s0, hs0⟩ : ∃ s0, ws0 zs szv = s0 := ⟨_, rfl⟩
      obtain ⟨t0, ht0⟩ : ∃ t0, ws0 zs szv' = t0 := ⟨_, rfl⟩
      rw [hs0] at H2 HSa
      rw [ht0] at H2 HSb
      clear hs0 ht0
      go_upto_region 16 with fail
      obtain ⟨n, hn⟩ : ∃ n, min ys.length 8 = n := ⟨_, rfl⟩
      have hn8 : n ≤ 8 := by omega
      have hny : n ≤ ys.length := by omega
      go_cut [18] (fun nv wx => nv = .int .i64 (n : Int) ∧ wx = w5)
      case first =>
        by_cases h8 : ys.length ≤ 8
        · have hd8 : (ys.length : Int) ≤ 8 := by omega
          have hd9 : ¬ ((8 : Int) < (ys.length : Int)) := by omega
          go_wp2_with fail
          go_meet
          exact ⟨by rw [← hn, Nat.min_eq_left h8], rfl⟩
        · have hd8 : ¬ ((ys.length : Int) ≤ 8) := by omega
          have hd9 : (8 : Int) < (ys.length : Int) := by omega
          go_wp2_with fail
          go_meet
          exact ⟨by rw [← hn, Nat.min_eq_right (by omega)]; rfl, rfl⟩
      case rest =>
        obtain ⟨rfl, rfl⟩ := hcut
        clear hn
        go_wp2_with fail
        go_loopw [19] (fun i wr => ∃ (k : Nat) (s : WS), k ≤ ts.length ∧ i = .int .i64 (k : Int) ∧ Hid (Two wm wr X Y zs s t0) ∧ Hid (PSem zs s ((ts.map Tw.tb).take k) (fullTo zs zs.length))) (fun i _ => ts.length - (intOf i).toNat)
        case atStart => exact ⟨0, s0, by omega, rfl, H2, HSa⟩
        case round =>
          clear H2 HSa
          obtain ⟨k, s, hk, rfl, H2, HSa⟩ := hrel
          by_cases hlt : k < ts.length
          · have hd1 : (k : Int) < (ts.length : Int) := by omega
            have htlen : (List.take k (ts.map Tw.tb)).length = k := by simp; omega
            have Hlen : Hid ((List.take k (ts.map Tw.tb)).length < 12) := hd (by rw [htlen]; omega)
            have htake : List.take (k + 1) (ts.map Tw.tb) = List.take k (ts.map Tw.tb) ++ [(ts.getD k tw0).tb] := by
              rw [List.take_succ_eq_append_getElem (by simpa using hlt)]
              simp [List.getD, hlt]
            have hTw := HTm.out.step H2.out.nw
            obtain ⟨g, cap, vo, vcap, tro, trc, hv, hgl, c0, c1, c2, c3, hvc, hI1, hI2⟩ := hTw.cell k hlt
            simp only [Value.slice.injEq] at hv
            obtain ⟨rfl, _, rfl⟩ := hv
            have Hok := hd (htok k hlt)
            obtain ⟨t, htv⟩ : ∃ t, ts.getD k tw0 = t := ⟨_, rfl⟩
            rw [htv] at c0 c1 c2 c3 hvc hI1 hI2 Hok htake
            have HI1 := hd hI1
            have HI2 := hd hI2
            have Htake := hd htake
            clear htv htake htlen hI1 hI2 hTw
            go_wp2_with fail
            refine (post_two H2.out HSa.out Hlen.out Hok.out hvc HI1.out HI2.out).mono ?_
            rintro e w6 ⟨r, rfl, s', h2', hs'⟩
            have H2' := hd h2'
            have HS' := hd hs'
            clear h2' hs' H2 HSa
            go_wp2_with fail
            refine ⟨⟨k + 1, s', by omega, by simp, H2', ?_⟩, by simp [intOf]; omega⟩
            rw [Htake.out]
            exact HS'
          · obtain rfl : k = ts.length := by omega
            have hd1 : ¬ ((ts.length : Int) < (ts.length : Int)) := by omega
            rw [List.take_of_length_le (by simp)] at HSa
            go_wp2_with fail
            go_loopw [20, 21] (fun i _ wr => ∃ (k : Nat) (s : WS), k ≤ n ∧ i = .int .i64 (k : Int) ∧ Hid (Two wm wr X Y zs s t0) ∧ Hid (PSem zs s (ts.map Tw.tb) (remAll (fullTo zs zs.length) ((ys.take k).map (remOf zs))))) (fun i _ _ => n - (intOf i).toNat)
            case atStart => exact ⟨0, s, by omega, rfl, H2, HSa⟩
            case round =>
              rename World => wr
              clear H2 HSa
              obtain ⟨k, s, hk, rfl, H2, HSa⟩ := hrel
              have HNm := hd H2.out.nw
              by_cases hlt : k < n
              · have hd1 : (k : Int) < (n : Int) := by omega
                have hky : k < ys.length := by omega
                have hkyI : (k : Int) < (ys.length : Int) := by omega
                obtain ⟨sb, so', hse, hslm, hscm⟩ := (Hhs.out.nw Hf4.out) k hky
                have hsl : sb < wr.heap.size := Nat.lt_of_lt_of_le hslm HNm.out.size
                have hsc := (HNm.out.cell hslm (fun x => x)).trans hscm
                have Htk : Hid ((ys.take (k + 1)).map (remOf zs) = (ys.take k).map (remOf zs) ++ [remOf zs (ys.getD k 0)]) := hd (by
                  rw [List.take_succ_eq_append_getElem hky, List.map_append]
                  simp [List.getD, hky])
                obtain ⟨c, hcv⟩ : ∃ c, ys.getD k 0 = c := ⟨_, rfl⟩
                rw [hcv] at hsc hscm
                have hcin : In64 c := hi2 c (by rw [← hcv]; simp [List.getD, hky])
                have hc8 := hcin.div8
                have hw8 := hc8.wrap
                have hq2 := pickOf_range c zs.length (by omega)
                obtain ⟨v, hv⟩ : ∃ v : Nat, pickOf c zs.length = (v : Int) := ⟨(pickOf c zs.length).toNat, by omega⟩
                rw [hv] at hq2
                have hvz : v < zs.length := by omega
                have hzr := hzget v hvz
                obtain ⟨zb', zo', hze, hzlm, hzcm⟩ := HOm.out v hvz
                simp only [Option.some.injEq, Addr.mk.injEq, and_true] at hze
                obtain ⟨rfl, rfl⟩ := hze
                obtain ⟨z, hzv⟩ : ∃ z, zs.getD v 0 = z := ⟨_, rfl⟩
                have hq3 := pickOf_range (c.tdiv 8) z (by rw [← hzv]; omega)
                obtain ⟨x, hx⟩ : ∃ x : Nat, pickOf (c.tdiv 8) z = (x : Int) := ⟨(pickOf (c.tdiv 8) z).toNat, by omega⟩
                rw [hx] at hq3
                have hrem : remOf zs c = (v, x) := by
                  unfold remOf
                  rw [hv, Int.toNat_natCast, hzv, hx, Int.toNat_natCast]
                have hxz : (x : Int) < zs.getD v 0 := by rw [hzv]; exact hq3.2
                rw [hzv] at hzcm hzr
                have Hv := hd hv
                have Hxz := hd hxz
                have hvl : (v : Int) < (zs.length : Int) := by omega
                subst hse
                have Hpick : Hid (∀ W, Calls Try.prog 16 #[.int .i64 (c.tdiv 8), .int .i64 z] W fun e w' => e = .returned (.int .i64 (x : Int)) ∧ w' = W) := fun W => by
                  have h1 := pick_any (c.tdiv 8) z hc8 (by omega) (by omega) W
                  rw [hx] at h1
                  exact h1
                have Hrem := hd hrem
                have Hcv := hd hcv
                clear hv hx hcv hzv hrem hxz
                go_wp2_with fail
                refine (pick_any c zs.length hcin (by omega) (by omega) _).mono ?_
                rw [Hv.out]
                rintro e w' ⟨rfl, rfl⟩
                go_wp2_with fail
                have hK0 : Nw wm w'.drew := HNm.out.drew
                refine region_H alkA 13 (fun w'' => Nw wm w'') (by kernel_rfl) (by kernel_rfl) (by kernel_rfl) ?_
                refine take_at (i := 0) (d := some 115) (v := .pointer (some ⟨X, 0, none⟩)) (by kernel_rfl) (by kernel_rfl) (fun _ _ _ h => h) (fun w'' hS => by kernel_rfl) hK0 ?_
                refine take_at (i := 1) (d := some 116) (v := .int .i64 (v : Int)) (by kernel_rfl) (by kernel_rfl) (fun _ _ _ h => h) (fun w'' hS => by kernel_rfl) hK0 ?_
                refine take_at (i := 2) (d := some 117) (v := .slice (some ⟨sb, so', none⟩) ys.length sc) (by kernel_rfl) (by kernel_rfl) (fun _ _ _ h => h) (fun w'' hS => by kernel_rfl) hK0 ?_
                refine take_at (i := 3) (d := some 118) (v := .int .i64 (k : Int)) (by kernel_rfl) (by kernel_rfl) (fun _ _ _ h => h) (fun w'' hS => by kernel_rfl) hK0 ?_
                refine take_at (i := 4) (d := some 119) (v := .pointer (some ⟨sb, so' + k, none⟩)) (by kernel_rfl) (by kernel_rfl) (fun _ _ _ h => h) (fun w'' hS => exec_index (i := k) (n := ys.length) (cap := sc) 22 3 (.tmp 117) (.tmp 118) (by kernel_rfl) (by kernel_rfl) (by kernel_rfl) hky (by kernel_rfl) (by kernel_rfl)) hK0 ?_
                refine take_at (i := 5) (d := some 120) (v := .int .i64 c) (by kernel_rfl) (by kernel_rfl) (fun _ _ _ h => h) (fun w'' hS => exec_load 3 (.tmp 119) (by kernel_rfl) (by kernel_rfl) (by kernel_rfl) ((hS.cell hslm (fun x => x)).trans hscm)) hK0 ?_
                refine take_at (i := 6) (d := some 121) (v := .int .i64 (c.tdiv 8)) (by kernel_rfl) (by kernel_rfl) (fun _ _ _ h => h) (fun w'' hS => exec_quo8 c (c.tdiv 8) (.tmp 120) (.const (.int .i64 8)) (by kernel_rfl) (by kernel_rfl) (by kernel_rfl) rfl hc8) hK0 ?_
                refine take_at (i := 7) (d := some 122) (v := .slice (some ⟨zb, zof, none⟩) zs.length zc) (by kernel_rfl) (by kernel_rfl) (fun _ _ _ h => h) (fun w'' hS => by kernel_rfl) hK0 ?_
                refine take_at (i := 8) (d := some 123) (v := .int .i64 (v : Int)) (by kernel_rfl) (by kernel_rfl) (fun _ _ _ h => h) (fun w'' hS => by kernel_rfl) hK0 ?_
                refine take_at (i := 9) (d := some 124) (v := .pointer (some ⟨zb, zof + v, none⟩)) (by kernel_rfl) (by kernel_rfl) (fun _ _ _ h => h) (fun w'' hS => exec_index (i := v) (n := zs.length) (cap := zc) 22 3 (.tmp 122) (.tmp 123) (by kernel_rfl) (by kernel_rfl) (by kernel_rfl) hvz (by kernel_rfl) (by kernel_rfl)) hK0 ?_
                refine take_at (i := 10) (d := some 125) (v := .int .i64 z) (by kernel_rfl) (by kernel_rfl) (fun _ _ _ h => h) (fun w'' hS => exec_load 3 (.tmp 124) (by kernel_rfl) (by kernel_rfl) (by kernel_rfl) ((hS.cell hzlm (fun x => x)).trans hzcm)) hK0 ?_
                refine enter_at (i := 11) (d := some 126) (f := 16) (args := #[.int .i64 (c.tdiv 8), .int .i64 z]) (w' := w'.drew) (by kernel_rfl) (by kernel_rfl) (by kernel_rfl) ?_
                refine (Hpick.out w'.drew).mono ?_
                rintro e w6 ⟨rfl, rfl⟩
                refine ⟨_, rfl, hK0, ?_⟩
                refine enter_at (i := 12) (d := some 127) (f := 19) (args := #[.pointer (some ⟨X, 0, none⟩), .int .i64 (v : Int), .int .i64 (x : Int)]) (w' := w'.drew) (by kernel_rfl) (by kernel_rfl) (by kernel_rfl) ?_
                refine (remove_two (H2.out.step ((Fr.refl _ w').drew)) HSa.out hvz Hxz.out).mono ?_
                rintro e w6 ⟨r, rfl, s', h2', hs'⟩
                refine ⟨_, rfl, h2'.nw, ?_⟩
                refine wpAnyH_done (by kernel_rfl) ?_ _
                simp only [Act.put, List.setIfInBounds_toArray, List.set_cons_zero, List.set_cons_succ]
                rw [← remAll_one (fullTo zs zs.length) ((ys.take k).map (remOf zs)) (v, x)] at hs'
                have H2' := hd h2'
                have HS' := hd hs'
                clear h2' hs' H2 HSa hK0
                go_wp2_with fail
                refine ⟨⟨k + 1, s', by omega, by simp, H2', ?_⟩, by simp [intOf]; omega⟩
                rw [Htk.out, Hcv.out, Hrem.out]
                exact HS'
              · obtain rfl : n = k := by omega
                have hd1 : ¬ ((n : Int) < (n : Int)) := by omega
                have H2s := hd H2.out.swap
                clear H2 HNm
                go_wp2_with fail
                go_loopw [22, 23] (fun i _ wr => ∃ (k : Nat) (t : WS), k ≤ n ∧ i = .int .i64 ((k : Int) - 1) ∧ Hid (Two wm wr Y X zs t s) ∧ Hid (PSem zs t [] (remAll (fullTo zs zs.length) (((ys.take n).drop k).reverse.map (remOf zs))))) (fun i _ _ => (intOf i + 1).toNat)
                case atStart =>
                  refine ⟨n, t0, by omega, by simp, H2s, ?_⟩
                  rw [List.drop_of_length_le (by simp; omega)]
                  exact HSb
                case round =>
                  rename World => wr
                  clear H2s HSb hk
                  obtain ⟨k, t, hk, rfl, H2, HSb⟩ := hrel
                  have HNm := hd H2.out.nw
                  cases k with
                  | succ k =>
                    have hlt : k < n := by omega
                    have e1 : (((k + 1 : Nat) : Int) - 1) = (k : Int) := by omega
                    rw [e1]
                    have hge : (0 : Int) ≤ (k : Int) := by omega
                    have hky : k < ys.length := by omega
                    have hkyI : (k : Int) < (ys.length : Int) := by omega
                    obtain ⟨sb, so', hse, hslm, hscm⟩ := (Hhs.out.nw Hf4.out) k hky
                    have hsl : sb < wr.heap.size := Nat.lt_of_lt_of_le hslm HNm.out.size
                    have hsc := (HNm.out.cell hslm (fun x => x)).trans hscm
                    have Htk : Hid (((ys.take n).drop k).reverse.map (remOf zs) = ((ys.take n).drop (k + 1)).reverse.map (remOf zs) ++ [remOf zs (ys.getD k 0)]) := hd (by
                      rw [List.drop_eq_getElem_cons (by simp; omega), List.reverse_cons, List.map_append]
                      simp [List.getD, hky])
                    obtain ⟨c, hcv⟩ : ∃ c, ys.getD k 0 = c := ⟨_, rfl⟩
                    rw [hcv] at hsc hscm
                    have hcin : In64 c := hi2 c (by rw [← hcv]; simp [List.getD, hky])
                    have hc8 := hcin.div8
                    have hw8 := hc8.wrap
                    have hq2 := pickOf_range c zs.length (by omega)
                    obtain ⟨v, hv⟩ : ∃ v : Nat, pickOf c zs.length = (v : Int) := ⟨(pickOf c zs.length).toNat, by omega⟩
                    rw [hv] at hq2
                    have hvz : v < zs.length := by omega
                    have hzr := hzget v hvz
                    obtain ⟨zb', zo', hze, hzlm, hzcm⟩ := HOm.out v hvz
                    simp only [Option.some.injEq, Addr.mk.injEq, and_true] at hze
                    obtain ⟨rfl, rfl⟩ := hze
                    obtain ⟨z, hzv⟩ : ∃ z, zs.getD v 0 = z := ⟨_, rfl⟩
                    have hq3 := pickOf_range (c.tdiv 8) z (by rw [← hzv]; omega)
                    obtain ⟨x, hx⟩ : ∃ x : Nat, pickOf (c.tdiv 8) z = (x : Int) := ⟨(pickOf (c.tdiv 8) z).toNat, by omega⟩
                    rw [hx] at hq3
                    have hrem : remOf zs c = (v, x) := by
                      unfold remOf
                      rw [hv, Int.toNat_natCast, hzv, hx, Int.toNat_natCast]
                    have hxz : (x : Int) < zs.getD v 0 := by rw [hzv]; exact hq3.2
                    rw [hzv] at hzcm hzr
                    have Hv := hd hv
                    have Hxz := hd hxz
                    have hvl : (v : Int) < (zs.length : Int) := by omega
                    subst hse
                    have Hpick : Hid (∀ W, Calls Try.prog 16 #[.int .i64 (c.tdiv 8), .int .i64 z] W fun e w' => e = .returned (.int .i64 (x : Int)) ∧ w' = W) := fun W => by
                      have h1 := pick_any (c.tdiv 8) z hc8 (by omega) (by omega) W
                      rw [hx] at h1
                      exact h1
                    have Hrem := hd hrem
                    have Hcv := hd hcv
                    clear hv hx hcv hzv hrem hxz
                    go_wp2_with fail
                    refine (pick_any c zs.length hcin (by omega) (by omega) _).mono ?_
                    rw [Hv.out]
                    rintro e w' ⟨rfl, rfl⟩
                    go_wp2_with fail
                    have hK0 : Nw wm w'.drew := HNm.out.drew
                    refine region_H alkB 13 (fun w'' => Nw wm w'') (by kernel_rfl) (by kernel_rfl) (by kernel_rfl) ?_
                    refine take_at (i := 0) (d := some 141) (v := .pointer (some ⟨Y, 0, none⟩)) (by kernel_rfl) (by kernel_rfl) (fun _ _ _ h => h) (fun w'' hS => by kernel_rfl) hK0 ?_
                    refine take_at (i := 1) (d := some 142) (v := .int .i64 (v : Int)) (by kernel_rfl) (by kernel_rfl) (fun _ _ _ h => h) (fun w'' hS => by kernel_rfl) hK0 ?_
                    refine take_at (i := 2) (d := some 143) (v := .slice (some ⟨sb, so', none⟩) ys.length sc) (by kernel_rfl) (by kernel_rfl) (fun _ _ _ h => h) (fun w'' hS => by kernel_rfl) hK0 ?_
                    refine take_at (i := 3) (d := some 144) (v := .int .i64 (k : Int)) (by kernel_rfl) (by kernel_rfl) (fun _ _ _ h => h) (fun w'' hS => by kernel_rfl) hK0 ?_
                    refine take_at (i := 4) (d := some 145) (v := .pointer (some ⟨sb, so' + k, none⟩)) (by kernel_rfl) (by kernel_rfl) (fun _ _ _ h => h) (fun w'' hS => exec_index (i := k) (n := ys.length) (cap := sc) 22 3 (.tmp 143) (.tmp 144) (by kernel_rfl) (by kernel_rfl) (by kernel_rfl) hky (by kernel_rfl) (by kernel_rfl)) hK0 ?_
                    refine take_at (i := 5) (d := some 146) (v := .int .i64 c) (by kernel_rfl) (by kernel_rfl) (fun _ _ _ h => h) (fun w'' hS => exec_load 3 (.tmp 145) (by kernel_rfl) (by kernel_rfl) (by kernel_rfl) ((hS.cell hslm (fun x => x)).trans hscm)) hK0 ?_
                    refine take_at (i := 6) (d := some 147) (v := .int .i64 (c.tdiv 8)) (by kernel_rfl) (by kernel_rfl) (fun _ _ _ h => h) (fun w'' hS => exec_quo8 c (c.tdiv 8) (.tmp 146) (.const (.int .i64 8)) (by kernel_rfl) (by kernel_rfl) (by kernel_rfl) rfl hc8) hK0 ?_
                    refine take_at (i := 7) (d := some 148) (v := .slice (some ⟨zb, zof, none⟩) zs.length zc) (by kernel_rfl) (by kernel_rfl) (fun _ _ _ h => h) (fun w'' hS => by kernel_rfl) hK0 ?_
                    refine take_at (i := 8) (d := some 149) (v := .int .i64 (v : Int)) (by kernel_rfl) (by kernel_rfl) (fun _ _ _ h => h) (fun w'' hS => by kernel_rfl) hK0 ?_
                    refine take_at (i := 9) (d := some 150) (v := .pointer (some ⟨zb, zof + v, none⟩)) (by kernel_rfl) (by kernel_rfl) (fun _ _ _ h => h) (fun w'' hS => exec_index (i := v) (n := zs.length) (cap := zc) 22 3 (.tmp 148) (.tmp 149) (by kernel_rfl) (by kernel_rfl) (by kernel_rfl) hvz (by kernel_rfl) (by kernel_rfl)) hK0 ?_
                    refine take_at (i := 10) (d := some 151) (v := .int .i64 z) (by kernel_rfl) (by kernel_rfl) (fun _ _ _ h => h) (fun w'' hS => exec_load 3 (.tmp 150) (by kernel_rfl) (by kernel_rfl) (by kernel_rfl) ((hS.cell hzlm (fun x => x)).trans hzcm)) hK0 ?_
                    refine enter_at (i := 11) (d := some 152) (f := 16) (args := #[.int .i64 (c.tdiv 8), .int .i64 z]) (w' := w'.drew) (by kernel_rfl) (by kernel_rfl) (by kernel_rfl) ?_
                    refine (Hpick.out w'.drew).mono ?_
                    rintro e w6 ⟨rfl, rfl⟩
                    refine ⟨_, rfl, hK0, ?_⟩
                    refine enter_at (i := 12) (d := some 153) (f := 19) (args := #[.pointer (some ⟨Y, 0, none⟩), .int .i64 (v : Int), .int .i64 (x : Int)]) (w' := w'.drew) (by kernel_rfl) (by kernel_rfl) (by kernel_rfl) ?_
                    refine (remove_two (H2.out.step ((Fr.refl _ w').drew)) HSb.out hvz Hxz.out).mono ?_
                    rintro e w6 ⟨r, rfl, t', h2', hs'⟩
                    refine ⟨_, rfl, h2'.nw, ?_⟩
                    refine wpAnyH_done (by kernel_rfl) ?_ _
                    simp only [Act.put, List.setIfInBounds_toArray, List.set_cons_zero, List.set_cons_succ]
                    rw [← remAll_one (fullTo zs zs.length) (((ys.take n).drop (k + 1)).reverse.map (remOf zs)) (v, x)] at hs'
                    have H2' := hd h2'
                    have HS' := hd hs'
                    clear h2' hs' H2 HSb hK0
                    go_wp2_with fail
                    refine ⟨⟨k, t', by omega, rfl, H2', ?_⟩, by simp [intOf]⟩
                    rw [Htk.out, Hcv.out, Hrem.out]
                    exact HS'
                  | zero =>
                    have hge : ¬ ((0 : Int) ≤ ((0 : Nat) : Int) - 1) := by omega
                    rw [List.drop_zero] at HSb
                    go_wp2_with fail
                    go_loopw [24] (fun i wr => ∃ (k : Nat) (t : WS), k ≤ ms.length ∧ i = .int .i64 (k : Int) ∧ Hid (Two wm wr Y X zs t s) ∧ Hid (PSem zs t ((ms.map Tw.tb).take k) (remAll (fullTo zs zs.length) ((ys.take n).reverse.map (remOf zs))))) (fun i _ => ms.length - (intOf i).toNat)
                    case atStart => exact ⟨0, t, by omega, rfl, H2, HSb⟩
                    case round =>
                      rename World => wr
                      clear H2 HSb HNm
                      obtain ⟨k, t, hk, rfl, H2, HSb⟩ := hrel
                      by_cases hlt : k < ms.length
                      · have hd2 : (k : Int) < (ms.length : Int) := by omega
                        have htlen : (List.take k (ms.map Tw.tb)).length = k := by simp; omega
                        have Hlen : Hid ((List.take k (ms.map Tw.tb)).length < 12) := hd (by rw [htlen]; omega)
                        have htake : List.take (k + 1) (ms.map Tw.tb) = List.take k (ms.map Tw.tb) ++ [(ms.getD k tw0).tb] := by
                          rw [List.take_succ_eq_append_getElem (by simpa using hlt)]
                          simp [List.getD, hlt]
                        have hTw := HM.out.step H2.out.nw
                        obtain ⟨g, cap, vo, vcap, tro, trc, hv, hgl, c0, c1, c2, c3, hvc, hI1, hI2⟩ := hTw.cell k hlt
                        simp only [Value.slice.injEq] at hv
                        obtain ⟨rfl, _, rfl⟩ := hv
                        have Hok := hd (hmok k hlt)
                        obtain ⟨tw, htv⟩ : ∃ tw, ms.getD k tw0 = tw := ⟨_, rfl⟩
                        rw [htv] at c0 c1 c2 c3 hvc hI1 hI2 Hok htake
                        have HI1 := hd hI1
                        have HI2 := hd hI2
                        have Htake := hd htake
                        clear htv htake htlen hI1 hI2 hTw
                        go_wp2_with fail
                        refine (post_two H2.out HSb.out Hlen.out Hok.out hvc HI1.out HI2.out).mono ?_
                        rintro e w6 ⟨r, rfl, t', h2', hs'⟩
                        have H2' := hd h2'
                        have HS' := hd hs'
                        clear h2' hs' H2 HSb
                        go_wp2_with fail
                        refine ⟨⟨k + 1, t', by omega, by simp, H2', ?_⟩, by simp [intOf]; omega⟩
                        rw [Htake.out]
                        exact HS'
                      · obtain rfl : ms.length = k := by omega
                        have hd2 : ¬ ((ms.length : Int) < (ms.length : Int)) := by omega
                        rw [List.take_of_length_le (by simp)] at HSb
                        have hdm := full_dm hzok
                        have hrl : ∀ l : List Int, ∀ p ∈ l.map (remOf zs), p.1 < 8 := fun l p hp => by
                          obtain ⟨c, _, rfl⟩ := List.mem_map.1 hp
                          have := pickOf_range c zs.length (by omega)
                          show (pickOf c zs.length).toNat < 8
                          omega
                        have hsub : ∀ e, SubD e (remAll (fullTo zs zs.length) ((ys.take n).map (remOf zs))) ↔ SubD e (remAll (fullTo zs zs.length) ((ys.take n).reverse.map (remOf zs))) := fun e => by
                          rw [sub_remAll _ hdm (hrl _), sub_remAll _ hdm (hrl _)]
                          simp only [List.mem_map, List.mem_reverse]
                        obtain ⟨hsd, hsol⟩ := alike_sem H2.out.b H2.out.a HSa.out HSb.out Hmem.out hsub
                        have Hsd := hd hsd
                        have Hsol := hd hsol
                        clear hsd hsol hsub hrl hdm
                        go_wp2_with fail
                        refine (sameDomains_any X Y zs s t _ H2.out.b H2.out.a HSa.out.busy HSb.out.busy Hsd.out).mono ?_
                        rintro e w7 ⟨rfl, hf7⟩
                        have H7 := hd (H2.out.swap.step hf7)
                        clear hf7 H2
                        go_wp2_with fail
                        refine (count_two 1000 H7.out HSa.out.busy (by decide)).mono ?_
                        rw [Hsol.out]
                        obtain ⟨cn, hcn⟩ : ∃ cn, min 1000 (solN t.d t.bs zs.length []).length = cn := ⟨_, rfl⟩
                        have Hcn := hd hcn
                        rw [hcn]
                        clear hcn
                        rintro e w8 ⟨rfl, h8⟩
                        have H8 := hd h8.swap
                        clear h8 H7
                        go_wp2_with fail
                        refine (count_two 1000 H8.out HSb.out.busy (by decide)).mono ?_
                        rw [Hcn.out]
                        rintro e w9 ⟨rfl, h9⟩
                        have H9 := hd h9.nw
                        clear h9 H8
                        go_wp2_with fail
                        go_ret
                        exact ⟨rfl, Hf4.out.trans H9.out (fun _ x => x.elim)⟩
end Go.Proofs.Ytkjfpdfkcfgfkaa
