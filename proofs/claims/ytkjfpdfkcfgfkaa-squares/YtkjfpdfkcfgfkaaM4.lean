/- Parts of the proof, number 4: contracts of the functions that the statement calls. -/
import Derived.Test.YtkjfpdfkcfgfkaaM3
import Derived.Test.YtkjfpdfkcfgfkaaM0
import Derived.Test.YtkjfpdfkcfgfkaaM1
import Derived.Deep.CutBlock
import Derived.Test.YtkjfpdfkcfgfkaaRows
import Derived.Deep.Slices
import Derived.BigQuiet

/- settle, over any tables, at any level. -/
namespace Go.Proofs.Ytkjfpdfkcfgfkaa
open Go.RowKit

theorem Dm.mem {d : List Nat} (h : Dm d) : ∀ x ∈ d, x < 64 := by
  intro x hx
  obtain ⟨i, hi, e⟩ := List.getElem_of_mem hx
  have := h.lt i
  simpa [List.getD, hi, e] using this
theorem zero8_dm : Dm zero8 := ⟨rfl, fun q => by rw [zero8_get]; decide⟩
theorem zero8_sub (d : List Nat) : SubD zero8 d := fun q v h => by rw [zero8_get] at h; simp at h
theorem bits_zero8 : bitsOf zero8 = 0 := by decide

set_option maxHeartbeats 6400000 in
set_option maxRecDepth 1000000 in
theorem settle_any (c : SCtx) (next : List Nat) (m : List Bool) (w : World)
    (hX : Blk w c.X (workCells c.szv c.d (.slice c.so c.ts.length c.tcap) c.l) 82) (hsz : Row w c.szv 3 (c.zs.map (Value.int .i64))) (hz0 : 0 < c.zs.length) (hzl : c.zs.length ≤ 8) (hd8 : c.d.length = 8) (hd6 : ∀ x ∈ c.d, x < 64)
    (ht : TabsAt w c.so c.tcap c.ts) (hinj : Inj c.ts) (h12 : c.ts.length ≤ 12) (hm : m.length = 12) (hmo : ∀ k, c.ts.length ≤ k → m.getD k false = false)
    (htr : TrAt w c.l c.ss c.xs) (hxs : c.xs.length + (bitsOf next * 13 + marksOf m) ≤ 900000) (hS : SInv c.bs c.ts m c.start next) (hb : TbsOk c.zs.length c.bs) (hf : Fits c.bs c.ts) :
    Calls Try.prog 53 #[.pointer (some ⟨c.X, 0, none⟩), .agg (domV next), .agg (mksV m)] w fun e w' => e = .returned (.tuple #[]) ∧ ∃ d' bv ts us, Settled c (bitsOf next * 13 + marksOf m) w w' d' bv ts us := by
  obtain ⟨B, hB⟩ : ∃ B, bitsOf next * 13 + marksOf m = B := ⟨_, rfl⟩
  rw [hB] at hxs ⊢
  obtain ⟨W, hW⟩ : ∃ W, W = (w.alloc (.cells (domV next) 76)).alloc (.cells (mksV m) 91) := ⟨_, rfl⟩
  have hfW : Nw w W := by rw [hW]; exact ((Fr.refl _ w).alloc _).alloc _
  have hbN : Blk W w.heap.size (domV next) 76 := by rw [hW]; exact (Blk.new _ _ _).alloc _
  have hbM : Blk W (w.heap.size + 1) (mksV m) 91 := by
    rw [hW]
    have := Blk.new (w.alloc (.cells (domV next) 76)) (mksV m) 91
    simpa using this
  have hM0 : SMem c w W next m c.ts c.l.backs [] := ⟨hfW.mono (fun i h => h.elim), fun k hk => .inl hk, hX.nw hfW, hbN, hbM, hsz.nw hfW, ht.nw hfW, by rw [keepIf_nil]; exact htr.nw hfW, SameT.refl _, fun u hu => (by cases hu), fun u hu => (by cases hu), rfl⟩
  have hXlt := hX.lt
  have HW := hd hW
  have H0 : Hid (∃ next m ts bv us, Hid (SMem c w W next m ts bv us) ∧ Hid (SInv c.bs ts m c.start next) ∧ Hid (us.length + (bitsOf next * 13 + marksOf m) ≤ B) ∧ Hid (m.length = 12) ∧ Hid (∀ k, c.ts.length ≤ k → m.getD k false = false)) :=
    ⟨next, m, c.ts, c.l.backs, [], hM0, hS, by show 0 + _ ≤ B; omega, hm, hmo⟩
  have hsm := slice_marks (w.heap.size + 1)
  have Hb := hd hb
  have Hf := hd hf
  have Hinj := hd hinj
  have Hd6 := hd hd6
  clear hX hsz ht htr hbN hbM hW hM0 hfW hS hm hmo hB hb hf hinj hd6
  go_enter Try.func53, Try.ntmps53
  go_wp2_with fail
  rw [← HW.out]
  go_loopw [] (fun wr => ∃ next m ts bv us, Hid (SMem c w wr next m ts bv us) ∧ Hid (SInv c.bs ts m c.start next) ∧ Hid (us.length + (bitsOf next * 13 + marksOf m) ≤ B) ∧ Hid (m.length = 12) ∧ Hid (∀ k, c.ts.length ≤ k → m.getD k false = false)) (fun wr => muOf wr w.heap.size)
  case atStart => exact H0
  case round =>
    obtain ⟨next, m, ts, bv, us, HM, HS, HC, Hml, Hmo⟩ := hrel
    clear H0 HW
    have h8 : next.length = 8 := HS.out.dm.len
    obtain ⟨v0, v1, v2, v3, v4, v5, v6, v7, hdv⟩ := domV8 h8
    obtain ⟨⟨x0, rfl⟩, ⟨x1, rfl⟩, ⟨x2, rfl⟩, ⟨x3, rfl⟩, ⟨x4, rfl⟩, ⟨x5, rfl⟩, ⟨x6, rfl⟩, ⟨x7, rfl⟩⟩ := domV_one next hdv
    obtain ⟨c0, c1, c2, c3, c4, c5, c6, c7⟩ := cells8 (hdv ▸ HM.out.nx)
    have Hdv := hd hdv
    have hxl : (keepIf c.ss c.xs us).length ≤ 1000000 := by
      have h1 := keepIf_len c.ss c.xs us
      have h2 := HC.out
      omega
    clear hdv
    go_wp2_with fail
    rw [← Hdv.out]
    refine (emptied_any c.X c.szv c.d _ _ c.zs next _ HM.out.blk HM.out.sz hzl h8).mono ?_
    have hef := empty_full (n := c.zs.length) h8 hzl
    cases hE : emptyB c.zs.length next with
    | true =>
      have Hnf : Hid (¬ Full c.zs.length next) := fun h => by rw [hef.2 h] at hE; cases hE
      clear hef hE
      rintro e w1 ⟨rfl, hf1⟩
      have HM1 := hd (HM.out.nw hf1)
      clear hf1 c0 c1 c2 c3 c4 c5 c6 c7
      go_wp2_with (go_at_call 67; refine (replaceW_any c.X c.szv c.d _ ⟨bv, c.l.starts, c.l.busy⟩ c.ss (keepIf c.ss c.xs us) zero8 _ HM1.out.blk hd8 HM1.out.tr hxl rfl Hd6.out zero8_dm.mem).mono ?_; rintro e w2 ⟨rfl, hf2, hp2⟩)
      go_end0
      obtain ⟨bv', us', hset⟩ := HM1.out.replaced (B := B) hd8 Hd6.out (HS.out.dead hz0 Hnf.out) zero8_dm (fun k hk => (HS.out.rep k hk).mono (zero8_sub _)) (by rw [bits_zero8]; have := HC.out; omega) hf2 rfl hp2
      exact ⟨rfl, zero8, bv', ts, us', hset⟩
    | false =>
      have Hfull : Hid (Full c.zs.length next) := hef.1 hE
      clear hef hE
      rintro e w1 ⟨rfl, hf1⟩
      have HM1 := hd (HM.out.nw hf1)
      clear hf1 c0 c1 c2 c3 c4 c5 c6 c7
      rcases firstAt_spec m 0 with ⟨hfi, hq⟩ | ⟨k, hk12, hfi, hkm⟩
      · obtain ⟨c0, c1, c2, c3, c4, c5, c6, c7⟩ := cells8 (Hdv.out ▸ HM1.out.nx)
        have Hfi := hd hfi
        have Hq := hd hq
        clear hfi hq
        go_wp2_with (first
          | (go_at_call 66; refine (index_mks (w.heap.size + 1) m _ Hml.out HM1.out.mks).mono ?_; rw [Hfi.out]; rintro e w2 ⟨rfl, rfl⟩)
          | (go_at_call 67; rw [← Hdv.out]; refine (replaceW_any c.X c.szv c.d _ ⟨bv, c.l.starts, c.l.busy⟩ c.ss (keepIf c.ss c.xs us) next _ HM1.out.blk hd8 HM1.out.tr hxl h8 Hd6.out HS.out.dm.mem).mono ?_; rintro e w3 ⟨rfl, hf3, hp3⟩))
        obtain ⟨bv', us', hset⟩ := HM1.out.replaced (B := B) hd8 Hd6.out (HS.out.done Hfull.out (fun k _ => Hq.out k)) HS.out.dm HS.out.rep (by have := HC.out; omega) hf3 rfl hp3
        exact bodyPost_ret (v := .tuple #[]) (results_none rfl _ _ _) rfl ⟨rfl, next, bv', ts, us', hset⟩
      · have hkt : k < ts.length := by
          refine Classical.byContradiction fun hc => ?_
          have h1 := Hmo.out k (by rw [← HM.out.same.len]; omega)
          rw [h1] at hkm
          cases hkm
        have hfi' : firstAt true m 0 = (k : Int) := by rw [hfi, Nat.zero_add]
        have Hfi := hd hfi'
        have Hkm := hd hkm
        clear hfi hfi' hkm
        go_wp2_with (go_at_call 66; refine (index_mks (w.heap.size + 1) m _ Hml.out HM1.out.mks).mono ?_; rw [Hfi.out]; rintro e w2 ⟨rfl, rfl⟩)
        have hro := HM1.out.tabs.row
        obtain ⟨tb, tc, hso, _, hck, _⟩ := hro.cell k (by simpa using hkt)
        have hso' : c.so = some ⟨tb, 0, none⟩ := by simp at hso; exact hso.1
        obtain ⟨x, hx⟩ : ∃ x, ts.getD k tab0 = x := ⟨_, rfl⟩
        have hxk : ts[k] = x := by rw [← hx]; simp [List.getD, hkt]
        have hcI : w2.cell? ⟨tb, k, none⟩ = some (.iface x.t.ty (.pointer (some ⟨x.G, 0, none⟩))) := by
          rw [hck]
          simp only [List.getElem_map, hxk]
          rfl
        have hcT : w2.cell? ⟨c.X, 9, none⟩ = some (.slice (some ⟨tb, 0, none⟩) ts.length c.tcap) := (HM1.out.blk.cell 9).trans ((workCells_tabs _ _ _ _ hd8).trans (by rw [hso']))
        have htbl : tb < w2.heap.size := by
          have := hro.lt (k := tb) (by rw [hso']; rfl)
          exact this
        have hXl2 := HM1.out.blk.lt
        have hNl2 := HM1.out.nx.lt
        have hMl2 := HM1.out.mks.lt
        obtain ⟨ty, hty⟩ : ∃ ty, x.t.ty = ty := ⟨_, rfl⟩
        rw [hty] at hcI
        obtain ⟨nd, hnd⟩ : ∃ nd, tDom x.vars next x.t = nd := ⟨_, rfl⟩
        have hn8 : nd.length = 8 := by rw [← hnd]; exact tDom_len8 _ _ h8 _
        obtain ⟨n0, n1, n2, n3, n4, n5, n6, n7, hnv⟩ := domV8 hn8
        obtain ⟨⟨y0, rfl⟩, ⟨y1, rfl⟩, ⟨y2, rfl⟩, ⟨y3, rfl⟩, ⟨y4, rfl⟩, ⟨y5, rfl⟩, ⟨y6, rfl⟩, ⟨y7, rfl⟩⟩ := domV_one nd hnv
        have hat := HM1.out.tabs.at_ k hkt
        have h4 := HM1.out.tabs.four k hkt
        have hok := HM1.out.tabs.ok k hkt
        rw [hx] at hat h4 hok
        have hk31 : (k : Int) < ts.length := by omega
        have hts12 : ts.length ≤ 12 := by rw [HM1.out.same.len]; exact h12
        have Hat := hd hat
        have Hok := hd hok
        have Hnd := hd hnd
        have Hnv := hd hnv
        have Hty := hd hty
        have Hx := hd hx
        clear hro hso hck hxk hat hok hnd hnv hty hx
        go_cut [7] (fun p wx => ∃ N, p = .pointer (some ⟨N, 0, none⟩) ∧ Hid (Blk wx N (domV nd) 76) ∧ ∃ t' bv' T S, Hid (TS.Next x.vars next x.t t') ∧ Hid (SMem c w wx next m (ts.set k { x with t := t' }) bv' (us ++ [Un.n T S k x.t])) ∧ w.heap.size + 2 ≤ N)
        case first =>
          have hKx : ∀ (wa : World) (ts' : List Tab) (bv' : Value) (us' : List Un), SMem c w wa next m ts' bv' us' → ts'.length = ts.length → (ts'.getD k tab0).val = .iface ty (.pointer (some ⟨x.G, 0, none⟩)) → wa.cell? ⟨c.X, 9, none⟩ = some (.slice (some ⟨tb, 0, none⟩) ts.length c.tcap) ∧ wa.cell? ⟨tb, k, none⟩ = some (.iface ty (.pointer (some ⟨x.G, 0, none⟩))) ∧ Blk wa w.heap.size (domV next) 76 := by
            intro wa ts' bv' us' hm hl hv
            have h := hm.reads hd8 (k := k) (by omega) hso'
            rw [hl, hv] at h
            exact h
          have hval : (ts.getD k tab0).val = .iface ty (.pointer (some ⟨x.G, 0, none⟩)) := by rw [Hx.out, ← Hty.out]; rfl
          have hval' : ∀ t', TS.Kin x.t t' → ((ts.set k { x with t := t' }).getD k tab0).val = .iface ty (.pointer (some ⟨x.G, 0, none⟩)) := by
            intro t' ht'
            rw [getD_setT _ _ _ _ hkt, if_pos rfl, ← Hty.out]
            show Value.iface t'.ty _ = _
            rw [ht'.ty]
          have HMd : Hid (SMem c w w2.drew next m ts bv us) := HM1.out.nw ((Fr.refl _ w2).drew)
          have hK0 := hKx _ _ _ _ HMd.out rfl hval
          refine wp_region_held (S := fun w' => w'.cell? ⟨c.X, 9, none⟩ = some (.slice (some ⟨tb, 0, none⟩) ts.length c.tcap) ∧ w'.cell? ⟨tb, k, none⟩ = some (.iface ty (.pointer (some ⟨x.G, 0, none⟩))) ∧ Blk w' w.heap.size (domV next) 76) (by kernel_rfl) ?_
          refine wpAnyH_take (i := 0) (v := .pointer (some ⟨c.X, 0, none⟩)) rfl (by kernel_rfl) (by kernel_rfl) (by kernel_rfl) (fun _ _ _ h => h) (.inl ⟨by kernel_rfl, fun w' _ => rfl⟩) hK0 ?_
          refine wpAnyH_take (i := 1) (v := .pointer (some ⟨c.X, 0, none⟩)) rfl (by kernel_rfl) (by kernel_rfl) (by kernel_rfl) (fun _ _ _ h => h) (.inl ⟨by kernel_rfl, fun w' _ => rfl⟩) hK0 ?_
          refine wpAnyH_take (i := 2) (v := .pointer (some ⟨c.X, 0, none⟩)) rfl (by kernel_rfl) (by kernel_rfl) (by kernel_rfl) (fun _ _ _ h => h) (.inl ⟨by kernel_rfl, fun w' hS => by kernel_rfl⟩) hK0 ?_
          refine wpAnyH_take (i := 3) (v := .pointer (some ⟨c.X, 9, none⟩)) rfl (by kernel_rfl) (by kernel_rfl) (by kernel_rfl) (fun _ _ _ h => h) (.inl ⟨by kernel_rfl, fun w' hS => by kernel_rfl⟩) hK0 ?_
          refine wpAnyH_take (i := 4) (v := .slice (some ⟨tb, 0, none⟩) ts.length c.tcap) rfl (by kernel_rfl) (by kernel_rfl) (by kernel_rfl) (fun _ _ _ h => h) (.inl ⟨by kernel_rfl, fun w' hS => ?_⟩) hK0 ?_
          · have hc := hS.1
            clear hS hK0 hKx hval hval' hcT hcI hso'
            go_simp
          refine wpAnyH_take (i := 5) (v := .int .i64 (k : Int)) rfl (by kernel_rfl) (by kernel_rfl) (by kernel_rfl) (fun _ _ _ h => h) (.inl ⟨by kernel_rfl, fun w' hS => rfl⟩) hK0 ?_
          refine wpAnyH_take (i := 6) (v := .pointer (some ⟨tb, k, none⟩)) rfl (by kernel_rfl) (by kernel_rfl) (by kernel_rfl) (fun _ _ _ h => h) (.inl ⟨by kernel_rfl, fun w' hS => ?_⟩) hK0 ?_
          · clear hS hK0 hKx hval hval' hcT hcI hso'
            simp only [Act.put, List.setIfInBounds_toArray, List.set_cons_zero, List.set_cons_succ, List.getElem_toArray, List.getElem_cons_zero, List.getElem_cons_succ]
            go_simp
          refine wpAnyH_take (i := 7) (v := .iface ty (.pointer (some ⟨x.G, 0, none⟩))) rfl (by kernel_rfl) (by kernel_rfl) (by kernel_rfl) (fun _ _ _ h => h) (.inl ⟨by kernel_rfl, fun w' hS => ?_⟩) hK0 ?_
          · have hc := hS.2.1
            clear hS hK0 hKx hval hval' hcT hcI hso'
            go_simp
          refine wpAnyH_take (i := 8) (v := .agg (domV next)) rfl (by kernel_rfl) (by kernel_rfl) (by kernel_rfl) (fun _ _ _ h => h) (.inl ⟨by kernel_rfl, fun w' hS => ?_⟩) hK0 ?_
          · obtain ⟨k0, k1, k2, k3, k4, k5, k6, k7⟩ := cells8 (Hdv.out ▸ hS.2.2)
            clear hS hK0 hKx hval hval' hcT hcI hso'
            rw [Hdv.out]
            go_simp
          refine wpAnyH_all (rs := [9, 10]) (by kernel_rfl) (by simp) (fun i hi => ?_)
          rcases List.mem_cons.1 hi with rfl | hi
          · refine op_enter (f := 68) (args := #[.pointer (some ⟨c.X, 0, none⟩), .iface ty (.pointer (some ⟨x.G, 0, none⟩)), .agg (domV next)]) (w' := w2.drew) rfl (by kernel_rfl) (by kernel_rfl) ?_
            have hnar := narrowW_any c.X x.G x.g x.cap c.szv c.d _ _ c.ss _ x.vars x.t next _ HMd.out.blk hd8 HMd.out.tr hxl (Hat.out.nw ((Fr.refl _ w2).drew)) h8 h4 Hok.out HS.out.dm.lt
            rw [Hty.out, Hnd.out] at hnar
            refine hnar.mono ?_
            clear hnar
            rintro e w3 ⟨rfl, hf3, bv', t', S, hnx, hT3, hX3, htr3, hbT3, hbS3, hSl, _, hown⟩
            have hM3 := HMd.out.narrowed Hinj.out hkt (t' := t') (T := w2.drew.heap.size) (S := S) (by rw [Hx.out]; exact hnx.kin) (by rw [Hx.out]; exact hf3) (by rw [Hx.out]; exact hT3) hX3 htr3 (by rw [hval]; exact hbT3) (by rw [Hx.out]; exact hbS3) hown (Nat.le_refl _) hSl
            rw [Hx.out] at hM3
            have hs3 : w2.heap.size ≤ w3.heap.size := hf3.size
            have hK1 := hKx _ _ _ _ hM3 (by simp) (hval' t' hnx.kin)
            refine ⟨_, rfl, hK1, ?_⟩
            refine wpAnyH_all (rs := [10]) (by kernel_rfl) (by simp) (fun i hi => ?_)
            rcases List.mem_cons.1 hi with rfl | hi
            · obtain ⟨Y, hY⟩ : ∃ Y, Y = w3.alloc (.cells (domV zero8) 76) := ⟨_, rfl⟩
              have hfY : Nw w3 Y := by rw [hY]; exact (Fr.refl _ w3).alloc _
              have hZ : Blk Y w3.heap.size (domV zero8) 76 := by rw [hY]; exact Blk.new _ _ _
              have hMY := hM3.nw hfY
              have hKY := hKx _ _ _ _ hMY (by simp) (hval' t' hnx.kin)
              refine op_value (v := .pointer (some ⟨w3.heap.size, 0, none⟩)) (w' := Y) rfl (by kernel_rfl) ?_ ⟨hKY, ?_⟩
              · rw [hY]
                kernel_rfl
              · refine wpAnyH_all (rs := [11]) (by kernel_rfl) (by simp) (fun i hi => ?_)
                rcases List.mem_cons.1 hi with rfl | hi
                · have hF8 := (Fr.refl (fun k => k = w3.heap.size) Y).set8 w3.heap.size 0 1 2 3 4 5 6 7 (.int .u8 y0) (.int .u8 y1) (.int .u8 y2) (.int .u8 y3) (.int .u8 y4) (.int .u8 y5) (.int .u8 y6) (.int .u8 y7) (.inl rfl)
                  have hB8 := hZ.put8 Hnv.out
                  obtain ⟨q0, q1, q2, q3, q4, q5, q6, q7⟩ := cells8 hZ
                  have hfz := hZ.free
                  have hM8 := hMY.wr hF8 ((Only.one hZ).mono (fun _ x => x) (by decide)) (fun k hk => by omega) (hMY.nx.fr hF8 (by omega)) (hMY.mks.fr hF8 (by omega))
                  have hK8 := hKx _ _ _ _ hM8 (by simp) (hval' t' hnx.kin)
                  clear hY
                  refine op_skip (w' := _) rfl (by kernel_rfl) ?_ ⟨hK8, wpAnyH_done (by kernel_rfl) ?_ _⟩
                  · clear hK1 hK0 hKY hf3 hF8 hB8 hM8 hK8 hMY hM3 hX3 hT3 hbT3 hbS3 htr3 hval hval' hKx hcT hcI hso' hnx hown
                    rw [Hnv.out]
                    go_simp
                  · simp only [Act.put, List.setIfInBounds_toArray, List.set_cons_zero, List.set_cons_succ, List.getElem_toArray, List.getElem_cons_zero, List.getElem_cons_succ]
                    go_wp2_with fail
                    go_meet
                    case rel => exact ⟨w3.heap.size, rfl, hB8, t', bv', _, S, hnx, hM8, by omega⟩
                · simp at hi
            · simp at hi
          · rcases List.mem_cons.1 hi with rfl | hi
            · obtain ⟨Y, hY⟩ : ∃ Y, Y = w2.drew.alloc (.cells (domV zero8) 76) := ⟨_, rfl⟩
              have hfY : Nw w2 Y := by rw [hY]; exact ((Fr.refl _ w2).drew).alloc _
              have hZ : Blk Y w2.heap.size (domV zero8) 76 := by rw [hY]; exact Blk.new _ _ _
              have hMY := HM1.out.nw hfY
              have hKY := hKx _ _ _ _ hMY rfl hval
              refine op_value (v := .pointer (some ⟨w2.heap.size, 0, none⟩)) (w' := Y) rfl (by kernel_rfl) ?_ ⟨hKY, ?_⟩
              · rw [hY]
                kernel_rfl
              · refine wpAnyH_all (rs := [9]) (by kernel_rfl) (by simp) (fun i hi => ?_)
                rcases List.mem_cons.1 hi with rfl | hi
                · refine op_enter (f := 68) (args := #[.pointer (some ⟨c.X, 0, none⟩), .iface ty (.pointer (some ⟨x.G, 0, none⟩)), .agg (domV next)]) (w' := Y) rfl (by kernel_rfl) (by kernel_rfl) ?_
                  have hnar := narrowW_any c.X x.G x.g x.cap c.szv c.d _ _ c.ss _ x.vars x.t next _ hMY.blk hd8 hMY.tr hxl (Hat.out.nw hfY) h8 h4 Hok.out HS.out.dm.lt
                  rw [Hty.out, Hnd.out] at hnar
                  refine hnar.mono ?_
                  clear hnar
                  rintro e w3 ⟨rfl, hf3, bv', t', S, hnx, hT3, hX3, htr3, hbT3, hbS3, hSl, _, hown⟩
                  have hM3 := hMY.narrowed Hinj.out hkt (t' := t') (T := Y.heap.size) (S := S) (by rw [Hx.out]; exact hnx.kin) (by rw [Hx.out]; exact hf3) (by rw [Hx.out]; exact hT3) hX3 htr3 (by rw [hval]; exact hbT3) (by rw [Hx.out]; exact hbS3) hown (Nat.le_refl _) hSl
                  rw [Hx.out] at hM3
                  have hs3 := hf3.size
                  have hK1 := hKx _ _ _ _ hM3 (by simp) (hval' t' hnx.kin)
                  refine ⟨_, rfl, hK1, ?_⟩
                  refine wpAnyH_all (rs := [11]) (by kernel_rfl) (by simp) (fun i hi => ?_)
                  rcases List.mem_cons.1 hi with rfl | hi
                  · have hZ3 := hZ.frO hf3 (Hx.out ▸ hMY.only hkt) (by decide)
                    have hF8 := (Fr.refl (fun k => k = w2.heap.size) w3).set8 w2.heap.size 0 1 2 3 4 5 6 7 (.int .u8 y0) (.int .u8 y1) (.int .u8 y2) (.int .u8 y3) (.int .u8 y4) (.int .u8 y5) (.int .u8 y6) (.int .u8 y7) (.inl rfl)
                    have hB8 := hZ3.put8 Hnv.out
                    obtain ⟨q0, q1, q2, q3, q4, q5, q6, q7⟩ := cells8 hZ3
                    have hfz := hZ3.free
                    have hM8 := hM3.wr hF8 ((Only.one hZ3).mono (fun _ x => x) (by decide)) (fun k hk => by omega) (hM3.nx.fr hF8 (by omega)) (hM3.mks.fr hF8 (by omega))
                    have hK8 := hKx _ _ _ _ hM8 (by simp) (hval' t' hnx.kin)
                    clear hY
                    refine op_skip (w' := _) rfl (by kernel_rfl) ?_ ⟨hK8, wpAnyH_done (by kernel_rfl) ?_ _⟩
                    · clear hK1 hK0 hKY hf3 hF8 hB8 hM8 hK8 hMY hM3 hX3 hT3 hbT3 hbS3 htr3 hval hval' hKx hcT hcI hso' hnx hown hZ hZ3
                      rw [Hnv.out]
                      go_simp
                    · simp only [Act.put, List.setIfInBounds_toArray, List.set_cons_zero, List.set_cons_succ, List.getElem_toArray, List.getElem_cons_zero, List.getElem_cons_succ]
                      go_wp2_with fail
                      go_meet
                      case rel => exact ⟨w2.heap.size, rfl, hB8, t', bv', _, S, hnx, hM8, by omega⟩
                  · simp at hi
                · simp at hi
            · simp at hi
        case rest =>
          obtain ⟨N, rfl, hN, t', bv', T, S, HNx, HM3, hNl⟩ := hcut
          clear hcT hcI
          have hlen : (ts.set k { x with t := t' }).length = ts.length := by simp
          obtain ⟨ts', hts'⟩ : ∃ ts', ts.set k { x with t := t' } = ts' := ⟨_, rfl⟩
          obtain ⟨us', hus'⟩ : ∃ us', us ++ [Un.n T S k x.t] = us' := ⟨_, rfl⟩
          have hM3 := HM3.out
          rw [hts', hus'] at hM3
          rw [hts'] at hlen
          obtain ⟨c0, c1, c2, c3, c4, c5, c6, c7⟩ := cells8 (Hdv.out ▸ hM3.nx)
          obtain ⟨k0, k1, k2, k3, k4, k5, k6, k7⟩ := cells8 (Hnv.out ▸ hN.out)
          have hwk : ∀ j, wakeTo ts' next nd m j = wakeTo ts next nd m j := by
            intro j
            induction j with
            | zero => rfl
            | succ j ih =>
              have e : (ts'.getD j tab0).vars = (ts.getD j tab0).vars := by
                rw [← hts', getD_setT _ _ _ _ hkt]
                by_cases e : k = j
                · subst e
                  rw [if_pos rfl, Hx.out]
                · rw [if_neg e]
              simp only [wakeTo, ih, e]
          have Hwk := hd hwk
          have Hts' := hd hts'
          have Hus' := hd hus'
          have HM3' := hd hM3
          have hst : ∀ o, c.so = some o → o.block ≠ w.heap.size + 1 := fun o ho e => by
            have h1 := hM3.tabs.row
            refine h1.ne hM3.mks (by decide) ?_
            rw [hso'] at ho ⊢
            cases ho
            exact congrArg some e
          have hnM : ∀ i, i < ts'.length → (ts'.getD i tab0).G ≠ w.heap.size + 1 ∧ (ts'.getD i tab0).g ≠ w.heap.size + 1 := fun i hi => by
            have h1 := hM3.tabs.at_ i hi
            refine ⟨fun e => ?_, fun e => ?_⟩
            · obtain ⟨cu, e', hb', hc'⟩ := h1.tyAt (.inl rfl)
              rw [e] at hb'
              have := (hb'.inj hM3.mks).2
              subst this
              revert hc'
              decide
            · obtain ⟨cu, e', hb', hc'⟩ := h1.tyAt (.inr (.inl rfl))
              rw [e] at hb'
              have := (hb'.inj hM3.mks).2
              subst this
              revert hc'
              decide
          have Hst := hd hst
          have HnM := hd hnM
          clear HM3 hts' hus' hM3 hwk hst hnM
          go_wp2_with fail
          rw [← Hdv.out, ← Hnv.out]
          refine (wake_any c.X (w.heap.size + 1) c.so c.tcap c.szv c.d _ ts' next nd m _ HM3'.out.blk hd8 HM3'.out.tabs (by omega) Hml.out HnM.out Hst.out h8 hn8 HM3'.out.mks).mono ?_
          rw [Hwk.out, hlen]
          rintro e w4 ⟨rfl, hf4, hM4⟩
          have hN4 := hN.out.fr hf4 (by omega)
          have hS4 := HM3'.out.wr hf4 ((Only.one HM3'.out.mks).mono (fun _ x => x) (by decide)) (fun k hk => by omega) (HM3'.out.nx.fr hf4 (by omega)) hM4
          have hwl : (wakeTo ts next nd m ts.length).length = 12 := by rw [wakeTo_length]; exact Hml.out
          obtain ⟨bm, hbm⟩ : ∃ b, w4.cell? ⟨w.heap.size + 1, k, none⟩ = some b := ⟨_, (hM4.cell k).trans (mksV_get _ _ (by omega))⟩
          have hfm := hM4.free k
          have hk12' : k < 12 := by omega
          have HS4 := hd hS4
          have HN4 := hd hN4
          have HM4 := hd hM4
          have Hwl := hd hwl
          clear hf4 hS4 hN4 hM4 hwl c0 c1 c2 c3 c4 c5 c6 c7 k0 k1 k2 k3 k4 k5 k6 k7
          go_upto_region 8 with fail
          obtain ⟨U, hU⟩ : ∃ U, U = w4.setCell ⟨w.heap.size + 1, k, none⟩ (.bool false) := ⟨_, rfl⟩
          have hfU : Fr (fun k => k = w.heap.size + 1) w4 U := by rw [hU]; exact (Fr.refl _ w4).setCell _ _ (.inl rfl)
          have hMU : Blk U (w.heap.size + 1) (mksV ((wakeTo ts next nd m ts.length).set k false)) 91 := by
            have h5 := HM4.out.set k (.bool false)
            have e6 : mksV ((wakeTo ts next nd m ts.length).set k false) = (mksV (wakeTo ts next nd m ts.length)).setIfInBounds k (.bool false) := by simp [mksV, List.map_set]
            rw [hU, e6]
            exact h5
          rw [← hU]
          have hSU := HS4.out.wr hfU ((Only.one HM4.out).mono (fun _ x => x) (by decide)) (fun k hk => by omega) (HS4.out.nx.fr hfU (by omega)) hMU
          have hNU := HN4.out.fr hfU (by omega)
          obtain ⟨c0, c1, c2, c3, c4, c5, c6, c7⟩ := cells8 (Hdv.out ▸ hSU.nx)
          obtain ⟨k0, k1, k2, k3, k4, k5, k6, k7⟩ := cells8 (Hnv.out ▸ hNU)
          have hfz := hSU.nx.free
          have hB8 := Blk.set8 (cur := #[Value.int .u8 x0, Value.int .u8 x1, Value.int .u8 x2, Value.int .u8 x3, Value.int .u8 x4, Value.int .u8 x5, Value.int .u8 x6, Value.int .u8 x7]) (Hdv.out ▸ hSU.nx) 0 1 2 3 4 5 6 7 (.int .u8 y0) (.int .u8 y1) (.int .u8 y2) (.int .u8 y3) (.int .u8 y4) (.int .u8 y5) (.int .u8 y6) (.int .u8 y7)
          rw [arr8, ← Hnv.out] at hB8
          have hF8 := (Fr.refl (fun k => k = w.heap.size) U).set8 w.heap.size 0 1 2 3 4 5 6 7 (.int .u8 y0) (.int .u8 y1) (.int .u8 y2) (.int .u8 y3) (.int .u8 y4) (.int .u8 y5) (.int .u8 y6) (.int .u8 y7) (.inl rfl)
          have hSV := hSU.wr hF8 ((Only.one hSU.nx).mono (fun _ x => x) (by decide)) (fun k hk => by omega) hB8 (hMU.fr hF8 (by omega))
          have HSV := hd hSV
          have HB8 := hd hB8
          have HMV := hd (hMU.fr hF8 (by omega))
          clear hU hMU hSU hNU hB8 hF8 hfU hbm hfm hSV
          go_wp2_with fail
          have hfits := HM.out.same.fits Hf.out
          have hkb : k < c.bs.length := by rw [← hfits.1]; exact hkt
          have hblen : c.bs.length ≤ m.length := by rw [← hfits.1, HM.out.same.len, Hml.out]; exact h12
          have hstep := HS.out.step Hb.out hfits hblen Hfull.out hkb (t' := t') (by rw [Hx.out]; exact HNx.out)
          rw [Hx.out, Hnd.out, Hts'.out] at hstep
          have hsub : SubD nd next := by
            have hv := hfits.2 k hkb
            have hr := HS.out.rep k hkb
            rw [Hx.out] at hv hr
            rw [← Hnd.out, hv]
            exact tDom_sub (Hb.out k hkb).1 HS.out.dm hr (full_out Hfull.out (Hb.out k hkb).2)
          have hless := round_less (ts := ts) Hml.out HS.out.dm hstep.dm hsub Hkm.out
          refine ⟨⟨nd, (wakeTo ts next nd m ts.length).set k false, ts', bv', us', HSV.out, hstep, ?_, ?_, ?_⟩, ?_⟩
          · show us'.length + _ ≤ B
            have h1 := HC.out
            rw [← Hus'.out, List.length_append]
            simp only [List.length_singleton]
            omega
          · show List.length _ = 12
            rw [List.length_set]
            exact Hwl.out
          · show ∀ j, c.ts.length ≤ j → _
            intro j hj
            rw [getD_setB]
            split
            · rfl
            · have hw := wakeTo_get ts next nd m (by rw [HM.out.same.len, Hml.out]; exact h12) j ts.length (Nat.le_refl _)
              cases hx : (wakeTo ts next nd m ts.length).getD j false with
              | false => rfl
              | true =>
                rcases hw.1 hx with h1 | ⟨h1, _⟩
                · rw [Hmo.out j hj] at h1
                  cases h1
                · rw [HM.out.same.len] at h1
                  omega
          · rw [mu_at HSV.out.nx HSV.out.mks, mu_at HM.out.nx HM.out.mks]
            exact hless
end Go.Proofs.Ytkjfpdfkcfgfkaa

/- A Work between two calls: what lies in memory, and what it means. -/
namespace Go.Proofs.Ytkjfpdfkcfgfkaa
open Go.RowKit

def ts00 : TS := .rs false [] 0
/-- A Work: its domains, tables (in memory; in the document's words), trail, levels (the last first: how many changes there were, and what the domains and tables were). -/
structure WS where
  szv : Value
  d : List Nat
  so : Option Addr
  tcap : Nat
  l : Rest
  ts : List Tab
  bs : List Tb
  us : List Un
  sk : List (Nat × List Nat × List TS)
/-- Domains and tables between two calls. -/
structure Good (zs : List Int) (bs : List Tb) (d : List Nat) (tss : List TS) : Prop where
  dm : Dm d
  inn : SubD d (fullTo zs zs.length)
  alive : d = zero8 ∨ Full zs.length d
  clo : ∀ b ∈ bs, SuppAll b d
  len : tss.length = bs.length
  rep : ∀ k, k < bs.length → TRep (bs.getD k tb0) d (tss.getD k ts00)
/-- What is undone leads to what was at each Push. -/
def StackOk (zs : List Int) (bs : List Tb) : List Un → List Nat × List TS → List (Nat × List Nat × List TS) → Prop
  | us, _, [] => us = []
  | us, cur, (n, s) :: r => n ≤ us.length ∧ (us.drop n).foldr Un.undo cur = s ∧ Good zs bs s.1 s.2 ∧ n + 900 * bitsOf s.1 ≤ 57600 ∧ StackOk zs bs (us.take n) s r
def startsOf (sk : List (Nat × List Nat × List TS)) : List Value := sk.reverse.map (fun p => Value.int .i64 (p.1 : Int))
structure WMem (w : World) (X : Nat) (zs : List Int) (s : WS) : Prop where
  blk : Blk w X (workCells s.szv s.d (.slice s.so s.ts.length s.tcap) s.l) 82
  sz : Row w s.szv 3 (zs.map (Value.int .i64))
  zok : okSizes zs = true
  tabs : TabsAt w s.so s.tcap s.ts
  inj : Inj s.ts
  t12 : s.ts.length ≤ 12
  fits : Fits s.bs s.ts
  tbok : TbsOk zs.length s.bs
  tr : TrAt w s.l (startsOf s.sk) (s.us.map Un.val)
  un : ∀ u ∈ s.us, u.At w X s.ts
  apart : ∀ k, s.l.starts.ownBlock = some k → s.szv.ownBlock ≠ some k ∧ ∀ i, i < s.ts.length → (s.ts.getD i tab0).g ≠ k
/-- A Work between two calls. -/
structure WAt (w : World) (X : Nat) (zs : List Int) (s : WS) : Prop where
  mem : WMem w X zs s
  good : Good zs s.bs s.d (s.ts.map Tab.t)
  cnt : s.us.length + 900 * bitsOf s.d ≤ 57600
  sk : StackOk zs s.bs s.us (s.d, s.ts.map Tab.t) s.sk
  lev : s.sk.length ≤ 20
theorem okSizes_len {zs : List Int} (h : okSizes zs = true) : 0 < zs.length ∧ zs.length ≤ 8 := by
  simp only [okSizes, Bool.and_eq_true, decide_eq_true_eq] at h
  omega
/-- Blocks of a Work's own (but for nodes, which are never written again). -/
def WS.own (X : Nat) (s : WS) (k : Nat) : Prop := k = X ∨ s.szv.ownBlock = some k ∨ (Value.slice s.so s.ts.length s.tcap).ownBlock = some k ∨ (∃ i, i < s.ts.length ∧ (k = (s.ts.getD i tab0).G ∨ k = (s.ts.getD i tab0).g)) ∨ s.l.backs.ownBlock = some k ∨ s.l.starts.ownBlock = some k ∨ ∃ u ∈ s.us, u.boxes k
def ownTys : List TypeId := [82, 3, 93, 142, 136, 1, 148, 36, 76]
theorem TAt.tyg {w : World} {G g cap : Nat} {vars : List Int} {t : TS} (h : TAt w G g cap vars t) : ∃ cur, Blk w g cur 3 := by
  cases t with
  | rs nt br live =>
    obtain ⟨cur, hb, _⟩ := h.2.1.blk rfl
    exact ⟨cur, hb⟩
  | dg nv os root =>
    obtain ⟨cur, hb, _⟩ := h.1.rv.blk rfl
    exact ⟨cur, hb⟩
theorem TAt.tyn {w : World} {G g cap : Nat} {vars : List Int} {t : TS} (h : TAt w G g cap vars t) {k : Nat} (hk : t.nodes k) : ∃ cur, Blk w k cur 154 := by
  cases t with
  | rs nt br live => exact hk.elim
  | dg nv os root => exact ownsRow.blk h.1.row hk
theorem Un.At.box {w : World} {X : Nat} {ts : List Tab} {u : Un} (h : u.At w X ts) {k : Nat} (hk : u.boxes k) : ∃ cur e, Blk w k cur e ∧ (e = 93 ∨ e = 148 ∨ e = 36 ∨ e = 76) := by
  cases u with
  | n T S j t0 =>
    rcases hk with rfl | rfl
    · exact ⟨_, _, h.2.1, .inl rfl⟩
    · exact ⟨_, _, h.2.2.1, .inr (.inl rfl)⟩
  | r T D d0 =>
    rcases hk with rfl | rfl
    · exact ⟨_, _, h.1, .inr (.inr (.inl rfl))⟩
    · exact ⟨_, _, h.2.1, .inr (.inr (.inr rfl))⟩
theorem Un.At.fr {S : Nat → Prop} {w w' : World} {X : Nat} {ts : List Tab} {u : Un} (h : u.At w X ts) (f : Fr S w w') (hn : ∀ k, u.boxes k → ¬ S k) {es : List TypeId} (o : Only w S es) (he : 154 ∉ es) : u.At w' X ts := by
  cases u with
  | n T S' j t0 => exact ⟨h.1, h.2.1.fr f (hn _ (.inl rfl)), h.2.2.1.fr f (hn _ (.inr rfl)), h.2.2.2.frO f o he⟩
  | r T D d0 => exact ⟨h.1.fr f (hn _ (.inl rfl)), h.2.1.fr f (hn _ (.inr rfl)), h.2.2⟩
theorem WMem.ty {w : World} {X : Nat} {zs : List Int} {s : WS} (h : WMem w X zs s) {k : Nat} (hk : s.own X k) : ∃ cur e, Blk w k cur e ∧ e ∈ ownTys := by
  rcases hk with rfl | hk | hk | ⟨i, hi, rfl | rfl⟩ | hk | hk | ⟨u, hu, hk⟩
  · exact ⟨_, _, h.blk, by decide⟩
  · obtain ⟨cur, hb, _⟩ := h.sz.blk hk
    exact ⟨_, _, hb, by decide⟩
  · obtain ⟨cur, hb, _⟩ := h.tabs.row.blk hk
    exact ⟨_, _, hb, by decide⟩
  · obtain ⟨cur, e, hb, he⟩ := (h.tabs.at_ i hi).tyG
    refine ⟨_, _, hb, ?_⟩
    rcases he with rfl | rfl <;> decide
  · obtain ⟨cur, hb⟩ := (h.tabs.at_ i hi).tyg
    exact ⟨_, _, hb, by decide⟩
  · obtain ⟨cur, hb, _⟩ := h.tr.backs.blk hk
    exact ⟨_, _, hb, by decide⟩
  · obtain ⟨cur, hb, _⟩ := h.tr.starts.blk hk
    exact ⟨_, _, hb, by decide⟩
  · obtain ⟨cur, e, hb, he⟩ := (h.un u hu).box hk
    refine ⟨_, _, hb, ?_⟩
    rcases he with rfl | rfl | rfl | rfl <;> decide
theorem WMem.lt {w : World} {X : Nat} {zs : List Int} {s : WS} (h : WMem w X zs s) {k : Nat} (hk : s.own X k) : k < w.heap.size := by
  obtain ⟨_, _, hb, _⟩ := h.ty hk
  exact hb.lt
theorem WMem.fr {S : Nat → Prop} {w w' : World} {X : Nat} {zs : List Int} {s : WS} (h : WMem w X zs s) (f : Fr S w w') (hn : ∀ k, s.own X k → ¬ S k) {es : List TypeId} (o : Only w S es) (he : 154 ∉ es) : WMem w' X zs s := by
  refine ⟨h.blk.fr f (hn _ (.inl rfl)), h.sz.fr f (fun k hk => hn k (.inr (.inl hk))), h.zok, ⟨h.tabs.row.fr f (fun k hk => hn k (.inr (.inr (.inl hk)))), fun i hi => (h.tabs.at_ i hi).fr f ?_, h.tabs.four, h.tabs.ok⟩, h.inj, h.t12, h.fits, h.tbok, h.tr.fr f (fun k hk => hn k (.inr (.inr (.inr (.inr (.inr (.inl hk))))))) (fun k hk => hn k (.inr (.inr (.inr (.inr (.inl hk)))))), fun u hu => (h.un u hu).fr f (fun k hk => hn k (.inr (.inr (.inr (.inr (.inr (.inr ⟨u, hu, hk⟩))))))) o he, h.apart⟩
  rintro k (hk | hk | hk)
  · exact hn k (.inr (.inr (.inr (.inl ⟨i, hi, .inl hk⟩))))
  · exact hn k (.inr (.inr (.inr (.inl ⟨i, hi, .inr hk⟩))))
  · obtain ⟨cur, hb⟩ := (h.tabs.at_ i hi).tyn hk
    exact fun hs => he (o k cur _ hs hb)
theorem WAt.fr {S : Nat → Prop} {w w' : World} {X : Nat} {zs : List Int} {s : WS} (h : WAt w X zs s) (f : Fr S w w') (hn : ∀ k, s.own X k → ¬ S k) {es : List TypeId} (o : Only w S es) (he : 154 ∉ es) : WAt w' X zs s := ⟨h.mem.fr f hn o he, h.good, h.cnt, h.sk, h.lev⟩
theorem WAt.nw {w w' : World} {X : Nat} {zs : List Int} {s : WS} (h : WAt w X zs s) (f : Nw w w') : WAt w' X zs s := h.fr f (fun _ _ x => x) (Only.none w) (by decide)
theorem WMem.nw {w w' : World} {X : Nat} {zs : List Int} {s : WS} (h : WMem w X zs s) (f : Nw w w') : WMem w' X zs s := h.fr f (fun _ _ x => x) (Only.none w) (by decide)
/-- A call on a Work: it writes what is its own, and takes new blocks. -/
structure WStep (w w' : World) (X : Nat) (s s' : WS) : Prop where
  fr : Fr (s.own X) w w'
  grow : ∀ k, s'.own X k → s.own X k ∨ w.heap.size ≤ k
theorem WStep.nw {w w' : World} (h : Nw w w') (X : Nat) (s : WS) : WStep w w' X s s := ⟨h.mono (fun _ x => x.elim), fun _ h => .inl h⟩
theorem WStep.trans {a b c : World} {X : Nat} {s s' s'' : WS} (h : WStep a b X s s') (k : WStep b c X s' s'') : WStep a c X s s'' := ⟨h.fr.trans k.fr h.grow, fun i hi => by
  rcases k.grow i hi with h1 | h1
  · exact h.grow i h1
  · exact .inr (Nat.le_trans h.fr.size h1)⟩
theorem zero_supp (b : Tb) : SuppAll b zero8 := fun i v _ h => by rw [zero8_get] at h; simp at h
theorem bits_max (d : List Nat) : bitsOf d ≤ 64 := by
  have key : ∀ (l : List Nat) (a : Nat), (l.map (fun q => (vals (d.getD q 0)).length)).foldl (· + ·) a ≤ a + 8 * l.length := by
    intro l
    induction l with
    | nil => intro a; simp
    | cons q l ih =>
      intro a
      have h1 := ih (a + (vals (d.getD q 0)).length)
      have h2 : (vals (d.getD q 0)).length ≤ 8 := by
        have := List.length_filter_le (fun v => (d.getD q 0).testBit v) (List.range 8)
        simpa [vals] using this
      simp only [List.map_cons, List.foldl_cons, List.length_cons]
      omega
  have := key (List.range 8) 0
  simpa [bitsOf] using this
theorem mapT_getD (ts : List Tab) (k : Nat) : (ts.map Tab.t).getD k ts00 = (ts.getD k tab0).t := by
  simp only [List.getD, List.getElem?_map]
  cases ts[k]? <;> rfl
def WS.ctx (X : Nat) (zs : List Int) (s : WS) (start : List Nat) : SCtx := ⟨X, s.szv, zs, s.d, s.so, s.tcap, s.l, startsOf s.sk, s.us.map Un.val, s.ts, s.bs, start⟩
/-- The Work behind settle. -/
def WS.set (s : WS) (d' : List Nat) (bv : Value) (ts : List Tab) (us : List Un) : WS := { s with d := d', l := ⟨bv, s.l.starts, s.l.busy⟩, ts := ts, us := if s.sk.isEmpty then [] else s.us ++ us }
theorem WMem.onlyS {w : World} {X : Nat} {zs : List Int} {s : WS} (h : WMem w X zs s) : Only w (SFr X s.ts s.l.backs) [82, 142, 136, 1] := by
  rintro k cur e (rfl | ⟨i, hi, rfl⟩ | hk) hb
  · rw [(hb.inj h.blk).2]
    decide
  · obtain ⟨cur', e', hb', he⟩ := (h.tabs.at_ i hi).tyG
    rw [(hb.inj hb').2]
    rcases he with rfl | rfl <;> decide
  · obtain ⟨cur', hb', _⟩ := h.tr.backs.blk hk
    rw [(hb.inj hb').2]
    decide
theorem StackOk.add {zs : List Int} {bs : List Tb} {us us' : List Un} {cur cur' : List Nat × List TS} (hb : us'.foldr Un.undo cur' = cur) : ∀ {sk : List (Nat × List Nat × List TS)}, StackOk zs bs us cur sk → StackOk zs bs (if sk.isEmpty then [] else us ++ us') cur' sk
  | [], _ => rfl
  | (n, s) :: r, ⟨h1, h2, h3, h4, h5⟩ => by
    show StackOk zs bs (us ++ us') cur' ((n, s) :: r)
    refine ⟨by rw [List.length_append]; omega, ?_, h3, h4, ?_⟩
    · rw [List.drop_append_of_le_length h1, List.foldr_append, hb]
      exact h2
    · rw [List.take_append_of_le_length h1]
      exact h5
theorem WMem.settled {w w' : World} {X : Nat} {zs : List Int} {s : WS} {start : List Nat} {B : Nat} {d' : List Nat} {bv : Value} {ts : List Tab} {us : List Un} (h : WMem w X zs s) (hk : StackOk zs s.bs s.us (s.d, s.ts.map Tab.t) s.sk)
    (hin : SubD start (fullTo zs zs.length)) (hdm : Dm s.d) (hsub : SubD start s.d) (hc : s.us.length + 900 * bitsOf s.d ≤ 57600) (hB1 : B ≤ 850) (hB2 : d' = s.d → s.sk ≠ [] → B ≤ bitsOf s.d * 13) (hlev : s.sk.length ≤ 20) (set : Settled (s.ctx X zs start) B w w' d' bv ts us) :
    WAt w' X zs (s.set d' bv ts us) ∧ WStep w w' X s (s.set d' bv ts us) := by
  have hsame : SameT s.ts ts := set.same
  have hfr : Fr (SFr X s.ts s.l.backs) w w' := set.fr
  have oS := h.onlyS
  have hd' : SubD d' s.d := by
    by_cases hF : Full zs.length d'
    · exact ((set.clo.full hF).1).trans hsub
    · rw [(set.clo.none hF).1]
      exact zero8_sub _
  refine ⟨⟨⟨set.blk, set.sz, h.zok, set.tabs, hsame.inj h.inj, by show ts.length ≤ 12; rw [hsame.len]; exact h.t12, hsame.fits h.fits, h.tbok, ?_, ?_, fun k hk => ⟨(h.apart k hk).1, fun i hi => ?_⟩⟩, ?_, ?_, ?_, hlev⟩, ?_⟩
  · have htr := set.tr
    show TrAt w' ⟨bv, s.l.starts, s.l.busy⟩ (startsOf s.sk) ((if s.sk.isEmpty then [] else s.us ++ us).map Un.val)
    have e : (if s.sk.isEmpty then [] else s.us ++ us).map Un.val = keepIf (startsOf s.sk) (s.us.map Un.val) us := by
      cases hsk : s.sk with
      | nil =>
        rw [hsk] at hk
        have hu : s.us = [] := hk
        simp [keepIf, startsOf, hu]
      | cons p r => simp [keepIf, startsOf]
    rw [e]
    exact htr
  · intro u hu
    have key : ∀ u ∈ s.us, u.At w' X ts := fun u hu => ((h.un u hu).frO hfr oS (by decide) (.inr (by decide))).same hsame
    have hu' : u ∈ (if s.sk.isEmpty then [] else s.us ++ us) := hu
    split at hu'
    · cases hu'
    · rcases List.mem_append.1 hu' with h1 | h1
      · exact key u h1
      · exact set.un u h1
  · have hi' : i < s.ts.length := by rw [← hsame.len]; exact hi
    show (ts.getD i tab0).g ≠ k
    rw [(hsame.at_ i hi').2.1]
    exact (h.apart k hk).2 i hi'
  · refine ⟨set.dm, ?_, ?_, ?_, ?_, ?_⟩
    · show SubD d' _
      by_cases hF : Full zs.length d'
      · exact ((set.clo.full hF).1).trans hin
      · rw [(set.clo.none hF).1]
        exact zero8_sub _
    · by_cases hF : Full zs.length d'
      · exact .inr hF
      · exact .inl (set.clo.none hF).1
    · by_cases hF : Full zs.length d'
      · exact (set.clo.full hF).2.1
      · intro b hb
        show SuppAll b d'
        rw [(set.clo.none hF).1]
        exact zero_supp b
    · show (ts.map Tab.t).length = s.bs.length
      rw [List.length_map, hsame.len, h.fits.1]
    · intro k hk'
      show TRep _ d' ((ts.map Tab.t).getD k ts00)
      rw [mapT_getD]
      exact set.rep k hk'
  · show (if s.sk.isEmpty then [] else s.us ++ us).length + 900 * bitsOf d' ≤ 57600
    have hcnt := set.cnt
    have hm1 := bits_max d'
    cases hsk : s.sk with
    | nil =>
      simp
      omega
    | cons p r =>
      simp only [List.isEmpty_cons, Bool.false_eq_true, if_false, List.length_append]
      have hcnt : us.length + bitsOf d' * 13 ≤ B + (if d' = s.d then 0 else 1) := hcnt
      by_cases e : d' = s.d
      · rw [if_pos e] at hcnt
        have h2 := hB2 e (by rw [hsk]; simp)
        rw [e] at hcnt ⊢
        omega
      · rw [if_neg e] at hcnt
        have h2 := bits_lt set.dm hdm hd' e
        omega
  · exact hk.add set.back
  · refine ⟨hfr.mono ?_, ?_⟩
    · rintro i (rfl | ⟨j, hj, rfl⟩ | hi)
      · exact .inl (.inl rfl)
      · exact .inl (.inr (.inr (.inr (.inl ⟨j, hj, .inl rfl⟩))))
      · exact .inl (.inr (.inr (.inr (.inr (.inl hi)))))
    · rintro k (rfl | hk' | hk' | ⟨i, hi, hk'⟩ | hk' | hk' | ⟨u, hu, hk'⟩)
      · exact .inl (.inl rfl)
      · exact .inl (.inr (.inl hk'))
      · refine .inl (.inr (.inr (.inl ?_)))
        have hk2 : (Value.slice s.so ts.length s.tcap).ownBlock = some k := hk'
        rw [hsame.len] at hk2
        exact hk2
      · have hi' : i < s.ts.length := by rw [← hsame.len]; exact hi
        have hk2 : k = (ts.getD i tab0).G ∨ k = (ts.getD i tab0).g := hk'
        rw [(hsame.at_ i hi').1, (hsame.at_ i hi').2.1] at hk2
        exact .inl (.inr (.inr (.inr (.inl ⟨i, hi', hk2⟩))))
      · rcases set.own k hk' with h1 | h1
        · exact .inl (.inr (.inr (.inr (.inr (.inl h1)))))
        · exact .inr h1
      · exact .inl (.inr (.inr (.inr (.inr (.inr (.inl hk'))))))
      · have hu' : u ∈ (if s.sk.isEmpty then [] else s.us ++ us) := hu
        split at hu'
        · cases hu'
        · rcases List.mem_append.1 hu' with h1 | h1
          · exact .inl (.inr (.inr (.inr (.inr (.inr (.inr ⟨u, h1, hk'⟩))))))
          · exact .inr (set.new u h1 k hk')
end Go.Proofs.Ytkjfpdfkcfgfkaa

/- Contracts of restrict and Remove where there is one table, of Way 1, that the change wakes, and no domain comes out empty. -/
namespace Go.Proofs.Ytkjfpdfkcfgfkaa
open Go.RowKit

end Go.Proofs.Ytkjfpdfkcfgfkaa

/- restrict, over any tables, at any level. -/
namespace Go.Proofs.Ytkjfpdfkcfgfkaa
open Go.RowKit

def noMarks : List Bool := List.replicate 12 false
theorem noMarks_get (k : Nat) : noMarks.getD k false = false := by
  simp only [noMarks, List.getD, List.getElem?_replicate]
  split <;> rfl
theorem list12 {α : Type} {l : List α} (h : l.length = 12) : ∃ a0 a1 a2 a3 a4 a5 a6 a7 a8 a9 a10 a11, l = [a0, a1, a2, a3, a4, a5, a6, a7, a8, a9, a10, a11] := by
  match l, h with
  | [a0, a1, a2, a3, a4, a5, a6, a7, a8, a9, a10, a11], _ => exact ⟨_, _, _, _, _, _, _, _, _, _, _, _, rfl⟩
theorem Good.restr {zs : List Int} {bs : List Tb} {ts : List Tab} {d dn : List Nat} (h : Good zs bs d (ts.map Tab.t)) (hf : Fits bs ts) (h12 : ts.length ≤ 12) (hdn : Dm dn) (hsub : SubD dn d) : SInv bs ts (wakeTo ts d dn noMarks ts.length) dn dn := by
  refine ⟨hdn, SubD.refl _, fun _ h _ => h, fun k hk hq => ?_, fun k hk => ?_⟩
  · have hw := wakeTo_get ts d dn noMarks (by show ts.length ≤ 12; exact h12) k ts.length (Nat.le_refl _)
    have h2 : changedB (bs.getD k tb0).vars d dn (bs.getD k tb0).vars.length = false := by
      cases hx : changedB (bs.getD k tb0).vars d dn (bs.getD k tb0).vars.length with
      | false => rfl
      | true =>
        rw [← hf.2 k hk] at hx
        rw [hw.2 (.inr ⟨by rw [hf.1]; exact hk, hx⟩)] at hq
        cases hq
    exact (h.clo _ (getD_mem hk)).same (changed_same h2)
  · have := (h.rep k hk).mono hsub
    rw [mapT_getD] at this
    exact this
theorem wakeTo_off (ts : List Tab) (a b : List Nat) (h12 : ts.length ≤ 12) (k : Nat) (hk : ts.length ≤ k) : (wakeTo ts a b noMarks ts.length).getD k false = false := by
  have hw := wakeTo_get ts a b noMarks (by show ts.length ≤ 12; exact h12) k ts.length (Nat.le_refl _)
  cases hx : (wakeTo ts a b noMarks ts.length).getD k false with
  | false => rfl
  | true =>
    rcases hw.1 hx with h1 | ⟨h1, _⟩
    · rw [noMarks_get] at h1
      cases h1
    · omega

set_option maxHeartbeats 3200000 in
set_option maxRecDepth 1000000 in
theorem restrict_any (X : Nat) (zs : List Int) (s : WS) (v x : Nat) (w : World) (h : WAt w X zs s) (hv : v < zs.length) (hsub : SubD (s.d.set v x) s.d) (hfull : Full zs.length s.d) :
    Calls Try.prog 40 #[.pointer (some ⟨X, 0, none⟩), .int .i64 v, .int .u8 x] w fun e w' => e = .returned (.tuple #[]) ∧ ∃ d' bv ts us, Closure zs.length s.bs (s.d.set v x) d' ∧ Dm d' ∧
      WAt w' X zs (s.set d' bv ts us) ∧ WStep w w' X s (s.set d' bv ts us) := by
  obtain ⟨hz0, hzl⟩ := okSizes_len h.mem.zok
  have hd8 : s.d.length = 8 := h.good.dm.len
  obtain ⟨v0, v1, v2, v3, v4, v5, v6, v7, hdv⟩ := domV8 hd8
  obtain ⟨⟨x0, rfl⟩, ⟨x1, rfl⟩, ⟨x2, rfl⟩, ⟨x3, rfl⟩, ⟨x4, rfl⟩, ⟨x5, rfl⟩, ⟨x6, rfl⟩, ⟨x7, rfl⟩⟩ := domV_one s.d hdv
  obtain ⟨dn, hdn⟩ : ∃ dn, s.d.set v x = dn := ⟨_, rfl⟩
  have h8 : dn.length = 8 := by rw [← hdn]; simpa using hd8
  rw [hdn] at hsub ⊢
  have hdm : Dm dn := ⟨h8, fun q => subD_lt hsub (h.good.dm.lt q)⟩
  obtain ⟨m0, m1, m2, m3, m4, m5, m6, m7, hnv⟩ := domV8 h8
  have hX := h.mem.blk
  have hXlt := hX.lt
  have hi8 : (v : Int) < 8 := by omega
  obtain ⟨c0, c1, c2, c3, c4, c5, c6, c7⟩ := work8 hX hdv
  obtain ⟨mk, hmk⟩ : ∃ mk, wakeTo s.ts s.d dn noMarks s.ts.length = mk := ⟨_, rfl⟩
  have hml : mk.length = 12 := by rw [← hmk, wakeTo_length]; rfl
  obtain ⟨b0, b1, b2, b3, b4, b5, b6, b7, b8, b9, b10, b11, hmb⟩ := list12 hml
  have hmv : mksV mk = #[.bool b0, .bool b1, .bool b2, .bool b3, .bool b4, .bool b5, .bool b6, .bool b7, .bool b8, .bool b9, .bool b10, .bool b11] := by rw [hmb]; rfl
  have HH := hd h
  have HX := hd hX
  have Hdv := hd hdv
  have Hnv := hd hnv
  have Hdn := hd hdn
  have Hmk := hd hmk
  have Hmv := hd hmv
  have Hsub := hd hsub
  have Hfull := hd hfull
  clear h hX hdv hnv hdn hmk hmv hmb hsub hfull
  go_enter Try.func40, Try.ntmps40
  go_upto_region 1 with fail
  obtain ⟨W, hW⟩ : ∃ W, W = w.alloc (.cells (domV s.d) 76) := ⟨_, rfl⟩
  have hfW : Nw w W := by rw [hW]; exact (Fr.refl _ w).alloc _
  have hbN : Blk W w.heap.size (domV s.d) 76 := by rw [hW]; exact Blk.new _ _ _
  rw [← Hdv.out]
  rw [← hW]
  clear hW c0 c1 c2 c3 c4 c5 c6 c7
  have hfz := hbN.free v
  obtain ⟨xv, hcv⟩ : ∃ xv, W.cell? ⟨w.heap.size, v, none⟩ = some xv := ⟨_, (hbN.cell _).trans (domV_get s.d v (by omega))⟩
  have HbN := hd hbN
  clear hbN
  go_upto_region 2 with fail
  obtain ⟨U, hU⟩ : ∃ U, U = W.setCell ⟨w.heap.size, v, none⟩ (.int .u8 (x : Int)) := ⟨_, rfl⟩
  have hbU : Blk U w.heap.size (domV dn) 76 := by rw [hU, ← Hdn.out, ← domV_set]; exact HbN.out.set v _
  have hfU : Nw w U := by rw [hU]; exact hfW.setCell _ _ (.inr (Nat.le_refl _))
  have hlU := hbU.lt
  rw [← hU]
  clear hU hfW hcv hfz HbN
  have HbU := hd hbU
  clear hbU
  go_upto_region 3 with fail
  obtain ⟨V, hV⟩ : ∃ V, V = U.alloc (.cells (mksV noMarks) 91) := ⟨_, rfl⟩
  have hfV : Nw w V := by rw [hV]; exact hfU.alloc _
  have hbV : Blk V w.heap.size (domV dn) 76 := by rw [hV]; exact HbU.out.alloc _
  have hbM : Blk V U.heap.size (mksV noMarks) 91 := by rw [hV]; exact Blk.new _ _ _
  rw [show U.alloc (Obj.cells #[Value.bool false, Value.bool false, Value.bool false, Value.bool false, Value.bool false, Value.bool false, Value.bool false, Value.bool false, Value.bool false, Value.bool false, Value.bool false, Value.bool false] 91) = V from hV.symm]
  clear hV
  have hlM := hbM.lt
  have hHV := HH.out.mem.nw hfV
  obtain ⟨c0, c1, c2, c3, c4, c5, c6, c7⟩ := work8 hHV.blk Hdv.out
  obtain ⟨e0, e1, e2, e3, e4, e5, e6, e7⟩ := cells8 (Hnv.out ▸ hbV)
  have HbV := hd hbV
  have HbM := hd hbM
  have HHV := hd hHV
  have HHd := hd (hHV.nw ((Fr.refl _ V).drew))
  have HfV := hd hfV
  have Hown : Hid (∀ k, s.own X k → k < w.heap.size) := fun k hk => HH.out.mem.lt hk
  clear hbV hbM hfV hfU HX HbU hHV
  go_still_tail 6, (by kernel_rfl)
  go_wp2_with fail
  rw [← Hdv.out, ← Hnv.out]
  refine (wake_any X U.heap.size s.so s.tcap s.szv s.d s.l s.ts s.d dn noMarks _ HHd.out.blk hd8 HHd.out.tabs HHd.out.t12 rfl (fun i hi => ⟨fun e => ?_, fun e => ?_⟩) (fun o ho e => ?_) hd8 h8 HbM.out.drew).mono ?_
  · have := Hown.out _ (.inr (.inr (.inr (.inl ⟨i, hi, .inl rfl⟩))))
    omega
  · have := Hown.out _ (.inr (.inr (.inr (.inl ⟨i, hi, .inr rfl⟩))))
    omega
  · obtain ⟨so', sc', hfo, hg⟩ := HHd.out.tabs.row.form
    have e2 : s.so = so' := by injection hfo
    obtain ⟨g, hg1, hg2⟩ := hg o (by rw [← e2]; exact ho)
    have := Hown.out _ (.inr (.inr (.inl hg2)))
    subst hg1
    have e3 : g = U.heap.size := e
    omega
  rw [Hmk.out]
  rintro e w1 ⟨rfl, hf1, hM1⟩
  have hf1' : Fr (fun k => k = U.heap.size) V w1 := hf1.of_drew
  have hs1 := hf1'.size
  have hb1 := HbV.out.fr hf1' (by omega)
  have hH1 := HHV.out.fr hf1' (fun k hk e => by have := Hown.out k hk; omega) ((Only.one HbM.out).mono (fun _ x => x) (fun _ x => x)) (by decide)
  clear c0 c1 c2 c3 c4 c5 c6 c7 e0 e1 e2 e3 e4 e5 e6 e7
  obtain ⟨e0, e1, e2, e3, e4, e5, e6, e7⟩ := cells8 (Hnv.out ▸ hb1)
  rw [Hmv.out] at hM1
  have r0 : w1.cell? ⟨U.heap.size, 0, none⟩ = some (.bool b0) := hM1.cell 0
  have r1 : w1.cell? ⟨U.heap.size, 1, none⟩ = some (.bool b1) := hM1.cell 1
  have r2 : w1.cell? ⟨U.heap.size, 2, none⟩ = some (.bool b2) := hM1.cell 2
  have r3 : w1.cell? ⟨U.heap.size, 3, none⟩ = some (.bool b3) := hM1.cell 3
  have r4 : w1.cell? ⟨U.heap.size, 4, none⟩ = some (.bool b4) := hM1.cell 4
  have r5 : w1.cell? ⟨U.heap.size, 5, none⟩ = some (.bool b5) := hM1.cell 5
  have r6 : w1.cell? ⟨U.heap.size, 6, none⟩ = some (.bool b6) := hM1.cell 6
  have r7 : w1.cell? ⟨U.heap.size, 7, none⟩ = some (.bool b7) := hM1.cell 7
  have r8 : w1.cell? ⟨U.heap.size, 8, none⟩ = some (.bool b8) := hM1.cell 8
  have r9 : w1.cell? ⟨U.heap.size, 9, none⟩ = some (.bool b9) := hM1.cell 9
  have r10 : w1.cell? ⟨U.heap.size, 10, none⟩ = some (.bool b10) := hM1.cell 10
  have r11 : w1.cell? ⟨U.heap.size, 11, none⟩ = some (.bool b11) := hM1.cell 11
  have HF1 : Hid (Nw w w1) := HfV.out.trans hf1' (fun i h => .inr (by omega))
  have HH1 := hd hH1
  have hin : SubD dn (fullTo zs zs.length) := Hsub.out.trans HH.out.good.inn
  have hbm := bits_max dn
  have hmm := marks_le mk
  have hcn := HH.out.cnt
  have hS : SInv s.bs s.ts mk dn dn := by rw [← Hmk.out]; exact HH.out.good.restr HH.out.mem.fits HH.out.mem.t12 hdm Hsub.out
  have hoff : ∀ k, s.ts.length ≤ k → mk.getD k false = false := fun k hk => by rw [← Hmk.out]; exact wakeTo_off _ _ _ HH.out.mem.t12 k hk
  have HS := hd hS
  have Hoff := hd hoff
  have Hin := hd hin
  have Hdm := hd hdm
  clear hb1 hM1 hf1 hf1' hH1 hS hoff hin hdm
  go_wp2_with (go_at_call 53; rw [← Hnv.out, ← Hmv.out]; refine (settle_any (s.ctx X zs dn) dn mk _ HH1.out.blk HH1.out.sz hz0 hzl hd8 HH.out.good.dm.mem HH1.out.tabs HH1.out.inj HH1.out.t12 hml Hoff.out HH1.out.tr (by show (s.us.map Un.val).length + _ ≤ 900000; rw [List.length_map]; omega) HS.out HH1.out.tbok HH1.out.fits).mono ?_; rintro e w2 ⟨rfl, d', bv, ts, us, hset⟩)
  go_end0
  have hB2 : d' = s.d → s.sk ≠ [] → bitsOf dn * 13 + marksOf mk ≤ bitsOf s.d * 13 := by
    intro e _
    have h1 : SubD s.d dn := by
      have h2 := (hset.clo.full (by rw [e]; exact Hfull.out)).1
      rw [e] at h2
      exact h2
    have h3 : dn = s.d := SubD.eq Hdm.out HH.out.good.dm Hsub.out h1
    have h4 : mk = noMarks := by rw [← Hmk.out, h3, wakeTo_same]
    rw [h3, h4]
    exact Nat.le_of_eq rfl
  obtain ⟨hA, hB⟩ := HH1.out.settled HH.out.sk Hin.out HH.out.good.dm Hsub.out HH.out.cnt (by omega) hB2 HH.out.lev hset
  exact ⟨rfl, d', bv, ts, us, hset.clo, hset.dm, hA, (WStep.nw HF1.out X s).trans hB⟩
end Go.Proofs.Ytkjfpdfkcfgfkaa

/- Fix and Remove, over any tables, at any level. -/
namespace Go.Proofs.Ytkjfpdfkcfgfkaa
open Go.RowKit

/-- The domain that Fix leaves of y. -/
def fixV (y v : Nat) : Nat := y &&& 2 ^ v
/-- The domain that Remove leaves of y. -/
def remV (y v : Nat) : Nat := if y.testBit v then y - 2 ^ v else y
theorem bits_fix (y v : Nat) (hy : y < 64) (hv : v < 6) : bits .and .u8 (y : Int) (2 ^ v : Nat) = (fixV y v : Nat) := by
  have key : ∀ y : Fin 64, ∀ v : Fin 6, bits .and .u8 ((y.val : Nat) : Int) ((2 ^ v.val : Nat) : Int) = (fixV y.val v.val : Nat) := by decide +kernel
  exact key ⟨y, hy⟩ ⟨v, hv⟩
theorem bits_rem (y v : Nat) (hy : y < 64) (hv : v < 6) : bits .andNot .u8 (y : Int) (2 ^ v : Nat) = (remV y v : Nat) := by
  have key : ∀ y : Fin 64, ∀ v : Fin 6, bits .andNot .u8 ((y.val : Nat) : Int) ((2 ^ v.val : Nat) : Int) = (remV y.val v.val : Nat) := by decide +kernel
  exact key ⟨y, hy⟩ ⟨v, hv⟩
theorem fixV_bit (y v u : Nat) : (fixV y v).testBit u = (y.testBit u && decide (v = u)) := by
  simp [fixV, Nat.testBit_two_pow]
theorem remV_lt (y v : Nat) (hy : y < 64) : remV y v < 64 := by
  unfold remV
  split
  · exact Nat.lt_of_le_of_lt (Nat.sub_le _ _) hy
  · exact hy
theorem remV_bit (y v u : Nat) (hy : y < 64) : (remV y v).testBit u = (y.testBit u && decide (v ≠ u)) := by
  by_cases hu : u < 6
  · by_cases hv : v < 6
    · have key : ∀ y : Fin 64, ∀ v : Fin 6, ∀ u : Fin 6, (remV y.val v.val).testBit u.val = (y.val.testBit u.val && decide (v.val ≠ u.val)) := by decide +kernel
      exact key ⟨y, hy⟩ ⟨v, hv⟩ ⟨u, hu⟩
    · have h1 : y.testBit v = false := by
        cases hx : y.testBit v with
        | false => rfl
        | true => exact absurd (bit_lt6 hy hx) hv
      have h2 : v ≠ u := by omega
      simp [remV, h1, h2]
  · have h1 : y.testBit u = false := by
      cases hx : y.testBit u with
      | false => rfl
      | true => exact absurd (bit_lt6 hy hx) hu
    have h2 : (remV y v).testBit u = false := by
      cases hx : (remV y v).testBit u with
      | false => rfl
      | true => exact absurd (bit_lt6 (remV_lt y v hy) hx) hu
    rw [h1, h2]
    rfl
theorem set_sub {d : List Nat} {v x : Nat} (h : ∀ u, x.testBit u = true → (d.getD v 0).testBit u = true) : SubD (d.set v x) d := by
  intro q u hu
  by_cases e : v = q
  · subst e
    by_cases hl : v < d.length
    · have e2 : (d.set v x).getD v 0 = x := by simp [List.getD, hl]
      rw [e2] at hu
      exact h u hu
    · have e2 : d.set v x = d := List.set_eq_of_length_le (by omega)
      rw [e2] at hu
      exact hu
  · have e2 : (d.set v x).getD q 0 = d.getD q 0 := by simp [List.getD, e]
    rw [e2] at hu
    exact hu
theorem fault_zero {zs : List Int} {d : List Nat} {v value : Int} (h : faultOf zs d v value = 0) : 0 ≤ v ∧ v < zs.length ∧ 0 ≤ value ∧ value < zs.getD v.toNat 0 ∧ d.getD 0 0 ≠ 0 := by
  unfold faultOf at h
  split at h
  · rename_i h1
    split at h
    · omega
    · rename_i h2
      exact ⟨h1.1, h1.2.1, h1.2.2.1, h1.2.2.2, h2⟩
  · omega
theorem okSizes_get {zs : List Int} (h : okSizes zs = true) (i : Nat) (hi : i < zs.length) : 1 ≤ zs.getD i 0 ∧ zs.getD i 0 ≤ 6 := by
  simp only [okSizes, Bool.and_eq_true, decide_eq_true_eq, List.all_eq_true] at h
  have h2 := h.2 zs[i] (List.getElem_mem hi)
  simp only [okSize, decide_eq_true_eq] at h2
  simpa [List.getD, hi] using h2
theorem Good.full {zs : List Int} {bs : List Tb} {d : List Nat} {tss : List TS} (h : Good zs bs d tss) (h0 : d.getD 0 0 ≠ 0) : Full zs.length d := by
  rcases h.alive with e | e
  · rw [e, zero8_get] at h0
    exact absurd rfl h0
  · exact e

set_option maxHeartbeats 3200000 in
set_option maxRecDepth 1000000 in
theorem fix_no (X : Nat) (zs : List Int) (s : WS) (v value : Int) (w : World) (h : WAt w X zs s) (hbz : s.l.busy = false) (hf : faultOf zs s.d v value ≠ 0) :
    Calls Try.prog 18 #[.pointer (some ⟨X, 0, none⟩), .int .i64 v, .int .i64 value] w fun e w' => e = .returned (.int .i64 (faultOf zs s.d v value)) ∧ w' = w := by
  obtain ⟨hz0, hzl⟩ := okSizes_len h.mem.zok
  have HH := hd h
  have hd8 : s.d.length = 8 := h.good.dm.len
  obtain ⟨r, hr⟩ : ∃ r, faultOf zs s.d v value = r := ⟨_, rfl⟩
  have Hr := hd hr
  rw [hr] at hf ⊢
  clear h hr
  go_enter Try.func18, Try.ntmps18
  go_wp2_with (go_at_call 39; refine (fault_any X s.szv s.d _ s.l zs v value _ HH.out.mem.blk HH.out.mem.sz hzl hd8 hbz).mono ?_; rw [Hr.out]; rintro e w' ⟨rfl, rfl⟩)
  go_ret
  exact ⟨rfl, rfl⟩

set_option maxHeartbeats 3200000 in
set_option maxRecDepth 1000000 in
theorem fix_yes (X : Nat) (zs : List Int) (s : WS) (v value : Nat) (w : World) (h : WAt w X zs s) (hbz : s.l.busy = false) (hf : faultOf zs s.d v value = 0) :
    Calls Try.prog 18 #[.pointer (some ⟨X, 0, none⟩), .int .i64 v, .int .i64 value] w fun e w' => e = .returned (.int .i64 0) ∧ ∃ d' bv ts us, Closure zs.length s.bs (s.d.set v (fixV (s.d.getD v 0) value)) d' ∧ Dm d' ∧
      WAt w' X zs (s.set d' bv ts us) ∧ WStep w w' X s (s.set d' bv ts us) := by
  obtain ⟨hz0, hzl⟩ := okSizes_len h.mem.zok
  obtain ⟨_, hv1, _, hv3, hv4⟩ := fault_zero hf
  rw [Int.toNat_natCast] at hv3
  have hvz : v < zs.length := by omega
  have hval : value < 6 := by
    have := okSizes_get h.mem.zok v hvz
    omega
  have hi8 : (v : Int) < 8 := by omega
  have hd8 : s.d.length = 8 := h.good.dm.len
  have hcd : w.cell? ⟨X, 1 + v, none⟩ = some (.int .u8 (s.d.getD v 0 : Nat)) := (h.mem.blk.cell _).trans (workCells_dom _ _ _ _ _ (by omega))
  have hy64 := h.good.dm.lt v
  obtain ⟨y, hy⟩ : ∃ y, s.d.getD v 0 = y := ⟨_, rfl⟩
  have hsub : SubD (s.d.set v (fixV y value)) s.d := set_sub (fun u hu => by rw [fixV_bit] at hu; rw [hy]; simp at hu; exact hu.1)
  have hfull := h.good.full hv4
  rw [hy] at hcd hy64 ⊢
  have hbf := bits_fix y value hy64 hval
  have HH := hd h
  have Hy := hd hy
  have Hsub := hd hsub
  have Hfull := hd hfull
  have Hbf := hd hbf
  clear h hy hsub hfull hbf
  go_enter Try.func18, Try.ntmps18
  go_upto_region 4 with (go_at_call 39; refine (fault_any X s.szv s.d _ s.l zs v value _ HH.out.mem.blk HH.out.mem.sz hzl hd8 hbz).mono ?_; rw [hf]; rintro e w' ⟨rfl, rfl⟩)
  go_still_tail 11, (by kernel_rfl)
  refine still_call (f := 41) (args := #[.int .i64 (value : Int)]) (.int .u8 (2 ^ value : Nat)) (by kernel_rfl) (by kernel_rfl) (one_any value _ (by omega)) ?_
  simp only [Act.put, List.setIfInBounds_toArray, List.set_cons_zero, List.set_cons_succ]
  refine still_value (.int .u8 (fixV y value : Nat)) (by kernel_rfl) ?_ ?_
  · have hxx := Hbf.out
    clear hf hv4 hcd hv3
    go_simp
    simpa using hxx
  refine wpStill_nil ?_
  simp only [Act.put, List.setIfInBounds_toArray, List.set_cons_zero, List.set_cons_succ]
  go_wp2_with (go_at_call 40; refine (restrict_any X zs s v (fixV y value) _ (HH.out.nw ((Fr.refl _ _).drew)) hvz Hsub.out Hfull.out).mono ?_; rintro e w2 ⟨rfl, d', bv, ts, us, h1, h2, h3, h4⟩)
  go_ret
  exact ⟨rfl, d', bv, ts, us, h1, h2, h3, ⟨h4.fr.of_drew, h4.grow⟩⟩

set_option maxHeartbeats 3200000 in
set_option maxRecDepth 1000000 in
theorem remove_yes (X : Nat) (zs : List Int) (s : WS) (v value : Nat) (w : World) (h : WAt w X zs s) (hbz : s.l.busy = false) (hf : faultOf zs s.d v value = 0) :
    Calls Try.prog 19 #[.pointer (some ⟨X, 0, none⟩), .int .i64 v, .int .i64 value] w fun e w' => e = .returned (.int .i64 0) ∧ ∃ d' bv ts us, Closure zs.length s.bs (s.d.set v (remV (s.d.getD v 0) value)) d' ∧ Dm d' ∧
      WAt w' X zs (s.set d' bv ts us) ∧ WStep w w' X s (s.set d' bv ts us) := by
  obtain ⟨hz0, hzl⟩ := okSizes_len h.mem.zok
  obtain ⟨_, hv1, _, hv3, hv4⟩ := fault_zero hf
  rw [Int.toNat_natCast] at hv3
  have hvz : v < zs.length := by omega
  have hval : value < 6 := by
    have := okSizes_get h.mem.zok v hvz
    omega
  have hi8 : (v : Int) < 8 := by omega
  have hd8 : s.d.length = 8 := h.good.dm.len
  have hcd : w.cell? ⟨X, 1 + v, none⟩ = some (.int .u8 (s.d.getD v 0 : Nat)) := (h.mem.blk.cell _).trans (workCells_dom _ _ _ _ _ (by omega))
  have hy64 := h.good.dm.lt v
  obtain ⟨y, hy⟩ : ∃ y, s.d.getD v 0 = y := ⟨_, rfl⟩
  have hsub : SubD (s.d.set v (remV y value)) s.d := set_sub (fun u hu => by rw [remV_bit _ _ _ (by rw [← hy]; exact hy64)] at hu; rw [hy]; simp at hu; exact hu.1)
  have hfull := h.good.full hv4
  rw [hy] at hcd hy64 ⊢
  have hbf := bits_rem y value hy64 hval
  have HH := hd h
  have Hy := hd hy
  have Hsub := hd hsub
  have Hfull := hd hfull
  have Hbf := hd hbf
  clear h hy hsub hfull hbf
  go_enter Try.func19, Try.ntmps19
  go_upto_region 4 with (go_at_call 39; refine (fault_any X s.szv s.d _ s.l zs v value _ HH.out.mem.blk HH.out.mem.sz hzl hd8 hbz).mono ?_; rw [hf]; rintro e w' ⟨rfl, rfl⟩)
  go_still_tail 11, (by kernel_rfl)
  refine still_call (f := 41) (args := #[.int .i64 (value : Int)]) (.int .u8 (2 ^ value : Nat)) (by kernel_rfl) (by kernel_rfl) (one_any value _ (by omega)) ?_
  simp only [Act.put, List.setIfInBounds_toArray, List.set_cons_zero, List.set_cons_succ]
  refine still_value (.int .u8 (remV y value : Nat)) (by kernel_rfl) ?_ ?_
  · have hxx := Hbf.out
    clear hf hv4 hcd hv3
    go_simp
    simpa using hxx
  refine wpStill_nil ?_
  simp only [Act.put, List.setIfInBounds_toArray, List.set_cons_zero, List.set_cons_succ]
  go_wp2_with (go_at_call 40; refine (restrict_any X zs s v (remV y value) _ (HH.out.nw ((Fr.refl _ _).drew)) hvz Hsub.out Hfull.out).mono ?_; rintro e w2 ⟨rfl, d', bv, ts, us, h1, h2, h3, h4⟩)
  go_ret
  exact ⟨rfl, d', bv, ts, us, h1, h2, h3, ⟨h4.fr.of_drew, h4.grow⟩⟩
end Go.Proofs.Ytkjfpdfkcfgfkaa

/- Contract of Post where it is the first table, of Way 1 and not Not, and no domain comes out empty. -/
namespace Go.Proofs.Ytkjfpdfkcfgfkaa
open Go.RowKit

theorem Row.ints' {w : World} {ao : Option Addr} {cap : Nat} {zs : List Int} (h : Row w (.slice ao zs.length cap) 3 (zs.map (Value.int .i64))) : IntsAt w ao zs := fun i hi => by
  obtain ⟨g, c, he, hb, hc, _⟩ := h.cell i (by simpa using hi)
  obtain ⟨rfl, _⟩ : ao = some ⟨g, 0, none⟩ ∧ cap = c := by
    injection he with h1 h2 h3
    exact ⟨h1, h3⟩
  refine ⟨g, 0, rfl, h.lt rfl, ?_⟩
  rw [Nat.zero_add, hc]
  simp [hi]
theorem RowsAt.drew {w : World} {ao : Option Addr} {rows : List (List Int)} (h : RowsAt w ao rows) : RowsAt w.drew ao rows := h.nw ((Fr.refl _ w).drew)
theorem IntsAt.drew {w : World} {ao : Option Addr} {zs : List Int} (h : IntsAt w ao zs) : IntsAt w.drew ao zs := h.nw ((Fr.refl _ w).drew)

theorem workCells_setTabs (szv : Value) (d : List Nat) (tv tv' : Value) (l : Rest) (h8 : d.length = 8) : (workCells szv d tv l).setIfInBounds 9 tv' = workCells szv d tv' l := by
  simp [workCells, h8]
theorem Try.infoTable : (Try.prog.info? 93).map (fun i => (i.zero, i.size, i.bytes)) = some (some .nilIface, 1, 16) := by kernel_rfl

end Go.Proofs.Ytkjfpdfkcfgfkaa

/- Post over any tables: a table more, ahead of the closure. -/
namespace Go.Proofs.Ytkjfpdfkcfgfkaa
open Go.RowKit

theorem okTable_parts {zs vars : List Int} {rows : List (List Int)} {way : Int} (h : okTable zs vars rows way = true) (hz : zs.length ≤ 8) : (way = 1 ∨ way = 2) ∧ 1 ≤ vars.length ∧ rows.length ≤ 60 ∧ VarsOk vars ∧ (∀ i, i < vars.length → vars.getD i 0 < zs.length) ∧ (∀ j, j < rows.length → (rows.getD j []).length = vars.length) := by
  simp only [okTable, Bool.and_eq_true, decide_eq_true_eq, List.all_eq_true, List.mem_range] at h
  obtain ⟨⟨⟨h1, h2⟩, h3⟩, h4⟩ := h
  obtain ⟨b1, b2, b3⟩ := okVars_bounds h2
  refine ⟨by simpa [okWay] using h1, b1, h3, ⟨b2, fun i hi => ⟨(b3 i hi).1, by have := (b3 i hi).2; omega⟩, ?_⟩, fun i hi => (b3 i hi).2, fun j hj => ?_⟩
  · have key : ∀ i k, i < k → k < vars.length → vars.getD i 0 ≠ vars.getD k 0 := by
      intro i k hik hk e
      simp only [okVars, Bool.and_eq_true, decide_eq_true_eq, List.all_eq_true, List.mem_range] at h2
      have h5 := h2.2 k hk
      simp only [okVar, Bool.and_eq_true, decide_eq_true_eq, Bool.not_eq_true'] at h5
      have h6 : (vars.take k).contains (vars.getD k 0) = true := by
        rw [List.contains_iff_mem, List.mem_iff_getElem]
        refine ⟨i, by simp; omega, ?_⟩
        have hi : i < vars.length := by omega
        rw [List.getElem_take, ← e]
        simp [List.getD, hi]
      rw [h6] at h5
      exact absurd h5.2 (by simp)
    intro i k hi hk e
    rcases Nat.lt_trichotomy i k with h | h | h
    · exact absurd e (key i k h hk)
    · exact h
    · exact absurd e.symm (key k i h hi)
  · have h5 := h4 j hj
    simp only [okRowAt, okRow, Bool.and_eq_true, decide_eq_true_eq] at h5
    exact h5.1
theorem getD_app (ts : List Tab) (x : Tab) (i : Nat) : (ts ++ [x]).getD i tab0 = if i < ts.length then ts.getD i tab0 else if i = ts.length then x else tab0 := by
  by_cases h : i < ts.length
  · rw [if_pos h]
    simp [List.getD, List.getElem?_append_left h]
  · rw [if_neg h]
    by_cases e : i = ts.length
    · subst e
      simp [List.getD]
    · rw [if_neg e]
      have : (ts ++ [x]).length ≤ i := by simp; omega
      simp [List.getD, List.getElem?_eq_none this]
theorem getD_appB (bs : List Tb) (b : Tb) (i : Nat) : (bs ++ [b]).getD i tb0 = if i < bs.length then bs.getD i tb0 else if i = bs.length then b else tb0 := by
  by_cases h : i < bs.length
  · rw [if_pos h]
    simp [List.getD, List.getElem?_append_left h]
  · rw [if_neg h]
    by_cases e : i = bs.length
    · subst e
      simp [List.getD]
    · rw [if_neg e]
      have : (bs ++ [b]).length ≤ i := by simp; omega
      simp [List.getD, List.getElem?_eq_none this]
/-- The Work with a table more. -/
def WS.more (s : WS) (so : Option Addr) (tcap : Nat) (x : Tab) (b : Tb) : WS := { s with so := so, tcap := tcap, ts := s.ts ++ [x], bs := s.bs ++ [b] }
theorem WMem.more {S : Nat → Prop} {w Z : World} {X : Nat} {zs : List Int} {s : WS} {so : Option Addr} {tcap : Nat} {x : Tab} {b : Tb} (h : WMem w X zs s) (hu : s.us = []) (f : Fr S w Z) (o : Only w S [82, 93])
    (hX : Blk Z X (workCells s.szv s.d (.slice so (s.ts.length + 1) tcap) s.l) 82) (hrow : Row Z (.slice so (s.ts.length + 1) tcap) 93 (s.ts.map Tab.val ++ [x.val])) (hx : TAt Z x.G x.g x.cap x.vars x.t) (hG : w.heap.size ≤ x.G) (hg : w.heap.size ≤ x.g)
    (h12 : s.ts.length < 12) (hv : x.vars = b.vars) (hb : b.Ok) (hbn : ∀ i, i < b.vars.length → b.vars.getD i 0 < zs.length) : WMem Z X zs (s.more so tcap x b) := by
  refine ⟨?_, h.sz.frO f o (by decide), h.zok, ⟨?_, ?_, ?_, ?_⟩, ?_, ?_, ⟨?_, ?_⟩, ?_, h.tr.frO f o (by decide), ?_, fun k hk => ⟨(h.apart k hk).1, fun i hi => ?_⟩⟩
  · show Blk Z X (workCells s.szv s.d (.slice so (s.ts ++ [x]).length tcap) s.l) _
    rw [List.length_append]
    exact hX
  · show Row Z (.slice so (s.ts ++ [x]).length tcap) _ ((s.ts ++ [x]).map Tab.val)
    rw [List.length_append, List.map_append]
    exact hrow
  · intro i hi
    have hi' : i < s.ts.length + 1 := by simpa [WS.more] using hi
    simp only [WS.more]
    rw [getD_app]
    by_cases h1 : i < s.ts.length
    · rw [if_pos h1]
      exact (h.tabs.at_ i h1).frO f o (by decide)
    · rw [if_neg h1, if_pos (by omega)]
      exact hx
  · intro i hi
    show ((s.ts ++ [x]).getD i tab0).vars.length ≤ 4
    have hi' : i < s.ts.length + 1 := by simpa [WS.more] using hi
    rw [getD_app]
    by_cases h1 : i < s.ts.length
    · rw [if_pos h1]
      exact h.tabs.four i h1
    · rw [if_neg h1, if_pos (by omega), hv]
      exact hb.vars.four
  · intro i hi
    show ∀ k, k < ((s.ts ++ [x]).getD i tab0).vars.length → _
    have hi' : i < s.ts.length + 1 := by simpa [WS.more] using hi
    simp only [WS.more]
    rw [getD_app]
    by_cases h1 : i < s.ts.length
    · rw [if_pos h1]
      exact h.tabs.ok i h1
    · rw [if_neg h1, if_pos (by omega), hv]
      exact hb.vars.ok
  · intro i j hi hj e
    have hi' : i < s.ts.length + 1 := by simpa [WS.more] using hi
    have hj' : j < s.ts.length + 1 := by simpa [WS.more] using hj
    simp only [WS.more] at e
    rw [getD_app, getD_app] at e
    by_cases h1 : i < s.ts.length
    · rw [if_pos h1] at e
      by_cases h2 : j < s.ts.length
      · rw [if_pos h2] at e
        exact h.inj i j h1 h2 e
      · rw [if_neg h2, if_pos (by omega)] at e
        have := (h.tabs.at_ i h1).lt (.inl rfl)
        omega
    · rw [if_neg h1, if_pos (by omega)] at e
      by_cases h2 : j < s.ts.length
      · rw [if_pos h2] at e
        have := (h.tabs.at_ j h2).lt (.inl rfl)
        omega
      · omega
  · show (s.ts ++ [x]).length ≤ 12
    simp
    omega
  · simp [WS.more, h.fits.1]
  · intro k hk
    have hk' : k < s.bs.length + 1 := by simpa [WS.more] using hk
    simp only [WS.more]
    rw [getD_app, getD_appB, h.fits.1]
    by_cases h1 : k < s.bs.length
    · rw [if_pos h1, if_pos h1]
      exact h.fits.2 k h1
    · rw [if_neg h1, if_neg h1, if_pos (by omega), if_pos (by omega)]
      exact hv
  · intro k hk
    have hk' : k < s.bs.length + 1 := by simpa [WS.more] using hk
    simp only [WS.more]
    rw [getD_appB]
    by_cases h1 : k < s.bs.length
    · rw [if_pos h1]
      exact h.tbok k h1
    · rw [if_neg h1, if_pos (by omega)]
      refine ⟨hb, fun i hi => ?_⟩
      have := hbn i hi
      have := hb.vars.ok i hi
      omega
  · intro u hu'
    have : u ∈ s.us := hu'
    rw [hu] at this
    cases this
  · have hi' : i < s.ts.length + 1 := by simpa [WS.more] using hi
    simp only [WS.more]
    rw [getD_app]
    by_cases h1 : i < s.ts.length
    · rw [if_pos h1]
      exact (h.apart k hk).2 i h1
    · rw [if_neg h1, if_pos (by omega)]
      have := h.tr.starts.lt hk
      omega
/-- The new table alone waits. -/
theorem Good.more {zs : List Int} {s : WS} (h : Good zs s.bs s.d (s.ts.map Tab.t)) (hf : Fits s.bs s.ts) (h12 : s.ts.length < 12) {so : Option Addr} {tcap : Nat} {x : Tab} {b : Tb} (hr : TRep b s.d x.t) :
    SInv (s.more so tcap x b).bs (s.more so tcap x b).ts (noMarks.set s.ts.length true) s.d s.d := by
  refine ⟨h.dm, SubD.refl _, fun _ h _ => h, fun k hk hq => ?_, fun k hk => ?_⟩
  · have hk' : k < s.bs.length + 1 := by simpa [WS.more] using hk
    simp only [WS.more]
    rw [getD_appB]
    by_cases h1 : k < s.bs.length
    · rw [if_pos h1]
      exact h.clo _ (getD_mem h1)
    · have e : s.ts.length = k := by rw [hf.1]; omega
      rw [getD_setB, if_pos ⟨e, by show s.ts.length < 12; exact h12⟩] at hq
      cases hq
  · have hk' : k < s.bs.length + 1 := by simpa [WS.more] using hk
    simp only [WS.more]
    rw [getD_appB, getD_app, hf.1]
    by_cases h1 : k < s.bs.length
    · rw [if_pos h1, if_pos h1, ← mapT_getD]
      exact h.rep k h1
    · rw [if_neg h1, if_neg h1, if_pos (by omega), if_pos (by omega)]
      exact hr
theorem WStep.more {S : Nat → Prop} {w Z : World} {X : Nat} {s : WS} {so : Option Addr} {tcap : Nat} {x : Tab} {b : Tb} (f : Fr S w Z) (hS : ∀ k, S k → s.own X k) (hso : ∀ k, (Value.slice so (s.ts.length + 1) tcap).ownBlock = some k → (Value.slice s.so s.ts.length s.tcap).ownBlock = some k ∨ w.heap.size ≤ k) (hG : w.heap.size ≤ x.G) (hg : w.heap.size ≤ x.g) :
    WStep w Z X s (s.more so tcap x b) := by
  refine ⟨f.mono (fun i hi => .inl (hS i hi)), ?_⟩
  rintro k (rfl | hk' | hk' | ⟨i, hi, hk'⟩ | hk' | hk' | ⟨u, hu, hk'⟩)
  · exact .inl (.inl rfl)
  · exact .inl (.inr (.inl hk'))
  · have hk2 : (Value.slice so (s.ts ++ [x]).length tcap).ownBlock = some k := hk'
    rw [List.length_append] at hk2
    exact (hso k hk2).imp (fun h => .inr (.inr (.inl h))) id
  · have hi' : i < s.ts.length + 1 := by simpa [WS.more] using hi
    have hk2 : k = ((s.ts ++ [x]).getD i tab0).G ∨ k = ((s.ts ++ [x]).getD i tab0).g := hk'
    rw [getD_app] at hk2
    by_cases h1 : i < s.ts.length
    · rw [if_pos h1] at hk2
      exact .inl (.inr (.inr (.inr (.inl ⟨i, h1, hk2⟩))))
    · rw [if_neg h1, if_pos (by omega)] at hk2
      rcases hk2 with rfl | rfl
      · exact .inr hG
      · exact .inr hg
  · exact .inl (.inr (.inr (.inr (.inr (.inl hk')))))
  · exact .inl (.inr (.inr (.inr (.inr (.inr (.inl hk'))))))
  · exact .inl (.inr (.inr (.inr (.inr (.inr (.inr ⟨u, hu, hk'⟩))))))
end Go.Proofs.Ytkjfpdfkcfgfkaa

/- Post, over any tables. -/
namespace Go.Proofs.Ytkjfpdfkcfgfkaa
open Go.RowKit

/-- The answer of Post. -/
def postOf (zs : List Int) (s : WS) (vars : List Int) (rows : List (List Int)) (way : Int) : Int :=
  if okTable zs vars rows way = false then 1 else if s.ts.length = 12 then 2 else if s.sk.length ≠ 0 then 4 else if s.d.getD 0 0 = 0 then 3 else 0
theorem startsOf_form {w : World} {l : Rest} {sk : List (Nat × List Nat × List TS)} {xs : List Value} (h : TrAt w l (startsOf sk) xs) : ∃ so sc, l.starts = .slice so sk.length sc := by
  obtain ⟨so, sc, hf, _⟩ := h.starts.form
  exact ⟨so, sc, by rw [hf]; simp [startsOf]⟩

theorem postOf_zero {zs : List Int} {s : WS} {vars : List Int} {rows : List (List Int)} {way : Int} (h : postOf zs s vars rows way = 0) : okTable zs vars rows way = true ∧ s.ts.length ≠ 12 ∧ s.sk = [] ∧ s.d.getD 0 0 ≠ 0 := by
  unfold postOf at h
  by_cases h1 : okTable zs vars rows way = false
  · rw [if_pos h1] at h
    omega
  · rw [if_neg h1] at h
    by_cases h2 : s.ts.length = 12
    · rw [if_pos h2] at h
      omega
    · rw [if_neg h2] at h
      by_cases h3 : s.sk.length ≠ 0
      · rw [if_pos h3] at h
        omega
      · rw [if_neg h3] at h
        by_cases h4 : s.d.getD 0 0 = 0
        · rw [if_pos h4] at h
          omega
        · exact ⟨by simpa using h1, h2, by simpa using h3, h4⟩

set_option maxHeartbeats 6400000 in
set_option maxRecDepth 1000000 in
theorem post_yes (X : Nat) (vo ro : Option Addr) (vcap rcap : Nat) (zs : List Int) (s : WS) (vars : List Int) (rows : List (List Int)) (nt : Bool) (way : Int) (w : World) (h : WAt w X zs s) (hbz : s.l.busy = false)
    (hvcap : vars.length ≤ vcap) (hvs : IntsAt w vo vars) (hrs : RowsAt w ro rows) (hyes : postOf zs s vars rows way = 0) :
    Calls Try.prog 31 #[.pointer (some ⟨X, 0, none⟩), .agg #[.slice vo vars.length vcap, .slice ro rows.length rcap, .bool nt, .int .i64 way]] w fun e w' => e = .returned (.int .i64 0) ∧ ∃ so tcap x d' bv ts us, Closure zs.length (s.bs ++ [⟨vars, rows, nt⟩]) s.d d' ∧ Dm d' ∧
      WAt w' X zs ((s.more so tcap x ⟨vars, rows, nt⟩).set d' bv ts us) ∧ WStep w w' X s ((s.more so tcap x ⟨vars, rows, nt⟩).set d' bv ts us) := by
  obtain ⟨hz0, hzl⟩ := okSizes_len h.mem.zok
  have hd8 : s.d.length = 8 := h.good.dm.len
  obtain ⟨hok, hn12, hsk, halive⟩ := postOf_zero hyes
  have h12 : s.ts.length < 12 := by have := h.mem.t12; omega
  have hus : s.us = [] := by
    have := h.sk
    rw [hsk] at this
    exact this
  obtain ⟨hway, hv1, hr60, hVO, hvn, hrl⟩ := okTable_parts hok hzl
  have hTb : (⟨vars, rows, nt⟩ : Tb).Ok := ⟨hVO, hrl, hv1⟩
  obtain ⟨b, o, hvo, _, _⟩ := hvs 0 hv1
  subst hvo
  obtain ⟨sa, scap, hszv, _⟩ := h.mem.sz.form
  simp only [List.length_map] at hszv
  obtain ⟨v0, v1, v2, v3, v4, v5, v6, v7, hdv⟩ := domV8 hd8
  obtain ⟨⟨x0, rfl⟩, ⟨x1, rfl⟩, ⟨x2, rfl⟩, ⟨x3, rfl⟩, ⟨x4, rfl⟩, ⟨x5, rfl⟩, ⟨x6, rfl⟩, ⟨x7, rfl⟩⟩ := domV_one s.d hdv
  obtain ⟨W, hW⟩ : ∃ W, W = w.alloc (.cells #[.slice (some ⟨b, o, none⟩) vars.length vcap, .slice ro rows.length rcap, .bool nt, .int .i64 way] 58) := ⟨_, rfl⟩
  have hfW : Nw w W := by rw [hW]; exact (Fr.refl _ w).alloc _
  have hbT : Blk W w.heap.size #[.slice (some ⟨b, o, none⟩) vars.length vcap, .slice ro rows.length rcap, .bool nt, .int .i64 way] 58 := by rw [hW]; exact Blk.new _ _ _
  have t0 : W.cell? ⟨w.heap.size, 0, none⟩ = some (.slice (some ⟨b, o, none⟩) vars.length vcap) := hbT.cell 0
  have t1 : W.cell? ⟨w.heap.size, 1, none⟩ = some (.slice ro rows.length rcap) := hbT.cell 1
  have t2 : W.cell? ⟨w.heap.size, 2, none⟩ = some (.bool nt) := hbT.cell 2
  have t3 : W.cell? ⟨w.heap.size, 3, none⟩ = some (.int .i64 way) := hbT.cell 3
  have hM := h.mem.nw hfW
  have hcs : W.cell? ⟨X, 0, none⟩ = some (.slice sa zs.length scap) := (hM.blk.cell 0).trans ((workCells_sz ..).trans (by rw [hszv]))
  have hcb : W.cell? ⟨X, 12, none⟩ = some (.bool false) := (hM.blk.cell 12).trans ((workCells_busy _ _ _ _ hd8).trans (by rw [hbz]))
  have HsR : Hid (Row W (.slice sa zs.length scap) 3 (zs.map (Value.int .i64))) := by rw [← hszv]; exact hM.sz
  have hXlt := h.mem.blk.lt
  have HM := hd hM
  have HH := hd h
  have Hvs := hd (hvs.nw hfW)
  have Hrs := hd (hrs.nw hfW)
  have HbT := hd hbT
  have HW := hd hW
  have HfW := hd hfW
  have Hdv := hd hdv
  have h12i : (s.ts.length : Int) < 12 := by omega
  have hne12 : ((s.ts.length : Int) == 12) = false := by simp; omega
  obtain ⟨so', sc', hst⟩ := startsOf_form h.mem.tr
  rw [hsk] at hst
  have hst0 : s.l.starts = .slice so' 0 sc' := hst
  have Hst := hd hst0
  have Hsk := hd hsk
  have Hus := hd hus
  have Hok := hd hok
  have Hal : Hid ((s.d.getD 0 0 == 0) = false) := by show (s.d.getD 0 0 == 0) = false; simpa using halive
  have HVO := hd hVO
  have HTb := hd hTb
  have Hrl := hd hrl
  have Hvn := hd hvn
  clear h hM hvs hrs hbT hW hfW hszv hst hst0 hsk hus hok halive hVO hTb hrl hvn hdv hyes hn12
  go_enter Try.func31, Try.ntmps31
  go_upto_region 1 with fail
  rw [← HW.out]
  go_upto_region 2 with fail
  go_still_tail 5, (by kernel_rfl)
  go_wp2_with fail
  refine (valid_any (some ⟨b, o, none⟩) ro sa vcap rcap scap vars rows nt way zs _ (by have := HVO.out.four; omega) (by omega) hvcap Hvs.out.drew Hrs.out.drew (HsR.out.drew.ints')).mono ?_
  rw [Hok.out]
  rintro e w1 ⟨rfl, hf1⟩
  have hf1' : Nw W w1 := hf1.of_drew
  have hM1 := HM.out.nw hf1'
  have hct : w1.cell? ⟨X, 9, none⟩ = some (.slice s.so s.ts.length s.tcap) := (hM1.blk.cell 9).trans (workCells_tabs _ _ _ _ hd8)
  have hcl : w1.cell? ⟨X, 11, none⟩ = some (.slice so' 0 sc') := (hM1.blk.cell 11).trans ((workCells_starts _ _ _ _ hd8).trans (by rw [Hst.out]))
  have HM1 := hd hM1
  have Hvs1 := hd (Hvs.out.nw hf1')
  have Hrs1 := hd (Hrs.out.nw hf1')
  have HbT1 := hd (HbT.out.nw hf1')
  have hs1 : w.heap.size + 1 ≤ w1.heap.size := by have := HbT1.out.lt; omega
  have Hf1 : Hid (Nw w w1) := HfW.out.trans hf1' (fun i h => h.elim)
  clear hf1 hf1' hM1 HM Hvs Hrs HbT t0 t1 t2 t3 hcs hcb HfW HW HsR
  go_upto_region 12 with (first
    | (go_at_call 36; refine (level_any X so' 0 sc' _ hcl).mono ?_; rintro e w' ⟨rfl, rfl⟩)
    | (go_at_call 37; refine (dead_any X _ s.d _ s.l _ HM1.out.blk hd8).mono ?_; rw [Hal.out]; rintro e w' ⟨rfl, rfl⟩))
  obtain ⟨V, hV⟩ : ∃ V, V = w'.alloc (.cells (mksV noMarks) 91) := ⟨_, rfl⟩
  have hfV : Nw w' V := by rw [hV]; exact (Fr.refl _ w').alloc _
  have hbM : Blk V w'.heap.size (mksV noMarks) 91 := by rw [hV]; exact Blk.new _ _ _
  rw [show w'.alloc (Obj.cells #[Value.bool false, Value.bool false, Value.bool false, Value.bool false, Value.bool false, Value.bool false, Value.bool false, Value.bool false, Value.bool false, Value.bool false, Value.bool false, Value.bool false] 91) = V from hV.symm]
  clear hV hct hcl
  have hct : V.cell? ⟨X, 9, none⟩ = some (.slice s.so s.ts.length s.tcap) := ((HM1.out.nw hfV).blk.cell 9).trans (workCells_tabs _ _ _ _ hd8)
  have hcM : V.cell? ⟨w'.heap.size, s.ts.length, none⟩ = some (.bool (noMarks.getD s.ts.length false)) := (hbM.cell _).trans (mksV_get _ _ (by show s.ts.length < 12; exact h12))
  have hfM := hbM.free s.ts.length
  have HbM := hd hbM
  clear hbM
  go_upto_region 13 with fail
  obtain ⟨U, hU⟩ : ∃ U, U = V.setCell ⟨w'.heap.size, s.ts.length, none⟩ (.bool true) := ⟨_, rfl⟩
  have hfU : Nw w' U := by rw [hU]; exact hfV.setCell _ _ (.inr (Nat.le_refl _))
  have hbM : Blk U w'.heap.size (mksV (noMarks.set s.ts.length true)) 91 := by
    have h5 := HbM.out.set s.ts.length (.bool true)
    have e6 : mksV (noMarks.set s.ts.length true) = (mksV noMarks).setIfInBounds s.ts.length (.bool true) := by simp [mksV, List.map_set]
    rw [hU, e6]
    exact h5
  rw [← hU]
  have hMl := hbM.lt
  clear hU hct hcM hfM HbM hfV
  have hMU := HM1.out.nw hfU
  have hXU := hMU.blk
  have hTU := HbT1.out.nw hfU
  have HfU : Hid (Nw w U) := Hf1.out.trans hfU (fun i h => h.elim)
  have HvU := hd (Hvs1.out.nw hfU)
  have HrU := hd (Hrs1.out.nw hfU)
  have HMU := hd hMU
  have HbM := hd hbM
  obtain ⟨xs, hxs⟩ : ∃ xs, s.ts.map Tab.val = xs := ⟨_, rfl⟩
  have hxl : s.ts.length = xs.length := by rw [← hxs]; simp
  have hrU : Row U (.slice s.so xs.length s.tcap) 93 xs := by
    have := hMU.tabs.row
    rw [hxs, hxl] at this
    exact this
  have HrT := hd hrU
  have Hxs := hd hxs
  have Hxl := hd hxl
  rw [hxl] at hXU
  rw [hxl] at h12 h12i
  clear hbM Hvs1 Hrs1 HbT1 Hf1 hfU hMU HM1 hrU hxs hxl hne12
  obtain ⟨szv, hszv⟩ : ∃ szv, s.szv = szv := ⟨_, rfl⟩
  have hK0 : Blk U.drew X (workCells s.szv s.d (.slice s.so xs.length s.tcap) s.l) 82 ∧ Blk U.drew w.heap.size #[.slice (some ⟨b, o, none⟩) vars.length vcap, .slice ro rows.length rcap, .bool nt, .int .i64 way] 58 := ⟨hXU.drew, hTU.drew⟩
  refine region_U (S := fun w'' => Blk w'' X (workCells s.szv s.d (.slice s.so xs.length s.tcap) s.l) 82 ∧ Blk w'' w.heap.size #[.slice (some ⟨b, o, none⟩) vars.length vcap, .slice ro rows.length rcap, .bool nt, .int .i64 way] 58) 15 (by kernel_rfl) ?_
  refine anyU_take (i := 0) (v := .pointer (some ⟨X, 0, none⟩)) (by kernel_rfl) rfl (by kernel_rfl) (by kernel_rfl) (by kernel_rfl) (fun _ _ _ h => h) (.inl ⟨by kernel_rfl, fun w'' hS => by kernel_rfl⟩) hK0 ?_
  refine anyU_take (i := 1) (v := .pointer (some ⟨X, 0, none⟩)) (by kernel_rfl) rfl (by kernel_rfl) (by kernel_rfl) (by kernel_rfl) (fun _ _ _ h => h) (.inl ⟨by kernel_rfl, fun w'' hS => by kernel_rfl⟩) hK0 ?_
  refine anyU_take (i := 2) (v := .pointer (some ⟨X, 0, none⟩)) (by kernel_rfl) rfl (by kernel_rfl) (by kernel_rfl) (by kernel_rfl) (fun _ _ _ h => h) (.inl ⟨by kernel_rfl, fun w'' hS => by kernel_rfl⟩) hK0 ?_
  refine anyU_take (i := 3) (v := .pointer (some ⟨X, 9, none⟩)) (by kernel_rfl) rfl (by kernel_rfl) (by kernel_rfl) (by kernel_rfl) (fun _ _ _ h => h) (.inl ⟨by kernel_rfl, fun w'' hS => by kernel_rfl⟩) hK0 ?_
  refine anyU_take (i := 4) (v := .slice s.so xs.length s.tcap) (by kernel_rfl) rfl (by kernel_rfl) (by kernel_rfl) (by kernel_rfl) (fun _ _ _ h => h) (.inl ⟨by kernel_rfl, fun w'' hS => ?_⟩) hK0 ?_
  · have hc := (hS.1.cell 9).trans (workCells_tabs _ _ _ _ hd8)
    clear hS hK0 hXU hTU hszv
    simp only [Act.put, List.setIfInBounds_toArray, List.set_cons_zero, List.set_cons_succ, List.getElem_toArray, List.getElem_cons_zero, List.getElem_cons_succ]
    go_simp
  refine anyU_take (i := 5) (v := .agg #[.slice (some ⟨b, o, none⟩) vars.length vcap, .slice ro rows.length rcap, .bool nt, .int .i64 way]) (by kernel_rfl) rfl (by kernel_rfl) (by kernel_rfl) (by kernel_rfl) (fun _ _ _ h => h) (.inl ⟨by kernel_rfl, fun w'' hS => ?_⟩) hK0 ?_
  · have q0 : w''.cell? ⟨w.heap.size, 0, none⟩ = some (.slice (some ⟨b, o, none⟩) vars.length vcap) := hS.2.cell 0
    have q1 : w''.cell? ⟨w.heap.size, 1, none⟩ = some (.slice ro rows.length rcap) := hS.2.cell 1
    have q2 : w''.cell? ⟨w.heap.size, 2, none⟩ = some (.bool nt) := hS.2.cell 2
    have q3 : w''.cell? ⟨w.heap.size, 3, none⟩ = some (.int .i64 way) := hS.2.cell 3
    clear hS hK0 hXU hTU hszv
    simp only [Act.put, List.setIfInBounds_toArray, List.set_cons_zero, List.set_cons_succ, List.getElem_toArray, List.getElem_cons_zero, List.getElem_cons_succ]
    go_simp
  refine anyU_take (i := 6) (v := .pointer (some ⟨X, 0, none⟩)) (by kernel_rfl) rfl (by kernel_rfl) (by kernel_rfl) (by kernel_rfl) (fun _ _ _ h => h) (.inl ⟨by kernel_rfl, fun w'' hS => by kernel_rfl⟩) hK0 ?_
  refine anyU_take (i := 7) (v := .pointer (some ⟨X, 0, none⟩)) (by kernel_rfl) rfl (by kernel_rfl) (by kernel_rfl) (by kernel_rfl) (fun _ _ _ h => h) (.inl ⟨by kernel_rfl, fun w'' hS => by kernel_rfl⟩) hK0 ?_
  refine anyU_take (i := 8) (v := .pointer (some ⟨X, 1, none⟩)) (by kernel_rfl) rfl (by kernel_rfl) (by kernel_rfl) (by kernel_rfl) (fun _ _ _ h => h) (.inl ⟨by kernel_rfl, fun w'' hS => by kernel_rfl⟩) hK0 ?_
  refine anyU_take (i := 9) (v := .agg (domV s.d)) (by kernel_rfl) rfl (by kernel_rfl) (by kernel_rfl) (by kernel_rfl) (fun _ _ _ h => h) (.inl ⟨by kernel_rfl, fun w'' hS => ?_⟩) hK0 ?_
  · obtain ⟨k0, k1, k2, k3, k4, k5, k6, k7⟩ := work8 hS.1 Hdv.out
    clear hS hK0 hXU hTU hszv
    rw [Hdv.out]
    simp only [Act.put, List.setIfInBounds_toArray, List.set_cons_zero, List.set_cons_succ, List.getElem_toArray, List.getElem_cons_zero, List.getElem_cons_succ]
    go_simp
  refine anyU_one (i := 10) (by kernel_rfl) ?_
  refine op_enter (f := 52) (args := #[.agg #[.slice (some ⟨b, o, none⟩) vars.length vcap, .slice ro rows.length rcap, .bool nt, .int .i64 way], .agg (domV s.d)]) (w' := U.drew) rfl (by kernel_rfl) (by kernel_rfl) ?_
  refine (makeT_any b o ro vcap rcap vars rows nt way hway s.d _ hd8 hv1 HVO.out.four HVO.out.ok HH.out.good.dm.lt hr60 Hrl.out HvU.out.drew HrU.out.drew).mono ?_
  rintro e w2 ⟨G, g, cap, t, rfl, hf2, hmade, hT2, hnew⟩
  have hf2' : Nw U w2 := hf2.of_drew
  obtain ⟨ty, hty⟩ : ∃ ty, t.ty = ty := ⟨_, rfl⟩
  rw [hty]
  refine ⟨_, rfl, fun _ => ⟨hXU.nw hf2', hTU.nw hf2'⟩, ?_⟩
  refine anyU_one (i := 11) (by kernel_rfl) ?_
  refine op_value (v := .slice (some ⟨w2.heap.size, 0, none⟩) 1 1) (w' := w2.alloc (.cells #[.iface ty (.pointer (some ⟨G, 0, none⟩))] 93)) rfl (by kernel_rfl) ?_ ⟨fun _ => ⟨(hXU.nw hf2').alloc _, (hTU.nw hf2').alloc _⟩, ?_⟩
  · kernel_rfl
  obtain ⟨i0, hi0, hz0', hz1, hz2⟩ := info_parts Try.infoTable
  obtain ⟨v', w3, hr, hown, hgrow, _, hat⟩ := run_append_own_at (P := Try.prog) (w2.alloc (.cells #[.iface ty (.pointer (some ⟨G, 0, none⟩))] 93)) 0 77 77 93 i0 .nilIface 1 16 Try.underlying77 hi0 hz0' hz1 hz2 rfl (by decide) (.slice s.so xs.length s.tcap) xs.length xs (Row.alloc (HrT.out.nw hf2') _) ⟨w2.heap.size, 0, none⟩ 1 1 [.iface ty (.pointer (some ⟨G, 0, none⟩))] rfl (cell_one_new _ _ _) (by simp [Value.oneCell']) (by unfold maxLen; omega) (by omega) (Nat.zero_le _)
  obtain ⟨tb, tcap, rfl, hr3, hf3, ha3, hlt3⟩ := app1 hown hgrow hat
  clear hown hgrow hat
  have o3 : Only w2 (fun k => (Value.slice s.so xs.length s.tcap).ownBlock = some k) [93] := Only.row (HrT.out.nw hf2')
  have hX3 := (hXU.nw hf2').frO hf3 o3 (by decide)
  have hT3 := (hTU.nw hf2').frO hf3 o3 (by decide)
  refine anyU_one (i := 12) (by kernel_rfl) ?_
  refine op_value (v := .slice (some ⟨tb, 0, none⟩) (xs.length + 1) tcap) (w' := w3) rfl (by kernel_rfl) ?_ ⟨fun _ => ⟨hX3, hT3⟩, ?_⟩
  · simp only [Act.put, List.setIfInBounds_toArray, List.set_cons_zero, List.set_cons_succ, List.getElem_toArray, List.getElem_cons_zero, List.getElem_cons_succ]
    unfold execOp
    simp only [resolve, invoke, builtin, Sem.run_bind, Sem.run_pure, Result.andThen_ok, List.map_toArray, List.map_cons, List.map_nil, Act.eval]
    erw [hr]
    rfl
  refine anyU_one (i := 13) (by kernel_rfl) ?_
  refine op_value (v := .pointer (some ⟨X, 0, none⟩)) (w' := w3) rfl (by kernel_rfl) (by kernel_rfl) ⟨fun _ => ⟨hX3, hT3⟩, ?_⟩
  refine anyU_one (i := 14) (by kernel_rfl) ?_
  refine op_value (v := .pointer (some ⟨X, 9, none⟩)) (w' := w3) rfl (by kernel_rfl) (by kernel_rfl) ⟨fun _ => ⟨hX3, hT3⟩, ?_⟩
  refine anyU_one (i := 15) (by kernel_rfl) ?_
  have hc9 := (hX3.cell 9).trans (workCells_tabs _ _ _ _ hd8)
  have hf9 := hX3.free 9
  refine op_skip (w' := w3.setCell ⟨X, 9, none⟩ (.slice (some ⟨tb, 0, none⟩) (xs.length + 1) tcap)) rfl (by kernel_rfl) ?_ ⟨fun h => absurd rfl h, anyU_done (by kernel_rfl) ?_ _⟩
  · clear hK0 hXU hTU hX3 hT3 hf3 hr hr3 hf2 hf2' hT2 hmade hnew o3 hszv ha3
    simp only [Act.put, List.setIfInBounds_toArray, List.set_cons_zero, List.set_cons_succ, List.getElem_toArray, List.getElem_cons_zero, List.getElem_cons_succ]
    go_simp
  simp only [Act.put, List.setIfInBounds_toArray, List.set_cons_zero, List.set_cons_succ, List.getElem_toArray, List.getElem_cons_zero, List.getElem_cons_succ]
  obtain ⟨Z, hZ⟩ : ∃ Z, Z = w3.setCell ⟨X, 9, none⟩ (.slice (some ⟨tb, 0, none⟩) (xs.length + 1) tcap) := ⟨_, rfl⟩
  have hfZ : Fr (fun k => k = X) w3 Z := by rw [hZ]; exact (Fr.refl _ w3).setCell _ _ (.inl rfl)
  have hXZ : Blk Z X (workCells s.szv s.d (.slice (some ⟨tb, 0, none⟩) (xs.length + 1) tcap) s.l) 82 := by
    rw [hZ, ← workCells_setTabs _ _ _ _ _ hd8]
    exact hX3.set 9 _
  rw [← hZ]
  clear hZ
  have oX : Only w3 (fun k => k = X) [82] := Only.one hX3
  have hTZ := (hT2.frO hf3 o3 (by decide)).frO hfZ oX (by decide)
  have hrZ := hr3.frO hfZ oX (by decide)
  have hUZ : Fr (fun k => k = X ∨ (Value.slice s.so xs.length s.tcap).ownBlock = some k) U Z := ((hf2'.mono (S' := fun k => k = X ∨ (Value.slice s.so xs.length s.tcap).ownBlock = some k) (fun i h => h.elim)).trans hf3 (fun i h => .inl (.inr h))).trans hfZ (fun i h => .inl (.inl h))
  have hwZ : Fr (fun k => k = X ∨ (Value.slice s.so xs.length s.tcap).ownBlock = some k) w Z := (HfU.out.mono (fun i h => h.elim)).trans hUZ (fun i h => .inl h)
  have hrw : Row w (.slice s.so xs.length s.tcap) 93 xs := by
    have := HH.out.mem.tabs.row
    rw [Hxs.out, Hxl.out] at this
    exact this
  have oZ : Only w (fun k => k = X ∨ (Value.slice s.so xs.length s.tcap).ownBlock = some k) [82, 93] := (Only.one HH.out.mem.blk).or (Only.row hrw)
  have hGn : w.heap.size ≤ G := by
    have h1 : U.heap.size ≤ G := hnew G (.inl rfl)
    have := HfU.out.size
    omega
  have hgn : w.heap.size ≤ g := by
    have h1 : U.heap.size ≤ g := hnew g (.inr (.inl rfl))
    have := HfU.out.size
    omega
  have hMZ := WMem.more (x := ⟨G, g, cap, vars, t⟩) (b := ⟨vars, rows, nt⟩) HH.out.mem Hus.out hwZ oZ (by rw [Hxl.out]; exact hXZ) (by rw [Hxl.out, Hxs.out]; show Row Z _ _ (xs ++ [Value.iface t.ty _]); rw [hty]; exact hrZ) hTZ hGn hgn (by rw [Hxl.out]; exact h12) rfl HTb.out Hvn.out
  have hSt : WStep w Z X s (s.more (some ⟨tb, 0, none⟩) tcap ⟨G, g, cap, vars, t⟩ ⟨vars, rows, nt⟩) := WStep.more hwZ (fun k hk => hk.elim (fun e => .inl e) (fun e => .inr (.inr (.inl (by rw [Hxl.out]; exact e))))) (fun k hk => by
    rw [Hxl.out]
    have e : tb = k := by cases hk; rfl
    subst e
    rcases ha3 with h1 | h1
    · exact .inl h1
    · have := HfU.out.size
      have := hf2'.size
      exact .inr (by omega)) hGn hgn
  have hSI := HH.out.good.more (so := some ⟨tb, 0, none⟩) (tcap := tcap) (x := ⟨G, g, cap, vars, t⟩) (b := ⟨vars, rows, nt⟩) HH.out.mem.fits (by rw [Hxl.out]; exact h12) (made_rep HTb.out HH.out.good.dm hmade)
  have hbMZ := HbM.out.frO hUZ ((Only.one hXU).or (Only.row HrT.out)) (by decide)
  have Hmc : Hid (mksV (noMarks.set s.ts.length true) = mksV (noMarks.set s.ts.length true)) := rfl
  obtain ⟨mk, hmk⟩ : ∃ mk, noMarks.set s.ts.length true = mk := ⟨_, rfl⟩
  have hml : mk.length = 12 := by rw [← hmk]; simp [noMarks]
  obtain ⟨b0, b1, b2, b3, b4, b5, b6, b7, b8, b9, b10, b11, hmb⟩ := list12 hml
  have hmv : mksV mk = #[.bool b0, .bool b1, .bool b2, .bool b3, .bool b4, .bool b5, .bool b6, .bool b7, .bool b8, .bool b9, .bool b10, .bool b11] := by rw [hmb]; rfl
  rw [hmk] at hSI hbMZ
  have hoff : ∀ k, s.ts.length + 1 ≤ k → mk.getD k false = false := fun k hk => by
    rw [← hmk, getD_setB, if_neg (fun e => by omega)]
    exact noMarks_get k
  have hmc : marksOf mk ≤ 12 := by have := marks_le mk; omega
  have hbm := bits_max s.d
  obtain ⟨c0, c1, c2, c3, c4, c5, c6, c7⟩ := work8 hXZ Hdv.out
  rw [hmv] at hbMZ
  have r0 : Z.cell? ⟨w'.heap.size, 0, none⟩ = some (.bool b0) := hbMZ.cell 0
  have r1 : Z.cell? ⟨w'.heap.size, 1, none⟩ = some (.bool b1) := hbMZ.cell 1
  have r2 : Z.cell? ⟨w'.heap.size, 2, none⟩ = some (.bool b2) := hbMZ.cell 2
  have r3 : Z.cell? ⟨w'.heap.size, 3, none⟩ = some (.bool b3) := hbMZ.cell 3
  have r4 : Z.cell? ⟨w'.heap.size, 4, none⟩ = some (.bool b4) := hbMZ.cell 4
  have r5 : Z.cell? ⟨w'.heap.size, 5, none⟩ = some (.bool b5) := hbMZ.cell 5
  have r6 : Z.cell? ⟨w'.heap.size, 6, none⟩ = some (.bool b6) := hbMZ.cell 6
  have r7 : Z.cell? ⟨w'.heap.size, 7, none⟩ = some (.bool b7) := hbMZ.cell 7
  have r8 : Z.cell? ⟨w'.heap.size, 8, none⟩ = some (.bool b8) := hbMZ.cell 8
  have r9 : Z.cell? ⟨w'.heap.size, 9, none⟩ = some (.bool b9) := hbMZ.cell 9
  have r10 : Z.cell? ⟨w'.heap.size, 10, none⟩ = some (.bool b10) := hbMZ.cell 10
  have r11 : Z.cell? ⟨w'.heap.size, 11, none⟩ = some (.bool b11) := hbMZ.cell 11
  have HMZ := hd hMZ
  have HSt := hd hSt
  have HSI := hd hSI
  have Hoff := hd hoff
  have Hmv := hd hmv
  have hlen1 : (s.more (some ⟨tb, 0, none⟩) tcap ⟨G, g, cap, vars, t⟩ ⟨vars, rows, nt⟩).ts.length = s.ts.length + 1 := by simp [WS.more]
  have Hlen1 := hd hlen1
  clear hMZ hSt hSI hoff hmv hmb hmk Hmc hbMZ hXZ hX3 hT3 hc9 hf9 hr hr3 hf3 ha3 hlt3 hf2 hf2' hmade hT2 hnew hK0 hXU hTU o3 oX oZ hTZ hrZ hUZ hwZ hrw hfZ hGn hgn HvU HrU HMU HbM HrT hty hszv hlen1
  simp only [Exit.then]
  go_upto_region 14 with fail
  go_still_tail 6, (by kernel_rfl)
  go_wp2_with fail
  rw [← Hdv.out, ← Hmv.out]
  have HMd := HMZ.out.nw ((Fr.refl _ Z).drew)
  refine (settle_any ((s.more (some ⟨tb, 0, none⟩) tcap ⟨G, g, cap, vars, t⟩ ⟨vars, rows, nt⟩).ctx X zs s.d) s.d mk _ HMd.blk HMd.sz hz0 hzl hd8 HH.out.good.dm.mem HMd.tabs HMd.inj HMd.t12 hml (fun k hk => Hoff.out k (by rw [← Hlen1.out]; exact hk)) HMd.tr (by show (s.us.map Un.val).length + _ ≤ 900000; rw [Hus.out]; simp; omega) HSI.out HMd.tbok HMd.fits).mono ?_
  rintro e w4 ⟨rfl, d', bv, ts, us, hset⟩
  obtain ⟨hA, hB⟩ := HMd.settled (by show StackOk zs _ s.us _ s.sk; rw [Hsk.out, Hus.out]; rfl) HH.out.good.inn HH.out.good.dm (SubD.refl _) (by show s.us.length + 900 * bitsOf s.d ≤ _; rw [Hus.out]; simp; omega) (by omega) (fun _ hc => absurd Hsk.out hc) (by show s.sk.length ≤ 20; rw [Hsk.out]; simp) hset
  have hB' : WStep Z w4 X (s.more (some ⟨tb, 0, none⟩) tcap ⟨G, g, cap, vars, t⟩ ⟨vars, rows, nt⟩) _ := ⟨hB.fr.of_drew, hB.grow⟩
  have HA := hd hA
  have HB := hd (HSt.out.trans hB')
  have Hclo := hd hset.clo
  have Hdm := hd hset.dm
  clear hset hA hB hB' HMd c0 c1 c2 c3 c4 c5 c6 c7 r0 r1 r2 r3 r4 r5 r6 r7 r8 r9 r10 r11
  go_wp2_with fail
  go_ret
  exact ⟨rfl, _, _, _, d', bv, ts, us, Hclo.out, Hdm.out, HA.out, HB.out⟩
end Go.Proofs.Ytkjfpdfkcfgfkaa

/- 'for _, f := range slices.Backward(l) { .. }': the iterator's contract, and a law for the statement. -/
namespace Go.Proofs.Ytkjfpdfkcfgfkaa
open Go.RowKit Go.Shelf
attribute [local go_sem] Oper.semAt_some

/-- What the iterator reads: its box, the list's functions. -/
def BRd (Bx : Nat) (ao : Option Addr) (cap : Nat) (xs : List Value) (W : World) : Prop := W.cell? ⟨Bx, 0, none⟩ = some (.slice ao xs.length cap) ∧ ∀ i, i < xs.length → ∃ b o, ao = some ⟨b, o, none⟩ ∧ W.cell? ⟨b, o + i, none⟩ = some (xs.getD i undef)

end Go.Proofs.Ytkjfpdfkcfgfkaa

/- What Pop of a trail needs: one change put back; the cut of a row; clear. -/
namespace Go.Proofs.Ytkjfpdfkcfgfkaa
open Go.RowKit

theorem Row.take {w : World} {ao : Option Addr} {m cap : Nat} {e : TypeId} {xs : List Value} (h : Row w (.slice ao m cap) e xs) (n : Nat) (hn : n ≤ xs.length) : Row w (.slice ao n cap) e (xs.take n) := by
  have hl : (xs.take n).length = n := by simp; omega
  refine ⟨by rw [hl]; simp, ?_⟩
  rcases h.2 with ⟨he, h0⟩ | ⟨g, cap', cur, he, hb, hg, hc, hm, hs, ht⟩
  · have hn0 : n = 0 := by omega
    subst hn0
    have e2 : (Value.slice ao 0 cap) = .slice none 0 0 := by
      injection he with e1 e2 e3
      rw [e1, e3]
    exact .inl ⟨by rw [e2], by simp⟩
  · injection he with e1 e2 e3
    subst e1 e3
    refine .inr ⟨g, cap, cur, by rw [hl], hb, hg, by rw [hl]; omega, hm, hs, ?_⟩
    rw [hl, ← ht, List.take_take]
    congr 1
    omega
theorem Row.sliced0 {w : World} {ao : Option Addr} {m cap : Nat} {e : TypeId} {xs : List Value} (h : Row w (.slice ao m cap) e xs) (n : Nat) : sliced ao 0 n cap 1 = .slice ao n cap := by
  unfold sliced
  rcases h.2 with ⟨he, h0⟩ | ⟨g, cap', cur, he, _⟩
  · injection he with e1 e2 e3
    subst e1 e3
    simp
  · injection he with e1 e2 e3
    subst e1
    split
    · simp
    · simp [Addr.add]
def noS : Nat → Prop := fun _ => False
end Go.Proofs.Ytkjfpdfkcfgfkaa

/- Pop of a trail. -/
namespace Go.Proofs.Ytkjfpdfkcfgfkaa
open Go.RowKit Go.Shelf
attribute [local go_sem] Oper.semAt_some

/-- While changes are put back: i of the level's are left. -/
def PopI (w : World) (X : Nat) (zs : List Int) (s : WS) (n Bx : Nat) (sv : Value) (i : Nat) (W : World) : Prop := ∃ d ts, (s.us.drop (n + i)).foldr Un.undo (s.d, s.ts.map Tab.t) = (d, ts.map Tab.t) ∧ SameT s.ts ts ∧ d.length = 8 ∧ WMem W X zs { s with d := d, ts := ts } ∧ Fr (SFr X s.ts (.slice none 0 0)) w W ∧ Blk W Bx #[sv] 78
theorem slice_low (ao : Option Addr) (m cap n : Nat) (hn : n ≤ m) (W : World) : (Instr.sliceAt 78 (.slice ao m cap) (some (.int .i64 (n : Int))) none none).run Try.prog W = .ok (sliced ao n m cap 1) W := by
  have hu : Try.prog.underlying 78 = some (.slice (Try.prog.elem 78)) := by kernel_rfl
  have he : Try.prog.elem 78 = 1 := by kernel_rfl
  have hz : (sizeOf 1).run Try.prog W = .ok 1 W := by kernel_rfl
  rw [run_sliceAt_slice _ _ _ _ _ _ hu]
  rw [run_slice_l _ _ _ _ _ hu _ _ (by omega) (by omega), he, hz]
  simp [Result.andThen]
theorem slice_highI (ao : Option Addr) (m cap n : Nat) (hn : n ≤ cap) (W : World) : (Instr.sliceAt 22 (.slice ao m cap) none (some (.int .i64 (n : Int))) none).run Try.prog W = .ok (sliced ao 0 n cap 1) W := by
  have hu : Try.prog.underlying 22 = some (.slice (Try.prog.elem 22)) := by kernel_rfl
  have he : Try.prog.elem 22 = 3 := by kernel_rfl
  have hz : (sizeOf 3).run Try.prog W = .ok 1 W := by kernel_rfl
  rw [run_sliceAt_slice _ _ _ _ _ _ hu]
  rw [run_slice_h _ _ _ _ _ hu _ _ (by omega) (by omega), he, hz]
  simp [Result.andThen]
theorem Row.capG {w : World} {ao : Option Addr} {m cap : Nat} {e : TypeId} {xs : List Value} (h : Row w (.slice ao m cap) e xs) : xs.length ≤ cap := by
  rcases h.2 with ⟨he, h0⟩ | ⟨g, cap', cur, he, _, _, hc, _⟩
  · omega
  · injection he with e1 e2 e3
    omega
end Go.Proofs.Ytkjfpdfkcfgfkaa

/- Push and Pop of a Work. -/
namespace Go.Proofs.Ytkjfpdfkcfgfkaa
open Go.RowKit

/-- The Work behind Push. -/
def WS.push (s : WS) (sv : Value) : WS := { s with l := ⟨s.l.backs, sv, s.l.busy⟩, sk := (s.us.length, s.d, s.ts.map Tab.t) :: s.sk }

/-- The Work behind Pop. -/
def WS.pop (s : WS) (n : Nat) (d : List Nat) (r : List (Nat × List Nat × List TS)) (ts : List Tab) (bv sv : Value) : WS := { s with d := d, ts := ts, l := ⟨bv, sv, s.l.busy⟩, us := s.us.take n, sk := r }

end Go.Proofs.Ytkjfpdfkcfgfkaa

/- Look. -/
namespace Go.Proofs.Ytkjfpdfkcfgfkaa
open Go.RowKit

/-- Sums over the first k domains. -/
def leftTo (d : List Nat) (k : Nat) : Nat := ((List.range k).map (fun q => pop (d.getD q 0))).foldl (· + ·) 0
def fixTo (d : List Nat) (k : Nat) : Nat := ((List.range k).filter (fun q => pop (d.getD q 0) == 1)).length
/-- What Look tells. -/
def lookV (zs : List Int) (s : WS) : Array Value := #[.int .i64 (zs.length : Int), .int .i64 (s.ts.length : Int), .int .i64 (s.sk.length : Int), .bool (s.d.getD 0 0 == 0), .int .i64 (leftTo s.d 8 : Int), .int .i64 (fixTo s.d 8 : Int)]
def lookZ : Array Value := #[.int .i64 0, .int .i64 0, .int .i64 0, .bool false, .int .i64 0, .int .i64 0]

end Go.Proofs.Ytkjfpdfkcfgfkaa

/- The closure of fixed tables, reckoned out. -/
namespace Go.Proofs.Ytkjfpdfkcfgfkaa

def coversB (r : List Int) (l : List Nat) : Bool := (List.range l.length).all (fun i => bearsB (r.getD i 0) (l.getD i 0))
theorem coversB_iff (r : List Int) (l : List Nat) : coversB r l = true ↔ Covers r l := by
  simp only [coversB, List.all_eq_true, List.mem_range, Covers]
def allowB (rows : List (List Int)) (nt : Bool) (l : List Nat) : Bool := if nt then rows.all (fun r => !coversB r l) else rows.any (fun r => coversB r l)
theorem getD_rows {rows : List (List Int)} {j : Nat} (hj : j < rows.length) : rows.getD j [] ∈ rows := by
  have e : rows.getD j [] = rows[j] := by simp [List.getD, hj]
  rw [e]
  exact List.getElem_mem hj
theorem mem_rows {rows : List (List Int)} {r : List Int} (h : r ∈ rows) : ∃ j, j < rows.length ∧ rows.getD j [] = r := by
  obtain ⟨j, hj, e⟩ := List.getElem_of_mem h
  exact ⟨j, hj, by simp [List.getD, hj, e]⟩
theorem allowB_iff (rows : List (List Int)) (nt : Bool) (l : List Nat) : allowB rows nt l = true ↔ Allow rows nt l := by
  unfold allowB Allow
  cases nt with
  | true =>
    simp only [if_true, List.all_eq_true, Bool.not_eq_true']
    constructor
    · intro h j hj hc
      have := h _ (getD_rows hj)
      rw [(coversB_iff _ _).2 hc] at this
      cases this
    · intro h r hr
      obtain ⟨j, hj, rfl⟩ := mem_rows hr
      cases hx : coversB (rows.getD j []) l with
      | false => rfl
      | true => exact absurd ((coversB_iff _ _).1 hx) (h j hj)
  | false =>
    simp only [Bool.false_eq_true, if_false, List.any_eq_true]
    constructor
    · rintro ⟨r, hr, hc⟩
      obtain ⟨j, hj, rfl⟩ := mem_rows hr
      exact ⟨j, hj, (coversB_iff _ _).1 hc⟩
    · rintro ⟨j, hj, hc⟩
      exact ⟨_, getD_rows hj, (coversB_iff _ _).2 hc⟩
/-- All lists out of domains. -/
def outs : List Int → List Nat → List (List Nat)
  | [], _ => [[]]
  | v :: vs, d => (vals (d.getD v.toNat 0)).flatMap (fun x => (outs vs d).map (x :: ·))
theorem outs_iff {d : List Nat} (hd : ∀ q, d.getD q 0 < 64) : ∀ (vars : List Int) (l : List Nat), l ∈ outs vars d ↔ OutOf vars d l
  | [], l => by
    simp only [outs, List.mem_singleton, OutOf]
    constructor
    · rintro rfl
      exact ⟨rfl, fun i hi => by simp at hi⟩
    · rintro ⟨h, _⟩
      exact List.eq_nil_of_length_eq_zero h
  | v :: vs, l => by
    simp only [outs, List.mem_flatMap, List.mem_map]
    constructor
    · rintro ⟨x, hx, t, ht, rfl⟩
      obtain ⟨h1, h2⟩ := (outs_iff hd vs t).1 ht
      refine ⟨by simp [h1], fun i hi => ?_⟩
      cases i with
      | zero => exact (vals_mem (hd _)).1 hx
      | succ i => exact h2 i (by simpa using hi)
    · rintro ⟨h1, h2⟩
      cases l with
      | nil => simp at h1
      | cons x t =>
        refine ⟨x, (vals_mem (hd _)).2 (h2 0 (by simp)), t, (outs_iff hd vs t).2 ⟨by simpa using h1, fun i hi => h2 (i + 1) (by simpa using hi)⟩, rfl⟩
def supB (b : Tb) (d : List Nat) (i v : Nat) : Bool := (outs b.vars d).any (fun l => (l.getD i 0 == v) && allowB b.rows b.nt l)
theorem supB_iff {d : List Nat} (hd : ∀ q, d.getD q 0 < 64) (b : Tb) (i v : Nat) : supB b d i v = true ↔ Supp b.vars b.rows b.nt d i v := by
  simp only [supB, List.any_eq_true, Bool.and_eq_true, beq_iff_eq, Supp]
  constructor
  · rintro ⟨l, h1, h2, h3⟩
    exact ⟨l, (outs_iff hd _ _).1 h1, h2, (allowB_iff _ _ _).1 h3⟩
  · rintro ⟨l, h1, h2, h3⟩
    exact ⟨l, (outs_iff hd _ _).2 h1, h2, (allowB_iff _ _ _).2 h3⟩
def suppAllB (b : Tb) (d : List Nat) : Bool := (List.range b.vars.length).all (fun i => (vals (d.getD (b.vars.getD i 0).toNat 0)).all (fun v => supB b d i v))
theorem suppAllB_of {d : List Nat} (hd : ∀ q, d.getD q 0 < 64) {b : Tb} (h : suppAllB b d = true) : SuppAll b d := by
  intro i v hi hv
  simp only [suppAllB, List.all_eq_true, List.mem_range] at h
  exact (supB_iff hd b i v).1 (h i hi v ((vals_mem (hd _)).2 hv))
/-- A number of these bits. -/
def maskOf (p : Nat → Bool) : Nat := (if p 0 then 1 else 0) + (if p 1 then 2 else 0) + (if p 2 then 4 else 0) + (if p 3 then 8 else 0) + (if p 4 then 16 else 0) + (if p 5 then 32 else 0)
theorem maskOf_bit (p : Nat → Bool) (v : Nat) (hv : v < 6) : (maskOf p).testBit v = p v := by
  have hc : v = 0 ∨ v = 1 ∨ v = 2 ∨ v = 3 ∨ v = 4 ∨ v = 5 := by omega
  unfold maskOf
  rcases hc with rfl | rfl | rfl | rfl | rfl | rfl <;> cases p 0 <;> cases p 1 <;> cases p 2 <;> cases p 3 <;> cases p 4 <;> cases p 5 <;> rfl
theorem maskOf_lt (p : Nat → Bool) : maskOf p < 64 := by
  unfold maskOf
  cases p 0 <;> cases p 1 <;> cases p 2 <;> cases p 3 <;> cases p 4 <;> cases p 5 <;> decide
/-- What one table leaves. -/
def stepD (b : Tb) (d : List Nat) : List Nat := (List.range 8).map (fun q => maskOf (fun v => (d.getD q 0).testBit v && (List.range b.vars.length).all (fun i => (b.vars.getD i 0).toNat != q || supB b d i v)))
theorem stepD_get (b : Tb) (d : List Nat) (q : Nat) : (stepD b d).getD q 0 = if q < 8 then maskOf (fun v => (d.getD q 0).testBit v && (List.range b.vars.length).all (fun i => (b.vars.getD i 0).toNat != q || supB b d i v)) else 0 := by
  by_cases h : q < 8
  · rw [if_pos h]
    simp only [stepD, List.getD, List.getElem?_map, List.getElem?_range h, Option.map_some, Option.getD_some]
  · rw [if_neg h]
    have : (stepD b d).length ≤ q := by simp [stepD]; omega
    simp [List.getD, List.getElem?_eq_none this]
theorem stepD_dm (b : Tb) (d : List Nat) : Dm (stepD b d) := ⟨by simp [stepD], fun q => by
  rw [stepD_get]
  split
  · exact maskOf_lt _
  · decide⟩
theorem stepD_sub (b : Tb) (d : List Nat) : SubD (stepD b d) d := by
  intro q v h
  have hv := bit_lt6 ((stepD_dm b d).lt q) h
  rw [stepD_get] at h
  by_cases hq : q < 8
  · rw [if_pos hq, maskOf_bit _ _ hv] at h
    simp only [Bool.and_eq_true] at h
    exact h.1
  · rw [if_neg hq] at h
    simp at h
theorem stepD_most {b : Tb} {d e : List Nat} (hd : Dm d) (hs : SubD e d) (hb : SuppAll b e) : SubD e (stepD b d) := by
  intro q v h
  have h1 := hs q v h
  have hv := bit_lt6 (hd.lt q) h1
  have hq : q < 8 := by
    refine Classical.byContradiction fun hc => ?_
    have : d.length ≤ q := by rw [hd.len]; omega
    have h0 : d.getD q 0 = 0 := by simp [List.getD, List.getElem?_eq_none this]
    rw [h0] at h1
    simp at h1
  rw [stepD_get, if_pos hq, maskOf_bit _ _ hv]
  simp only [Bool.and_eq_true, List.all_eq_true, List.mem_range]
  refine ⟨h1, fun i hi => ?_⟩
  by_cases e1 : (b.vars.getD i 0).toNat = q
  · subst e1
    have := (hb i v hi h).mono hs
    rw [(supB_iff hd.lt b i v).2 this]
    simp
  · rw [show ((b.vars.getD i 0).toNat != q) = true from bne_iff_ne.2 e1]
    rfl
def passD (bs : List Tb) (d : List Nat) : List Nat := bs.foldl (fun d b => stepD b d) d
def cloTo (bs : List Tb) : Nat → List Nat → List Nat
  | 0, d => d
  | k + 1, d => cloTo bs k (passD bs d)
theorem passD_spec : ∀ (bs : List Tb) (d : List Nat), Dm d → Dm (passD bs d) ∧ SubD (passD bs d) d ∧ ∀ e, SubD e d → (∀ b ∈ bs, SuppAll b e) → SubD e (passD bs d)
  | [], d, h => ⟨h, SubD.refl _, fun _ h _ => h⟩
  | b :: bs, d, h => by
    obtain ⟨h1, h2, h3⟩ := passD_spec bs (stepD b d) (stepD_dm b d)
    exact ⟨h1, h2.trans (stepD_sub b d), fun e he hb => h3 e (stepD_most h he (hb b (List.mem_cons_self ..))) (fun c hc => hb c (List.mem_cons_of_mem _ hc))⟩
theorem cloTo_spec (bs : List Tb) : ∀ (k : Nat) (d : List Nat), Dm d → Dm (cloTo bs k d) ∧ SubD (cloTo bs k d) d ∧ ∀ e, SubD e d → (∀ b ∈ bs, SuppAll b e) → SubD e (cloTo bs k d)
  | 0, d, h => ⟨h, SubD.refl _, fun _ h _ => h⟩
  | k + 1, d, h => by
    obtain ⟨h1, h2, h3⟩ := passD_spec bs d h
    obtain ⟨k1, k2, k3⟩ := cloTo_spec bs k (passD bs d) h1
    exact ⟨k1, k2.trans h2, fun e he hb => k3 e (h3 e he hb) hb⟩
def fullB (n : Nat) (d : List Nat) : Bool := (List.range n).all (fun q => d.getD q 0 != 0)
theorem fullB_iff (n : Nat) (d : List Nat) : fullB n d = true ↔ Full n d := by
  simp [fullB, Full]
def dmB (d : List Nat) : Bool := d.length == 8 && d.all (fun x => decide (x < 64))
theorem dmB_of {d : List Nat} (h : dmB d = true) : Dm d := by
  simp only [dmB, Bool.and_eq_true, beq_iff_eq, List.all_eq_true, decide_eq_true_eq] at h
  refine ⟨h.1, fun q => ?_⟩
  by_cases hq : q < d.length
  · have := h.2 _ (List.getElem_mem hq)
    simpa [List.getD, hq] using this
  · simp [List.getD, hq]
/-- The closure, where it is not emptied. -/
theorem clo_live {n k : Nat} {bs : List Tb} {start r : List Nat} (hs : dmB start = true) (h : cloTo bs k start = r) (hf : fullB n r = true) (hb : bs.all (fun b => suppAllB b r) = true) : Closure n bs start r := by
  obtain ⟨h1, h2, h3⟩ := cloTo_spec bs k start (dmB_of hs)
  rw [h] at h1 h2 h3
  simp only [List.all_eq_true] at hb
  exact ⟨fun _ => ⟨h2, fun b hb' => suppAllB_of h1.lt (hb b hb'), h3⟩, fun hn => absurd ((fullB_iff n r).1 hf) hn⟩
end Go.Proofs.Ytkjfpdfkcfgfkaa

/- A new Work; what a call leaves alone. -/
namespace Go.Proofs.Ytkjfpdfkcfgfkaa
open Go.RowKit

def ws0 (zs : List Int) (szv : Value) : WS := ⟨szv, fullTo zs zs.length, none, 0, rest0, [], [], [], []⟩
theorem fullTo_get (zs : List Int) (_ : zs.length ≤ 8) (q : Nat) : (fullTo zs zs.length).getD q 0 = if q < zs.length then 2 ^ (zs.getD q 0).toNat - 1 else 0 := by
  simp only [fullTo, List.take_length]
  by_cases h : q < zs.length
  · rw [if_pos h]
    simp [List.getD, List.getElem?_append_left, h]
  · rw [if_neg h]
    simp only [List.getD]
    rw [List.getElem?_append_right (by simp; omega)]
    simp only [List.getElem?_replicate]
    split <;> rfl
theorem full_dm {zs : List Int} (h : okSizes zs = true) : Dm (fullTo zs zs.length) := by
  obtain ⟨h0, h8⟩ := okSizes_len h
  refine ⟨fullTo_length zs _ (Nat.le_refl _) h8, fun q => ?_⟩
  rw [fullTo_get zs h8]
  split
  · rename_i hq
    have := okSizes_get h q hq
    have hp : 2 ^ (zs.getD q 0).toNat ≤ 2 ^ 6 := Nat.pow_le_pow_right (by omega) (by omega)
    omega
  · omega
theorem full_full {zs : List Int} (h : okSizes zs = true) : Full zs.length (fullTo zs zs.length) := by
  obtain ⟨h0, h8⟩ := okSizes_len h
  intro q hq
  rw [fullTo_get zs h8, if_pos hq]
  have := okSizes_get h q hq
  have hp : 2 ^ 1 ≤ 2 ^ (zs.getD q 0).toNat := Nat.pow_le_pow_right (by omega) (by omega)
  omega
theorem new_wat {w : World} {X : Nat} {zs : List Int} {szv : Value} (hok : okSizes zs = true) (hB : Blk w X (workCells szv (fullTo zs zs.length) (.slice none 0 0) rest0) 82) (hr : Row w szv 3 (zs.map (Value.int .i64))) : WAt w X zs (ws0 zs szv) := by
  have hi : ∀ {p : Prop} {i : Nat}, i < ([] : List Tab).length → p := fun h => absurd h (Nat.not_lt_zero _)
  refine ⟨⟨hB, hr, hok, ⟨Row.nil _ _, fun i h => hi h, fun i h => hi h, fun i h => hi h⟩, fun i j h => hi h, Nat.zero_le _, ⟨rfl, fun k h => absurd h (Nat.not_lt_zero _)⟩, fun k h => absurd h (Nat.not_lt_zero _), ⟨Row.nil _ _, Row.nil _ _⟩, fun u hu => (by cases hu), fun k hk => (by cases hk)⟩,
    ⟨full_dm hok, SubD.refl _, .inr (full_full hok), fun b hb => (by cases hb), rfl, fun k h => absurd h (Nat.not_lt_zero _)⟩, ?_, rfl, Nat.zero_le _⟩
  show 0 + 900 * bitsOf (fullTo zs zs.length) ≤ 57600
  have := bits_max (fullTo zs zs.length)
  omega
theorem ws0_own {X k : Nat} {zs : List Int} {szv : Value} (h : (ws0 zs szv).own X k) : k = X ∨ szv.ownBlock = some k := by
  rcases h with h | h | h | ⟨i, hi, _⟩ | h | h | ⟨u, hu, _⟩
  · exact .inl h
  · exact .inr h
  · cases h
  · exact absurd hi (Nat.not_lt_zero _)
  · cases h
  · cases h
  · cases hu
/-- A block that is no Work's own stays as it is. -/
theorem WStep.blk {w w' : World} {X : Nat} {s s' : WS} (h : WStep w w' X s s') {g : Nat} {cur : Array Value} {e : TypeId} (hb : Blk w g cur e) (hn : ¬ s.own X g) : Blk w' g cur e ∧ ¬ s'.own X g :=
  ⟨hb.fr h.fr hn, fun hs => (h.grow g hs).elim hn (fun h' => absurd hb.lt (by omega))⟩
/-- Seen from a world in which nothing of the Work was there. -/
def Since (w0 : World) (X : Nat) (s : WS) : Prop := ∀ k, s.own X k → w0.heap.size ≤ k
theorem WStep.since {w0 w w' : World} {X : Nat} {s s' : WS} (h : WStep w w' X s s') (hs : Since w0 X s) (hf : Nw w0 w) : Since w0 X s' ∧ Nw w0 w' :=
  ⟨fun k hk => (h.grow k hk).elim (hs k) (fun h' => Nat.le_trans hf.size h'), hf.trans h.fr (fun i hi => .inr (hs i hi))⟩
end Go.Proofs.Ytkjfpdfkcfgfkaa

/- The answer of the statements' first line: New, Post, Domain, Remove, Domain at fixed numbers, in every world. -/
namespace Go.Proofs.Ytkjfpdfkcfgfkaa
open Go.RowKit

def rows0 : List (List Int) := [[0, 1], [1, 2]]
end Go.Proofs.Ytkjfpdfkcfgfkaa

/- The head of the statements without the document's answer: sure. -/
namespace Go.Proofs.Ytkjfpdfkcfgfkaa
open Go.RowKit

def rowsS : List (List Int) := [[0, 0], [1, 1]]
def tbS (a b : Int) : Tb := ⟨[a, b], rowsS, true⟩
def d3 : List Nat := [3, 3, 3, 0, 0, 0, 0, 0]
/-- The rows that all three tables share. -/
structure SameAt (w : World) (g : Nat) : Prop where
  k1 : Blk w g #[.int .i64 0, .int .i64 0] 3
  k2 : Blk w (g + 1) #[.int .i64 1, .int .i64 1] 3
  k3 : Blk w (g + 2) #[.slice (some ⟨g, 0, none⟩) 2 2, .slice (some ⟨g + 1, 0, none⟩) 2 2] 22
theorem ints2 {w : World} {g : Nat} {a b : Int} (h : Blk w g #[.int .i64 a, .int .i64 b] 3) : IntsAt w (some ⟨g, 0, none⟩) [a, b] := IntsAt.of_blk h 0 _ (fun i hi => by
  match i, hi with
  | 0, _ => rfl
  | 1, _ => rfl)
/-- Post, where the closure is known. -/
theorem post_clo {X : Nat} {vo ro : Option Addr} {vcap rcap : Nat} {zs : List Int} {s : WS} {vars : List Int} {rows : List (List Int)} {nt : Bool} {way : Int} {w : World} (h : WAt w X zs s) (hbz : s.l.busy = false)
    (hvcap : vars.length ≤ vcap) (hvs : IntsAt w vo vars) (hrs : RowsAt w ro rows) (hyes : postOf zs s vars rows way = 0) {r : List Nat} (hr : Dm r) (hc : Closure zs.length (s.bs ++ [⟨vars, rows, nt⟩]) s.d r) :
    Calls Try.prog 31 #[.pointer (some ⟨X, 0, none⟩), .agg #[.slice vo vars.length vcap, .slice ro rows.length rcap, .bool nt, .int .i64 way]] w fun e w' => e = .returned (.int .i64 0) ∧ ∃ s', WAt w' X zs s' ∧ WStep w w' X s s' ∧ s'.d = r ∧ s'.bs = s.bs ++ [⟨vars, rows, nt⟩] ∧ s'.sk = s.sk ∧ s'.l.busy = false ∧ s'.ts.length = s.ts.length + 1 := by
  refine (post_yes X vo ro vcap rcap zs s vars rows nt way w h hbz hvcap hvs hrs hyes).mono ?_
  rintro e w' ⟨rfl, so, tcap, x, d', bv, ts, us, h1, h2, h3, h4⟩
  refine ⟨rfl, _, h3, h4, h1.one h2 hr hc, rfl, rfl, hbz, ?_⟩
  have := h3.mem.fits.1
  have e2 := h.mem.fits.1
  rw [this]
  simp [WS.set, WS.more, e2]
theorem remove_clo {X : Nat} {zs : List Int} {s : WS} {v value : Nat} {w : World} (h : WAt w X zs s) (hbz : s.l.busy = false) (hf : faultOf zs s.d v value = 0) {r : List Nat} (hr : Dm r) (hc : Closure zs.length s.bs (s.d.set v (remV (s.d.getD v 0) value)) r) :
    Calls Try.prog 19 #[.pointer (some ⟨X, 0, none⟩), .int .i64 v, .int .i64 value] w fun e w' => e = .returned (.int .i64 0) ∧ ∃ s', WAt w' X zs s' ∧ WStep w w' X s s' ∧ s'.d = r ∧ s'.bs = s.bs ∧ s'.sk = s.sk ∧ s'.l.busy = false := by
  refine (remove_yes X zs s v value w h hbz hf).mono ?_
  rintro e w' ⟨rfl, d', bv, ts, us, h1, h2, h3, h4⟩
  exact ⟨rfl, _, h3, h4, h1.one h2 hr hc, rfl, rfl, hbz⟩
end Go.Proofs.Ytkjfpdfkcfgfkaa

/- Parts of the statements without the document's answer: pick, fit. -/
namespace Go.Proofs.Ytkjfpdfkcfgfkaa
open Go.RowKit

/-- A number of the machine. -/
def In64 (c : Int) : Prop := -9223372036854775808 ≤ c ∧ c < 9223372036854775808
def pickOf (c n : Int) : Int := (if c < 0 then -(c + 1) else c) % n
theorem pickOf_range (c n : Int) (hn : 0 < n) : 0 ≤ pickOf c n ∧ pickOf c n < n := by
  unfold pickOf
  exact ⟨Int.emod_nonneg _ (by omega), Int.emod_lt_of_pos _ hn⟩

set_option maxHeartbeats 400000 in
theorem pick_any (c n : Int) (hc : In64 c) (hn : 0 < n) (hn2 : n < 1000) (w : World) :
    Calls Try.prog 16 #[.int .i64 c, .int .i64 n] w fun e w' => e = .returned (.int .i64 (pickOf c n)) ∧ w' = w := by
  unfold In64 at hc
  have hr := pickOf_range c n hn
  by_cases h0 : c < 0
  · have e1 : (-(c + 1)).tmod n = pickOf c n := by
      unfold pickOf
      rw [if_pos h0]
      exact Int.tmod_eq_emod_of_nonneg (by omega)
    go_enter Try.func16, Try.ntmps16
    go_wp2
    go_ret
    exact ⟨rfl, rfl⟩
  · have e1 : c.tmod n = pickOf c n := by
      unfold pickOf
      rw [if_neg h0]
      exact Int.tmod_eq_emod_of_nonneg (by omega)
    go_enter Try.func16, Try.ntmps16
    go_wp2
    go_ret
    exact ⟨rfl, rfl⟩

/-- A list of a call's own that grows: seen from the world w0 in which it was not there. -/
structure Own (w0 w : World) (v : Value) (e : TypeId) (xs : List Value) : Prop where
  row : Row w v e xs
  nw : Nw w0 w
  since : ∀ q, v.ownBlock = some q → w0.heap.size ≤ q
/-- Sizes by raw numbers. -/
def fitTo (raw : List Int) (k : Nat) : List Int := (raw.take k).map (fun c => 1 + pickOf c 4)
def fitL (raw : List Int) (most : Nat) : List Int := if (raw.take most).length = 0 then [2] else fitTo raw (min raw.length most)
end Go.Proofs.Ytkjfpdfkcfgfkaa

/- Reads within a region that draws its order: what an operation yields. -/
namespace Go.Proofs.Ytkjfpdfkcfgfkaa
open Go.RowKit

/-- The operations of region n of a piece of code. -/
def findOps (n : Nat) : Code → Option (Array Oper)
  | .region id ops _ => if id == n then some ops else none
  | .seq a b => match findOps n a with
    | some x => some x
    | none => findOps n b
  | .cond _ a b => match findOps n a with
    | some x => some x
    | none => findOps n b
  | .block _ c => findOps n c
  | .loop c => findOps n c
  | .rangeFunc _ _ c d => match findOps n c with
    | some x => some x
    | none => findOps n d
  | .scope c => findOps n c
  | _ => none
def regOps (f : Func) (n : Nat) : Array Oper := match f.body with
  | some c => (findOps n c).getD #[]
  | none => #[]
def opAt (ops : Array Oper) (i : Nat) : Oper := ops[i]?.getD default
section
variable {P : Program} {Q : Exit → Act → World → Prop} {S : World → Prop} {ops : Array Oper}
/-- A region by the name of its operations. -/
theorem region_H {ops' : Array Oper} {id : Nat} {a : Act} {w : World} (ops : Array Oper) (n : Nat) (S : World → Prop) (ho : ops' = ops) (hn : ops.size = n) (hm : P.follows .mixedOrders = true)
    (h : wpAnyH P .any ops Q S n (Array.replicate n false) a w.drew) : (Code.region id ops' true).wp P Q a w := by
  subst ho
  subst hn
  exact wp_region_held hm h
def takeB (ops : Array Oper) (listed : Array Bool) (i : Nat) (d : Option Tmp) : Bool := Region.noSelect ops && Region.free .any ops listed i && (Region.ready .any ops listed).contains i && decide (i < ops.size) && decide ((opAt ops i).dst = d)
theorem opAt_of {i : Nat} (h : i < ops.size) : ops[i]? = some (opAt ops i) := by simp [opAt, h]
/-- Operation i is taken first: it reads. -/
theorem take_at {i : Nat} {d : Option Tmp} {v : Value} {fuel : Nat} {listed : Array Bool} {a : Act} {w : World} (hB : takeB ops listed i d = true) (hw : Region.wanted (opAt ops i) (yielded ops a.tmps) = true)
    (hQ : ∀ c a w, Q (.panic c) (a.put d v) w → Q (.panic c) a w) (hy : ∀ w, S w → (execOp a.eval (opAt ops i)).run P w = .ok (.value v) w) (hS : S w)
    (h : wpAnyH P .any ops Q S fuel (listed.setIfInBounds i true) (a.put d v) w) : wpAnyH P .any ops Q S (fuel + 1) listed a w := by
  simp only [takeB, Bool.and_eq_true, decide_eq_true_eq] at hB
  obtain ⟨⟨⟨⟨h1, h2⟩, h3⟩, h4⟩, h5⟩ := hB
  subst h5
  exact wpAnyH_take (i := i) (oi := opAt ops i) (v := v) (opAt_of h4) h1 h2 h3 hQ (.inl ⟨hw, hy⟩) hS h
/-- Operation i is taken first: its guard bars it. -/
theorem pass_at {i : Nat} {d : Option Tmp} {fuel : Nat} {listed : Array Bool} {a : Act} {w : World} (hB : takeB ops listed i d = true) (hw : Region.wanted (opAt ops i) (yielded ops a.tmps) = false)
    (hQ : ∀ c a w, Q (.panic c) (a.put d undef) w → Q (.panic c) a w) (hS : S w)
    (h : wpAnyH P .any ops Q S fuel (listed.setIfInBounds i true) (a.put d undef) w) : wpAnyH P .any ops Q S (fuel + 1) listed a w := by
  simp only [takeB, Bool.and_eq_true, decide_eq_true_eq] at hB
  obtain ⟨⟨⟨⟨h1, h2⟩, h3⟩, h4⟩, h5⟩ := hB
  subst h5
  exact wpAnyH_take (i := i) (oi := opAt ops i) (v := undef) (opAt_of h4) h1 h2 h3 hQ (.inr ⟨hw, rfl⟩) hS h
def oneB (ops : Array Oper) (listed : Array Bool) (i : Nat) (d : Option Tmp) : Bool := decide (Region.ready .any ops listed = [i]) && decide (i < ops.size) && decide ((opAt ops i).dst = d)
/-- Nothing else can come up: a call. -/
theorem enter_at {i : Nat} {d : Option Tmp} {fuel : Nat} {listed : Array Bool} {a : Act} {w w' : World} {f : FuncId} {args : Array Value} (hB : oneB ops listed i d = true) (hw : Region.wanted (opAt ops i) (yielded ops a.tmps) = true)
    (hr : (execOp a.eval (opAt ops i)).run P w = .ok (.enter f args) w')
    (h : Calls P f args w' (fun e w'' => ∃ v, e = .returned v ∧ S w'' ∧ wpAnyH P .any ops Q S fuel (listed.setIfInBounds i true) (a.put d v) w'')) : wpAnyH P .any ops Q S (fuel + 1) listed a w := by
  simp only [oneB, Bool.and_eq_true, decide_eq_true_eq] at hB
  obtain ⟨⟨h3, h4⟩, h5⟩ := hB
  subst h5
  refine wpAnyH_all h3 (by simp) (fun j hj => ?_)
  obtain rfl : j = i := by simpa using hj
  exact op_enter (opAt_of h4) hw hr h
/-- Nothing else can come up: a value. -/
theorem value_at {i : Nat} {d : Option Tmp} {fuel : Nat} {listed : Array Bool} {a : Act} {w w' : World} {v : Value} (hB : oneB ops listed i d = true) (hw : Region.wanted (opAt ops i) (yielded ops a.tmps) = true)
    (hr : (execOp a.eval (opAt ops i)).run P w = .ok (.value v) w') (hS : S w') (h : wpAnyH P .any ops Q S fuel (listed.setIfInBounds i true) (a.put d v) w') : wpAnyH P .any ops Q S (fuel + 1) listed a w := by
  simp only [oneB, Bool.and_eq_true, decide_eq_true_eq] at hB
  obtain ⟨⟨h3, h4⟩, h5⟩ := hB
  subst h5
  refine wpAnyH_all h3 (by simp) (fun j hj => ?_)
  obtain rfl : j = i := by simpa using hj
  exact op_value (opAt_of h4) hw hr ⟨hS, h⟩
end
/-- A load of one cell. -/
theorem exec_load {ev : Operand → Value} {o : Oper} {w : World} {b off : Nat} {v : Value} (t : TypeId) (x : Operand) (ho : o.op = .load t x) (hx : ev x = .pointer (some ⟨b, off, none⟩)) (hag : (isAgg t).run Try.prog w = .ok false w) (hc : w.cell? ⟨b, off, none⟩ = some v) :
    (execOp ev o).run Try.prog w = .ok (.value v) w := by
  unfold execOp
  have hl : (Sem.load Mode.plain (⟨b, off, none⟩ : Addr) Sem.pure).run Try.prog w = .ok v w := by
    unfold Sem.run
    rw [hc]
    rfl
  simp [ho, hx, Instr.loadAt, Instr.sureAddr, loadVar, hag, hl, Result.andThen, load]
/-- The place of an element, of one cell each. -/
theorem exec_index {ev : Operand → Value} {o : Oper} {w : World} {b off n cap i : Nat} (t e : TypeId) (x y : Operand) (ho : o.op = .indexAddr t x y) (hx : ev x = .slice (some ⟨b, off, none⟩) n cap) (hy : ev y = .int .i64 (i : Int)) (hi : i < n)
    (ht : (underlying t).run Try.prog w = .ok (.slice e) w) (he : (sizeOf e).run Try.prog w = .ok 1 w) :
    (execOp ev o).run Try.prog w = .ok (.value (.pointer (some ⟨b, off + i, none⟩))) w := by
  unfold execOp
  simp [ho, hx, hy, Instr.indexAt, asIntOf, ht, he, Result.andThen, go_sem, hi]
/-- A sum that stays among the machine's numbers. -/
theorem exec_add {ev : Operand → Value} {o : Oper} {w : World} (a b : Int) (r : Int) (x y : Operand) (ho : o.op = .binOp .add 3 x y 3) (hx : ev x = .int .i64 a) (hy : ev y = .int .i64 b) (hr : r = a + b) (hb : -9223372036854775808 ≤ r ∧ r < 9223372036854775808) :
    (execOp ev o).run Try.prog w = .ok (.value (.int .i64 r)) w := by
  have h1 : IntKind.i64.wrap (a + b) = r := by rw [IntKind.wrap_i64] <;> omega
  have h2 : (eqGuard .add 3 x y (.int .i64 a) (.int .i64 b)).run Try.prog w = .ok () w := by kernel_rfl
  have h3 : (binOp .add 3 (.int .i64 a) (.int .i64 b)).run Try.prog w = .ok (.int .i64 (IntKind.i64.wrap (a + b))) w := by kernel_rfl
  unfold execOp
  simp [ho, hx, hy, h2, h3, h1, Result.andThen]
/-- append of one element, of one cell. -/
theorem exec_append1 {ev : Operand → Value} {o : Oper} {w : World} {v x : Value} {xs : List Value} {g c : Nat} {e : TypeId} {i0 : TypeInfo} {z : Value} (by_ : Nat) (s y : Operand) (t : TypeId) (ho : o.op = .call { callee := .builtin .append, args := #[s, y], argTypes := #[t, t] }) (hs : ev s = v) (hy : ev y = .slice (some ⟨g, 0, none⟩) 1 c)
    (ht : Try.prog.underlying t = some (.slice e)) (hi : Try.prog.info? e = some i0) (hz : i0.zero = some z) (h1 : i0.size = 1) (hb : i0.bytes = by_) (hzc : z.cells.size = 1)
    (hr : Row w v e xs) (hc : w.cell? ⟨g, 0, none⟩ = some x) (hx : x.oneCell' = true) (h63 : xs.length + 1 ≤ maxLen) (hl : (xs.length + 1) * by_ ≤ 140737488355328) :
    ∃ v' w', (execOp ev o).run Try.prog w = .ok (.value v') w' ∧ w'.ownsRow 0 e 1 v' (xs.length + 1) (xs ++ [x]) ∧ w.grownBy w' v.ownBlock ∧ (v'.ownBlock = v.ownBlock ∨ v'.ownBlock = some w.heap.size) := by
  obtain ⟨v', w', hr', h2, h3, _, h5⟩ := run_append_own_at (P := Try.prog) w 0 t o.type e i0 z 1 by_ ht hi hz h1 hb hzc (by decide) v xs.length xs hr ⟨g, 0, none⟩ 1 c [x] rfl (fun j u hj => by
    match j with
    | 0 =>
      simp at hj
      subst hj
      simpa [Addr.add] using hc
    | j + 1 => simp at hj) (by simpa using hx) h63 hl (Nat.zero_le _)
  refine ⟨v', w', ?_, h2, h3, h5⟩
  unfold execOp
  simp only [ho, resolve, invoke, builtin, Sem.run_bind, Sem.run_pure, Result.andThen_ok, List.map_toArray, List.map_cons, List.map_nil, hs, hy, hr']
/-- What an append of one element leaves: the element lies in block g. -/
theorem app1' {w w1 : World} {e : TypeId} {v v' x : Value} {xs : List Value} (h1 : w1.ownsRow 0 e 1 v' (xs.length + 1) (xs ++ [x]))
    (hg : w.grownBy w1 v.ownBlock) (hat : v'.ownBlock = v.ownBlock ∨ v'.ownBlock = some w.heap.size) :
    ∃ g cap, v' = .slice (some ⟨g, 0, none⟩) (xs.length + 1) cap ∧ Row w1 v' e (xs ++ [x]) ∧ Fr (fun k => v.ownBlock = some k) w w1 ∧ (v.ownBlock = some g ∨ w.heap.size ≤ g) ∧ g < w1.heap.size := by
  have hr : Row w1 v' e (xs ++ [x]) := by unfold Row; simpa using h1
  have hfr : Fr (fun k => v.ownBlock = some k) w w1 := (Fr.refl (fun k => v.ownBlock = some k) w).grown hg (fun k hk => .inl hk)
  rcases h1.2 with ⟨_, hn⟩ | ⟨g, cap, cur, rfl, _, hgg, _⟩
  · omega
  · refine ⟨g, cap, rfl, hr, hfr, ?_, lt_of_block hgg⟩
    rcases hat with hat | hat
    · exact .inl hat.symm
    · right
      have : g = w.heap.size := by simpa [Value.ownBlock] using hat
      omega
/-- Only the two operands of a call of append matter. -/
theorem exec_same {ev ev' : Operand → Value} {o : Oper} {s y : Operand} {t : TypeId} {w : World} (ho : o.op = .call { callee := .builtin .append, args := #[s, y], argTypes := #[t, t] }) (h1 : (ev s, ev y) = (ev' s, ev' y)) : (execOp ev o).run Try.prog w = (execOp ev' o).run Try.prog w := by
  simp only [Prod.mk.injEq] at h1
  unfold execOp
  simp only [ho, resolve, List.map_toArray, List.map_cons, List.map_nil, h1.1, h1.2]
end Go.Proofs.Ytkjfpdfkcfgfkaa

/- Parts of the statements without the document's answer: a table by raw numbers. -/
namespace Go.Proofs.Ytkjfpdfkcfgfkaa
open Go.RowKit

def addVar (n : Nat) (acc : List Int) (c : Int) : List Int := if acc.any (fun x => x == pickOf c n) then acc else acc ++ [pickOf c n]
def varsTo (rv : List Int) (n k : Nat) : List Int := (rv.take k).foldl (addVar n) []
def tVars (rv : List Int) (n : Nat) : List Int := if varsTo rv n 4 = [] then [0] else varsTo rv n 4
def rowOf (vars zs es : List Int) (at_ m : Nat) : List Int := (List.range m).map (fun i => pickOf (es.getD (at_ + i) 0) (zs.getD (vars.getD i 0).toNat 0 + 1) - 1)
def rowsTo (vars zs es : List Int) (j : Nat) : List (List Int) := (List.range j).map (fun q => rowOf vars zs es (q * vars.length) vars.length)
def tRows (vars zs es : List Int) : List (List Int) := rowsTo vars zs es (min (es.length / vars.length) 20)
/-- Is one of the first k numbers v? -/
def anyTo (l : List Int) (v : Int) (k : Nat) : Bool := (l.take k).any (fun x => x == v)
/-- Rows of a call's own. -/
structure RowsOwn (W w : World) (v : Value) (rl : List Value) (rows : List (List Int)) : Prop where
  own : Own W w v 22 rl
  len : rl.length = rows.length
  each : ∀ i, i < rows.length → Own W w (rl.getD i undef) 3 ((rows.getD i []).map (Value.int .i64))
noncomputable def tblReg : Array Oper := regOps Try.f35 23
def tblEv (x y : Value) : Operand → Value
  | .tmp 95 => x
  | .tmp _ => y
  | _ => undef
/-- Rows in memory. -/
structure RowsT (w : World) (v : Value) (rl : List Value) (rows : List (List Int)) : Prop where
  row : Row w v 22 rl
  len : rl.length = rows.length
  each : ∀ i, i < rows.length → Row w (rl.getD i undef) 3 ((rows.getD i []).map (Value.int .i64))
/-- A table's value in memory. -/
structure TblAt (w : World) (tv : Value) (vars : List Int) (rows : List (List Int)) (nt : Bool) (way : Int) : Prop where
  form : ∃ vo vcap ro rcap rl, tv = .agg #[.slice vo vars.length vcap, .slice ro rows.length rcap, .bool nt, .int .i64 way] ∧ Row w (.slice vo vars.length vcap) 3 (vars.map (Value.int .i64)) ∧ RowsT w (.slice ro rows.length rcap) rl rows
end Go.Proofs.Ytkjfpdfkcfgfkaa

/- Parts of the statements without the document's answer: tables by raw numbers; a fretwork with them. -/
namespace Go.Proofs.Ytkjfpdfkcfgfkaa
open Go.RowKit

/-- A table by raw numbers. -/
structure RawT where
  rv : List Int
  es : List Int
  nt : Bool
  way : Int
/-- A table and its way. -/
structure Tw where
  tb : Tb
  way : Int
def tableOf (zs : List Int) (r : RawT) : Tw := ⟨⟨tVars r.rv zs.length, tRows (tVars r.rv zs.length) zs r.es, r.nt⟩, 1 + pickOf r.way 2⟩
/-- Raw tables in memory. -/
structure RawAt (w : World) (b o : Nat) (r : RawT) : Prop where
  parts : ∃ vo vc eo ec, w.cell? ⟨b, o, none⟩ = some (.slice vo r.rv.length vc) ∧ w.cell? ⟨b, o + 1, none⟩ = some (.slice eo r.es.length ec) ∧ w.cell? ⟨b, o + 2, none⟩ = some (.bool r.nt) ∧ w.cell? ⟨b, o + 3, none⟩ = some (.int .i64 r.way) ∧ IntsAt w vo r.rv ∧ IntsAt w eo r.es
  lv : r.rv.length * 8 ≤ 140737488355328
  le : r.es.length * 8 ≤ 140737488355328
  iv : ∀ c ∈ r.rv, In64 c
  ie : ∀ c ∈ r.es, In64 c
  iw : In64 r.way
def raw0 : RawT := ⟨[], [], false, 0⟩
def RawsAt (w : World) (ao : Option Addr) (rs : List RawT) : Prop := ∀ i, i < rs.length → ∃ b o, ao = some ⟨b, o, none⟩ ∧ b < w.heap.size ∧ RawAt w b (o + i * 4) (rs.getD i raw0)
/-- The cells of a table's value. -/
def tblC (tv : Value) : List Value := tv.cells.toList
/-- Tables in memory: a list of a call's own. -/
structure TblsOwn (W w : World) (v : Value) (tvs : List Value) (ts : List Tw) : Prop where
  row : w.ownsRow 0 58 4 v ts.length (tvs.flatMap tblC)
  nw : Nw W w
  since : ∀ q, v.ownBlock = some q → W.heap.size ≤ q
  len : tvs.length = ts.length
  each : ∀ i, i < ts.length → ∃ (t : Tw), ts[i]? = some t ∧ TblAt w (tvs.getD i undef) t.tb.vars t.tb.rows t.tb.nt t.way
def tablesTo (zs : List Int) (rs : List RawT) (k : Nat) : List Tw := (rs.take k).map (tableOf zs)
/-- What an append of one struct leaves. -/
theorem appN {w w1 : World} {e : TypeId} {size : Nat} {v v' : Value} {k : Nat} {xs news : List Value} (h1 : w1.ownsRow 0 e size v' (k + 1) (xs ++ news))
    (hg : (w.alloc (.cells news.toArray e)).grownBy w1 v.ownBlock) (hat : v'.ownBlock = v.ownBlock ∨ v'.ownBlock = some (w.alloc (.cells news.toArray e)).heap.size) :
    ∃ g cap, v' = .slice (some ⟨g, 0, none⟩) (k + 1) cap ∧ Fr (fun j => v.ownBlock = some j) w w1 ∧ (v.ownBlock = some g ∨ w.heap.size ≤ g) ∧ g < w1.heap.size := by
  have hfr : Fr (fun j => v.ownBlock = some j) w w1 := ((Fr.refl (fun j => v.ownBlock = some j) w).alloc (.cells news.toArray e)).grown hg (fun k hk => .inl hk)
  rcases h1.2 with ⟨_, hn⟩ | ⟨g, cap, cur, rfl, _, hgg, _⟩
  · omega
  · refine ⟨g, cap, rfl, hfr, ?_, lt_of_block hgg⟩
    rcases hat with hat | hat
    · exact .inl hat.symm
    · right
      have : g = w.heap.size + 1 := by simpa [Value.ownBlock] using hat
      omega
theorem cells_new (w : World) (xs : List Value) (t : TypeId) : ∀ j u, xs[j]? = some u → (w.alloc (.cells xs.toArray t)).cell? ((⟨w.heap.size, 0, none⟩ : Addr).add j) = some u := by
  intro j u hj
  rw [show (⟨w.heap.size, 0, none⟩ : Addr).add j = ⟨w.heap.size, j, none⟩ from by by_cases h : j = 0 <;> simp [Addr.add, h], (Blk.new w xs.toArray t).cell]
  simpa using hj

end Go.Proofs.Ytkjfpdfkcfgfkaa

/- What came in: slices of numbers, of tables by raw numbers. -/
namespace Go.Proofs.Ytkjfpdfkcfgfkaa
open Go.ChangeShapes Go.WideShapes Go.ChangeAt Go.RowKit

theorem In64.of_wf {n : Int} (h : (Lit.int .i64 n).wf = true) : In64 n := by
  simp only [Lit.wf, Bool.and_eq_true, decide_eq_true_eq] at h
  have h1 : IntKind.i64.min = -9223372036854775808 := by decide
  have h2 : IntKind.i64.max = 9223372036854775807 := by decide
  unfold In64
  omega
/-- A slice of numbers, wherever it was read. -/
theorem came_row {H : Type} {enc : TypeId × Value → H} {W : World} {fuel : Nat} {v : Value} {x : DataW H × List MemPlace} (h : DataW.trod enc Try.prog W 0 (fun _ => true) true fuel 22 [v] = some x) :
    ∃ (a : Option Addr) (cap : Nat) (zs : List Int), v = .slice a zs.length cap ∧ IntsAt W a zs ∧ (∀ c ∈ zs, In64 c) ∧ ((∀ n ∈ x.1.weights Try.prog 22, n ≤ reachBytes) → zs.length * 8 ≤ reachBytes) := by
  rcases open_ints Try.underlying22 Try.underlying3 (by kernel_rfl) h with ⟨hcs, hx⟩ | ⟨a, len, cap, zs, hcs, _, hl, hm, hz, hx, hcell, hwz⟩
  · obtain rfl : v = .slice none 0 0 := by simpa using hcs
    exact ⟨none, 0, [], rfl, fun i hi => absurd hi (Nat.not_lt_zero _), fun c hc => (by cases hc), fun _ => (by simp)⟩
  · obtain rfl : v = .slice (some a) len cap := by simpa using hcs
    simp only [if_true] at hz
    have hzl : (zs.take len).length = len := by simp; omega
    refine ⟨some a, cap, zs.take len, by rw [hzl], fun i hi => ?_, fun c hc => In64.of_wf (hwz c (List.mem_of_mem_take hc)), fun hw => ?_⟩
    · rw [hzl] at hi
      have hc := hcell i (by omega)
      obtain ⟨b, o, rfl, _⟩ := ints_at hcell (by omega)
      rw [show (⟨b, o, none⟩ : Addr).add i = ⟨b, o + i, none⟩ from by simp [Addr.add]] at hc
      refine ⟨b, o, rfl, World.block_lt_of_cell? W _ hc, ?_⟩
      rw [hc]
      simp [List.getElem?_take_of_lt hi]
    · subst hx
      have h1 := hw ((zs.take len).length * 8 + (zs.drop len).length * 8) (by
        simp only [DataW.weights, Try.underlying22, lits, List.length_map, Try.bytesInt, ← Nat.add_mul]
        exact List.mem_cons_self ..)
      omega
end Go.Proofs.Ytkjfpdfkcfgfkaa

/- A fretwork with tables: what posting them leaves. -/
namespace Go.Proofs.Ytkjfpdfkcfgfkaa
open Go.RowKit

/-- The closure of domains that were narrowed by fewer tables first. -/
theorem Closure.more {n : Nat} {bs bs' : List Tb} {st d d' : List Nat} (h : Closure n bs st d) (hf : Full n d) (hs : ∀ b ∈ bs, b ∈ bs') (k : Closure n bs' d d') : Closure n bs' st d' := by
  obtain ⟨a1, _, a3⟩ := h.full hf
  refine ⟨fun hf' => ?_, fun hn => ?_⟩
  · obtain ⟨b1, b2, b3⟩ := k.full hf'
    exact ⟨b1.trans a1, b2, fun e he hb => b3 e (a3 e he (fun b hb' => hb b (hs b hb'))) hb⟩
  · obtain ⟨b1, b2⟩ := k.none hn
    exact ⟨b1, fun e he hb => b2 e (a3 e he (fun b hb' => hb b (hs b hb'))) hb⟩
/-- A Work at level 0, whose domains are the closure of all that was asked of it. -/
structure Posted (w0 w : World) (X : Nat) (zs : List Int) (s : WS) (bs : List Tb) (st : List Nat) : Prop where
  at_ : WAt w X zs s
  since : Since w0 X s
  nw : Nw w0 w
  busy : s.l.busy = false
  sk : s.sk = []
  clo : Closure zs.length bs st s.d
  all : Full zs.length s.d → s.bs = bs
  few : s.ts.length ≤ bs.length
  sdm : Dm st
/-- Dead, or all domains have a value. -/
theorem WAt.dead_iff {w : World} {X : Nat} {zs : List Int} {s : WS} (h : WAt w X zs s) : s.d.getD 0 0 = 0 ↔ ¬ Full zs.length s.d := by
  obtain ⟨h0, _⟩ := okSizes_len h.mem.zok
  constructor
  · intro he hf
    exact hf 0 h0 he
  · intro hn
    rcases h.good.alive with e | e
    · rw [e, zero8_get]
    · exact absurd e hn
theorem set_get (d : List Nat) (v x q : Nat) (hv : v < d.length) : (d.set v x).getD q 0 = if v = q then x else d.getD q 0 := by
  by_cases e : v = q
  · subst e
    simp [List.getD, hv]
  · simp [List.getD, e]
theorem sub_fix {e d : List Nat} {v x : Nat} (hv : v < d.length) : SubD e (d.set v (fixV (d.getD v 0) x)) ↔ SubD e d ∧ ∀ u, (e.getD v 0).testBit u = true → u = x := by
  constructor
  · intro h
    refine ⟨fun q u hu => ?_, fun u hu => ?_⟩
    · have h1 := h q u hu
      rw [set_get _ _ _ _ hv] at h1
      split at h1
      · rename_i hq
        subst hq
        rw [fixV_bit] at h1
        simp at h1
        exact h1.1
      · exact h1
    · have h1 := h v u hu
      rw [set_get _ _ _ _ hv, if_pos rfl, fixV_bit] at h1
      simp at h1
      exact h1.2.symm
  · rintro ⟨h1, h2⟩ q u hu
    rw [set_get _ _ _ _ hv]
    split
    · rename_i hq
      subst hq
      rw [fixV_bit, h1 _ u hu, h2 u hu]
      simp
    · exact h1 q u hu
/-- The closure of domains that are cut behind another closure. -/
theorem Closure.cut {n : Nat} {bs : List Tb} {st d st' dd d' : List Nat} (h : Closure n bs st d) (hf : Full n d) (P : List Nat → Prop) (h1 : ∀ e, SubD e st' ↔ SubD e st ∧ P e) (h2 : ∀ e, SubD e dd ↔ SubD e d ∧ P e) (k : Closure n bs dd d') : Closure n bs st' d' := by
  obtain ⟨a1, _, a3⟩ := h.full hf
  refine ⟨fun hf' => ?_, fun hn => ?_⟩
  · obtain ⟨b1, b2, b3⟩ := k.full hf'
    have hb := (h2 _).1 b1
    exact ⟨(h1 _).2 ⟨hb.1.trans a1, hb.2⟩, b2, fun e he hb => b3 e ((h2 e).2 ⟨a3 e ((h1 e).1 he).1 hb, ((h1 e).1 he).2⟩) hb⟩
  · obtain ⟨b1, b2⟩ := k.none hn
    exact ⟨b1, fun e he hb => b2 e ((h2 e).2 ⟨a3 e ((h1 e).1 he).1 hb, ((h1 e).1 he).2⟩) hb⟩
theorem fix_dm {d : List Nat} (h : Dm d) (v x : Nat) : Dm (d.set v (fixV (d.getD v 0) x)) := ⟨by rw [List.length_set]; exact h.len, fun q => by
  by_cases hv : v < d.length
  · rw [set_get _ _ _ _ hv]
    split
    · exact Nat.lt_of_le_of_lt Nat.and_le_left (h.lt v)
    · exact h.lt q
  · rw [List.set_eq_of_length_le (by omega)]
    exact h.lt q⟩
theorem fault_ok {zs : List Int} {d : List Nat} {v value : Nat} (hv : v < zs.length) (hx : (value : Int) < zs.getD v 0) : faultOf zs d v value = if d.getD 0 0 = 0 then 3 else 0 := by
  unfold faultOf
  rw [if_pos ⟨by omega, by omega, by omega, by simpa using hx⟩]
def tw0 : Tw := ⟨⟨[], [], false⟩, 0⟩
theorem Posted.of_new {w0 w : World} {X : Nat} {zs : List Int} {szv : Value} (hok : okSizes zs = true) (hf : Nw w0 w) (hB : Blk w X (workCells szv (fullTo zs zs.length) (.slice none 0 0) rest0) 82) (hr : Row w szv 3 (zs.map (Value.int .i64))) (hX : w0.heap.size ≤ X) (hs : ∀ k, szv.ownBlock = some k → w0.heap.size ≤ k) :
    Posted w0 w X zs (ws0 zs szv) [] (fullTo zs zs.length) := by
  refine ⟨new_wat hok hB hr, fun k hk => ?_, hf, rfl, rfl, ?_, fun _ => rfl, Nat.le_refl _, full_dm hok⟩
  · rcases ws0_own hk with rfl | hk
    · exact hX
    · exact hs k hk
  · exact ⟨fun _ => ⟨SubD.refl _, fun b hb => (by cases hb), fun d hd _ => hd⟩, fun hn => absurd (full_full hok) hn⟩

end Go.Proofs.Ytkjfpdfkcfgfkaa

/- Parts of the statements without the document's answer: tables by raw numbers are right; two fretworks with the same domains. -/
namespace Go.Proofs.Ytkjfpdfkcfgfkaa
open Go.RowKit

end Go.Proofs.Ytkjfpdfkcfgfkaa

/- What a table allows, in either way: Allows. -/
namespace Go.Proofs.Ytkjfpdfkcfgfkaa
open Go.RowKit

/-- The values of a table's variables in a list of numbers. -/
structure ListAt (w : World) (lo : Option Addr) (ls : List Int) (vars : List Int) (l : List Nat) : Prop where
  at_ : IntsAt w lo ls
  len : l.length = vars.length
  get : ∀ i, i < vars.length → (vars.getD i 0).toNat < ls.length ∧ 0 ≤ vars.getD i 0 ∧ ls.getD (vars.getD i 0).toNat 0 = (l.getD i 0 : Nat) ∧ l.getD i 0 < 6
theorem ListAt.nw {w w' : World} {lo : Option Addr} {ls vars : List Int} {l : List Nat} (h : ListAt w lo ls vars l) (f : Nw w w') : ListAt w' lo ls vars l := ⟨h.at_.nw f, h.len, h.get⟩
/-- The rows that bear the first k values. -/
def covN (br : List Nat) (live : Nat) (l : List Nat) : Nat → Nat
  | 0 => live
  | k + 1 => covN br live l k &&& br.getD (k * 6 + l.getD k 0) 0
theorem covN_lt (br : List Nat) (live : Nat) (l : List Nat) (h : live < 18446744073709551616) : ∀ k, covN br live l k < 18446744073709551616
  | 0 => h
  | k + 1 => Nat.lt_of_le_of_lt Nat.and_le_left (covN_lt br live l h k)
theorem covN_bit (br : List Nat) (live : Nat) (l : List Nat) (j : Nat) : ∀ k, (covN br live l k).testBit j = true ↔ live.testBit j = true ∧ ∀ i, i < k → (br.getD (i * 6 + l.getD i 0) 0).testBit j = true
  | 0 => by simp [covN]
  | k + 1 => by
    unfold covN
    rw [Nat.testBit_and, Bool.and_eq_true, covN_bit br live l j k]
    constructor
    · rintro ⟨⟨h1, h2⟩, h3⟩
      refine ⟨h1, fun i hi => ?_⟩
      rcases Nat.lt_succ_iff_lt_or_eq.1 hi with h | h
      · exact h2 i h
      · subst h
        exact h3
    · rintro ⟨h1, h2⟩
      exact ⟨⟨h1, fun i hi => h2 i (by omega)⟩, h2 k (by omega)⟩
/-- Way 1: what Allows says is what the table allows. -/
theorem covN_sem {vars : List Int} {rows : List (List Int)} {dn : List Nat} {live : Nat} (h4 : vars.length ≤ 4) (hd : ∀ q, dn.getD q 0 < 64) (hrow : ∀ j, j < rows.length → (rows.getD j []).length = vars.length) (hR : RsRep vars rows dn live) {l : List Nat} (hO : OutOf vars dn l) (nt : Bool) :
    ((covN (brTo rows rows.length) live l vars.length != 0) != nt) = true ↔ Allow rows nt l := by
  have hc : covN (brTo rows rows.length) live l vars.length ≠ 0 ↔ ∃ j, j < rows.length ∧ Covers (rows.getD j []) l := by
    constructor
    · intro h
      obtain ⟨j, hj⟩ := ne_zero_bit h
      rw [covN_bit] at hj
      have hjl := hR.1 j hj.1
      refine ⟨j, hjl, fun i hi => ?_⟩
      rw [hO.1] at hi
      have := hj.2 i hi
      rw [Nat.mul_comm] at this
      exact ((brTo_bit rows i _ (by omega) (bit_lt6 (hd _) (hO.2 i hi)) rows.length j).1 this).2.2
    · rintro ⟨j, hj, hcv⟩ h0
      have : (covN (brTo rows rows.length) live l vars.length).testBit j = true := by
        rw [covN_bit]
        refine ⟨hR.2 j hj ⟨l, hO, hcv⟩, fun i hi => ?_⟩
        rw [Nat.mul_comm]
        exact (brTo_bit rows i _ (by omega) (bit_lt6 (hd _) (hO.2 i hi)) rows.length j).2 ⟨hj, by rw [hrow j hj]; exact hi, hcv i (by rw [hO.1]; exact hi)⟩
      rw [h0] at this
      simp at this
  unfold Allow
  cases nt with
  | false =>
    simp only [Bool.false_eq_true, if_false]
    rw [← hc]
    simp
  | true =>
    simp only [if_true]
    have h2 : (∀ j, j < rows.length → ¬ Covers (rows.getD j []) l) ↔ ¬ covN (brTo rows rows.length) live l vars.length ≠ 0 := by
      rw [hc]
      exact ⟨fun a ⟨j, hj, hh⟩ => a j hj hh, fun a j hj hh => a ⟨j, hj, hh⟩⟩
    rw [h2]
    simp

set_option maxHeartbeats 1600000 in
set_option maxRecDepth 1000000 in
theorem rsAllows_any (G g cap : Nat) (lo : Option Addr) (lc : Nat) (vars ls : List Int) (l : List Nat) (nt : Bool) (br : List Nat) (live : Nat) (w : World) (hG : Blk w G (rsCells (.slice (some ⟨g, 0, none⟩) vars.length cap) nt br live) 142)
    (hv : Row w (.slice (some ⟨g, 0, none⟩) vars.length cap) 3 (vars.map (Value.int .i64))) (h24 : br.length = 24) (hbr : ∀ j, br.getD j 0 < 18446744073709551616) (hlv : live < 18446744073709551616) (h4 : vars.length ≤ 4) (hL : ListAt w lo ls vars l) :
    Calls Try.prog 112 #[.pointer (some ⟨G, 0, none⟩), .slice lo ls.length lc] w fun e w' => e = .returned (.bool ((covN br live l vars.length != 0) != nt)) ∧ ∃ m, w' = w.drewN m := by
  have HG := hd hG
  have Hv := hd hv
  have HL := hd hL
  have c0 : w.cell? ⟨G, 0, none⟩ = some (.slice (some ⟨g, 0, none⟩) vars.length cap) := hG.cell 0
  have c26 : w.cell? ⟨G, 26, none⟩ = some (.int .u64 (live : Int)) := (hG.cell 26).trans (rsCells_live _ _ _ _ h24)
  clear hG hv hL
  go_enter Try.func112, Try.ntmps112
  go_wp2_with fail
  go_loopw [5, 6, 7, 18] (fun c _ _ i wr => ∃ k : Nat, k ≤ vars.length ∧ i = .int .i64 (k : Int) ∧ c = .int .u64 ((covN br live l k : Nat) : Int) ∧ ∃ m, wr = w.drewN m) (fun _ _ _ i _ => vars.length - (intOf i).toNat)
  case atStart => exact ⟨0, by omega, rfl, rfl, 0, rfl⟩
  case round =>
    obtain ⟨k, hk, rfl, rfl, mm, hmm⟩ := hrel
    have HF : Hid (Nw w wr) := by
      rw [hmm]
      exact (Fr.refl _ w).drewN mm
    have Hmm := hd hmm
    clear hmm
    by_cases hlt : k < vars.length
    · have hdk : (k : Int) < (vars.length : Int) := by omega
      have hk4 : (k : Int) < 4 := by omega
      obtain ⟨g', cap', he, hgo, hgc, _⟩ := (Hv.out.nw HF.out).cell k (by simpa using hlt)
      simp only [List.length_map, Value.slice.injEq, Option.some.injEq, Addr.mk.injEq, and_true, true_and] at he
      obtain ⟨rfl, rfl⟩ := he
      have hgl : g < wr.heap.size := (Hv.out.nw HF.out).lt rfl
      simp only [List.getElem_map] at hgc
      obtain ⟨h1, h2, h3, h6⟩ := HL.out.get k hlt
      have hgd : vars.getD k 0 = vars[k] := by simp [List.getD, hlt]
      obtain ⟨u, hu⟩ : ∃ u : Nat, vars.getD k 0 = (u : Int) := ⟨(vars.getD k 0).toNat, by omega⟩
      rw [← hgd, hu] at hgc
      rw [hu, Int.toNat_natCast] at h1 h3
      obtain ⟨lb, lof, rfl, hlbl, hlc⟩ := (HL.out.at_.nw HF.out) u h1
      rw [h3] at hlc
      have hul : (u : Int) < (ls.length : Int) := by omega
      obtain ⟨x, hx⟩ : ∃ x, l.getD k 0 = x := ⟨_, rfl⟩
      have hx6 : (x : Int) < 6 := by omega
      have hbc : wr.cell? ⟨G, 2 + k * 6 + x, none⟩ = some (.int .u64 (br.getD (k * 6 + x) 0 : Nat)) := by
        rw [Nat.add_assoc]
        exact ((HG.out.nw HF.out).cell _).trans (rsCells_br _ _ _ _ _ (by omega))
      have hbl := hbr (k * 6 + x)
      have hcl := covN_lt br live l hlv k
      have hGl : G < wr.heap.size := (HG.out.nw HF.out).lt
      have hsucc : covN br live l (k + 1) = covN br live l k &&& br.getD (k * 6 + x) 0 := by rw [← hx]; rfl
      rw [hx] at hlc
      obtain ⟨y, hy⟩ : ∃ y, br.getD (k * 6 + x) 0 = y := ⟨_, rfl⟩
      obtain ⟨cv, hcv⟩ : ∃ cv, covN br live l k = cv := ⟨_, rfl⟩
      rw [hy] at hbc hbl hsucc
      rw [hcv] at hcl hsucc ⊢
      have hand := u64_and_nat cv y hcl hbl
      have Hand := hd hand
      have Hsucc := hd hsucc
      clear hx hy hcv hu hgd h3 h2 hgo hand hsucc
      go_wp2_with fail
      go_quiet (fail)
      go_wp2_with fail
      refine ⟨⟨k + 1, by omega, by simp, ?_, mm + nq, by rw [Hmm.out]; simp [World.drewN, Nat.add_assoc]⟩, by simp [intOf]; omega⟩
      rw [Hsucc.out, ← Hand.out]
    · obtain rfl : k = vars.length := by omega
      have hdk : ¬ ((vars.length : Int) < (vars.length : Int)) := by omega
      have c1 : wr.cell? ⟨G, 1, none⟩ = some (.bool nt) := (HG.out.nw HF.out).cell 1
      have hGl : G < wr.heap.size := (HG.out.nw HF.out).lt
      have hcl := covN_lt br live l hlv vars.length
      obtain ⟨cv, hcv⟩ : ∃ cv, covN br live l vars.length = cv := ⟨_, rfl⟩
      rw [hcv] at hcl
      have Hcv := hd hcv
      rw [Hcv.out]
      clear hcv
      go_wp2_with fail
      go_ret
      refine ⟨?_, mm, Hmm.out⟩
      rw [Hcv.out]
      have e : ((cv : Int) != 0) = (cv != 0) := by cases cv <;> rfl
      show Ending.returned (Value.bool (((cv : Int) != 0) != nt)) = _
      rw [e]

/-- The node that a diagram comes to behind k values. -/
def runD (os : List (List Nat)) (l : List Nat) (root : Nat) : Nat → Nat
  | 0 => root
  | k + 1 => nodeAt os (runD os l root k) (l.getD k 0)
theorem runD_shift (os : List (List Nat)) (l : List Nat) : ∀ (m i old : Nat), levOk os m old → os.getD 0 [] = zero6 → (∀ j, l.getD j 0 < 6) → (dAcc os m i old l ↔ (List.range m).foldl (fun at_ j => nodeAt os at_ (l.getD (i + j) 0)) old = 1)
  | 0, i, old, hl, _, _ => by simp [dAcc]
  | m + 1, i, old, hl, hz, h6 => by
    have hnext : levOk os m (nodeAt os old (l.getD i 0)) := by
      rcases hl with h | ⟨_, _, h⟩
      · subst h
        have : nodeAt os 0 (l.getD i 0) = 0 := by
          unfold nodeAt
          rw [hz]
          have := h6 i
          match l.getD i 0, this with
          | 0, _ | 1, _ | 2, _ | 3, _ | 4, _ | 5, _ => rfl
        rw [this]
        cases m with
        | zero => exact (by decide : (0 : Nat) < 2)
        | succ m => exact .inl rfl
      · exact h _ (h6 i)
    have ih := runD_shift os l m (i + 1) _ hnext hz h6
    have e : (List.range (m + 1)).foldl (fun at_ j => nodeAt os at_ (l.getD (i + j) 0)) old = (List.range m).foldl (fun at_ j => nodeAt os at_ (l.getD (i + 1 + j) 0)) (nodeAt os old (l.getD i 0)) := by
      rw [List.range_succ_eq_map, List.foldl_cons, List.foldl_map]
      simp only [Nat.add_zero, Nat.add_succ, Nat.succ_add]
    rw [e, ← ih]
    show (2 ≤ old ∧ dAcc os m (i + 1) (nodeAt os old (l.getD i 0)) l) ↔ dAcc os m (i + 1) (nodeAt os old (l.getD i 0)) l
    constructor
    · exact fun h => h.2
    · intro h
      rcases hl with h' | ⟨h2, _⟩
      · subst h'
        have h0 : nodeAt os 0 (l.getD i 0) = 0 := by
          unfold nodeAt
          rw [hz]
          have := h6 i
          match l.getD i 0, this with
          | 0, _ | 1, _ | 2, _ | 3, _ | 4, _ | 5, _ => rfl
        rw [h0] at h
        exact absurd h (dAcc_zero _ _ _ _)
      · exact ⟨h2, h⟩
theorem runD_fold (os : List (List Nat)) (l : List Nat) (root : Nat) : ∀ k, runD os l root k = (List.range k).foldl (fun at_ j => nodeAt os at_ (l.getD (0 + j) 0)) root
  | 0 => rfl
  | k + 1 => by
    rw [List.range_succ, List.foldl_append, ← runD_fold os l root k]
    simp [runD]
theorem runD_sem {os : List (List Nat)} {l : List Nat} {root m : Nat} (hl : levOk os m root) (hz : os.getD 0 [] = zero6) (h6 : ∀ j, l.getD j 0 < 6) : dAcc os m 0 root l ↔ runD os l root m = 1 := by
  rw [runD_shift os l m 0 root hl hz h6, ← runD_fold]
theorem runD_lt {os : List (List Nat)} {l : List Nat} (h2 : 2 ≤ os.length) (hz : os.getD 0 [] = zero6) (h6 : ∀ j, l.getD j 0 < 6) {root m : Nat} (hl : levOk os m root) : ∀ k, k ≤ m → levOk os (m - k) (runD os l root k)
  | 0, _ => hl
  | k + 1, hk => by
    have ih := runD_lt h2 hz h6 hl k (by omega)
    rw [show m - k = (m - (k + 1)) + 1 by omega] at ih
    rcases ih with h | ⟨_, _, h⟩
    · unfold runD
      rw [h]
      have h0 : nodeAt os 0 (l.getD k 0) = 0 := by
        unfold nodeAt
        rw [hz]
        have := h6 k
        match l.getD k 0, this with
        | 0, _ | 1, _ | 2, _ | 3, _ | 4, _ | 5, _ => rfl
      rw [h0]
      cases m - (k + 1) with
      | zero => exact (by decide : (0 : Nat) < 2)
      | succ m => exact .inl rfl
    · exact h _ (h6 k)
theorem levOk_lt {os : List (List Nat)} {m k : Nat} (h2 : 2 ≤ os.length) (h : levOk os m k) : k < os.length := by
  cases m with
  | zero => exact Nat.lt_of_lt_of_le h h2
  | succ m => rcases h with h | ⟨_, h, _⟩ <;> omega
theorem node_small {os : List (List Nat)} (hok : ∀ n ∈ os, NodeOk n) (old v : Nat) (h : old < os.length) (hv : v < 6) : nodeAt os old v < 9223372036854775808 := by
  have hm : os.getD old [] ∈ os := by
    simp only [List.getD, List.getElem?_eq_getElem h, Option.getD_some]
    exact List.getElem_mem h
  have hn := hok _ hm
  unfold nodeAt
  have e : (os.getD old []).getD v 0 = (os.getD old [])[v]'(by rw [hn.1]; exact hv) := by
    generalize os.getD old [] = n at hn ⊢
    simp [List.getD, hn.1, hv]
  rw [e]
  exact Nat.lt_trans (hn.2 _ (List.getElem_mem _)) (by decide)

set_option maxHeartbeats 1600000 in
set_option maxRecDepth 1000000 in
theorem dgAllows_any (G g cap : Nat) (lo : Option Addr) (lc : Nat) (vars ls : List Int) (l : List Nat) (nv : Value) (os : List (List Nat)) (root : Nat) (w : World) (hD : DAt w G g cap nv vars os root) (hlev : levOk os vars.length root) (hz : os.getD 0 [] = zero6) (h4 : vars.length ≤ 4)
    (hL : ListAt w lo ls vars l) (h6 : ∀ j, l.getD j 0 < 6) :
    Calls Try.prog 104 #[.pointer (some ⟨G, 0, none⟩), .slice lo ls.length lc] w fun e w' => e = .returned (.bool (runD os l root vars.length == 1)) ∧ ∃ m, w' = w.drewN m := by
  have HD := hd hD
  have HL := hd hL
  have c0 : w.cell? ⟨G, 0, none⟩ = some (.slice (some ⟨g, 0, none⟩) vars.length cap) := hD.blk.cell 0
  have c2 : w.cell? ⟨G, 2, none⟩ = some (.int .i64 (root : Int)) := hD.blk.cell 2
  have hon : ∃ og ocap, nv = .slice (some ⟨og, 0, none⟩) os.length ocap := by
    rcases hD.row.2 with ⟨_, h0⟩ | ⟨og, ocap, cur, h1, _⟩
    · have := hD.two
      omega
    · exact ⟨og, ocap, h1⟩
  obtain ⟨og, ocap, rfl⟩ := hon
  have hcells : ∀ (w' : World), Nw w w' → ∀ old v, old < os.length → v < 6 → w'.cell? ⟨og, old * 6 + v, none⟩ = some (.int .i64 (nodeAt os old v : Nat)) := fun w' hf old v h1 h2 => by
    have := (ownsRow.fr hD.row hf (fun _ _ x => x)).cells (g := og) rfl (old * 6 + v) _ (flat_cell os hD.ok old v h1 h2)
    rw [WideShapes.add_plain, Nat.zero_add] at this
    exact this
  have hogl : ∀ (w' : World), Nw w w' → og < w'.heap.size := fun w' hf => by
    have := World.ownsRow.lt (ownsRow.fr hD.row hf (fun _ _ x => x)) og rfl
    exact this.2
  have Hcells := hd hcells
  have Hogl := hd hogl
  have hrun := fun k hk => runD_lt hD.two hz h6 hlev k hk
  have Hrun := hd hrun
  have h2os := hD.two
  have Hz := hd hz
  clear hD hL hcells hogl hrun hz
  go_enter Try.func104, Try.ntmps104
  go_wp2_with fail
  go_loopw [5, 7, 18] (fun c _ i wr => ∃ k : Nat, k ≤ vars.length ∧ i = .int .i64 (k : Int) ∧ c = .int .i64 ((runD os l root k : Nat) : Int) ∧ ∃ m, wr = w.drewN m) (fun _ _ i _ => vars.length - (intOf i).toNat)
  case atStart => exact ⟨0, by omega, rfl, rfl, 0, rfl⟩
  case round =>
    obtain ⟨k, hk, rfl, rfl, mm, hmm⟩ := hrel
    have HF : Hid (Nw w wr) := by
      rw [hmm]
      exact (Fr.refl _ w).drewN mm
    have Hmm := hd hmm
    clear hmm
    have hat := levOk_lt h2os (Hrun.out k hk)
    by_cases hlt : k < vars.length
    · have hdk : (k : Int) < (vars.length : Int) := by omega
      obtain ⟨g', cap', he, hgo, hgc, _⟩ := (HD.out.rv.nw HF.out).cell k (by simpa using hlt)
      simp only [List.length_map, Value.slice.injEq, Option.some.injEq, Addr.mk.injEq, and_true, true_and] at he
      obtain ⟨rfl, rfl⟩ := he
      have hgl : g < wr.heap.size := (HD.out.rv.nw HF.out).lt rfl
      simp only [List.getElem_map] at hgc
      obtain ⟨h1, h2, h3, h6'⟩ := HL.out.get k hlt
      have hgd : vars.getD k 0 = vars[k] := by simp [List.getD, hlt]
      obtain ⟨u, hu⟩ : ∃ u : Nat, vars.getD k 0 = (u : Int) := ⟨(vars.getD k 0).toNat, by omega⟩
      rw [← hgd, hu] at hgc
      rw [hu, Int.toNat_natCast] at h1 h3
      obtain ⟨lb, lof, rfl, hlbl, hlc⟩ := (HL.out.at_.nw HF.out) u h1
      rw [h3] at hlc
      have hul : (u : Int) < (ls.length : Int) := by omega
      have hsucc : runD os l root (k + 1) = nodeAt os (runD os l root k) (l.getD k 0) := rfl
      obtain ⟨x, hx⟩ : ∃ x, l.getD k 0 = x := ⟨_, rfl⟩
      obtain ⟨a, ha⟩ : ∃ a, runD os l root k = a := ⟨_, rfl⟩
      rw [hx] at h6' hlc hsucc
      rw [ha] at hat hsucc ⊢
      have hx6 : (x : Int) < 6 := by omega
      have hal : (a : Int) < (os.length : Int) := by omega
      have hbc := Hcells.out wr HF.out a x hat h6'
      have hogw := Hogl.out wr HF.out
      have hsm := node_small HD.out.ok a x hat h6'
      have c1 : wr.cell? ⟨G, 1, none⟩ = some (.slice (some ⟨og, 0, none⟩) os.length ocap) := (HD.out.blk.nw HF.out).cell 1
      have hGl : G < wr.heap.size := (HD.out.blk.nw HF.out).lt
      obtain ⟨y, hy⟩ : ∃ y, nodeAt os a x = y := ⟨_, rfl⟩
      rw [hy] at hbc hsm hsucc
      have Hsucc := hd hsucc
      clear hx ha hy hu hgd h3 h2 hgo hsucc
      go_wp2_with fail
      go_quiet (fail)
      go_wp2_with fail
      refine ⟨⟨k + 1, by omega, by simp, ?_, mm + nq, by rw [Hmm.out]; simp [World.drewN, Nat.add_assoc]⟩, by simp [intOf]; omega⟩
      rw [Hsucc.out]
    · obtain rfl : k = vars.length := by omega
      have hdk : ¬ ((vars.length : Int) < (vars.length : Int)) := by omega
      obtain ⟨a, ha⟩ : ∃ a, runD os l root vars.length = a := ⟨_, rfl⟩
      have Ha := hd ha
      rw [Ha.out]
      clear ha
      go_wp2_with fail
      go_ret
      refine ⟨?_, mm, Hmm.out⟩
      have e : ((a : Int) == 1) = (a == 1) := by
        rw [Bool.eq_iff_iff, beq_iff_eq, beq_iff_eq]
        omega
      rw [Ha.out, ← e]
      rfl
end Go.Proofs.Ytkjfpdfkcfgfkaa

/- Solutions: Last, and how a table's methods are found. -/
namespace Go.Proofs.Ytkjfpdfkcfgfkaa
open Go.RowKit

/-- The greatest of the first k numbers (of one at least). -/
def maxTo (l : List Int) : Nat → Int
  | 0 => l.getD 0 0
  | k + 1 => max (maxTo l k) (l.getD k 0)
/-- The greatest variable of a table. -/
def lastOf (vars : List Int) : Int := maxTo vars vars.length
theorem maxTo_ge (l : List Int) : ∀ k i, i < k → l.getD i 0 ≤ maxTo l k
  | 0, i, h => absurd h (Nat.not_lt_zero _)
  | k + 1, i, h => by
    unfold maxTo
    rcases Nat.lt_succ_iff_lt_or_eq.1 h with h' | h'
    · have := maxTo_ge l k i h'
      omega
    · subst h'
      omega
theorem maxTo_mem (l : List Int) : ∀ k, 0 < k → ∃ i, i < k ∧ maxTo l k = l.getD i 0
  | 0, h => absurd h (Nat.lt_irrefl _)
  | 1, _ => ⟨0, by omega, by simp [maxTo]⟩
  | k + 2, _ => by
    obtain ⟨i, hi, he⟩ := maxTo_mem l (k + 1) (by omega)
    by_cases h : maxTo l (k + 1) ≤ l.getD (k + 1) 0
    · exact ⟨k + 1, by omega, by unfold maxTo; omega⟩
    · exact ⟨i, by omega, by rw [← he]; show max (maxTo l (k + 1)) (l.getD (k + 1) 0) = _; omega⟩

set_option maxHeartbeats 800000 in
set_option maxRecDepth 1000000 in
theorem smax_any (b o cap : Nat) (l : List Int) (w : World) (h1 : 1 ≤ l.length) (h4 : l.length ≤ 4) (h : IntsAt w (some ⟨b, o, none⟩) l) :
    Calls Try.prog 109 #[.slice (some ⟨b, o, none⟩) l.length cap] w fun e w' => e = .returned (.int .i64 (lastOf l)) ∧ w' = w := by
  have Hh := hd h
  obtain ⟨b', o', he, hbl, hc0⟩ := h 0 (by omega)
  simp only [Option.some.injEq, Addr.mk.injEq, and_true] at he
  obtain ⟨rfl, rfl⟩ := he
  rw [Nat.add_zero] at hc0
  clear h
  go_enter Try.func109, Try.ntmps109
  go_wp2_with fail
  go_loopw [3, 4] (fun m i wr => wr = w ∧ ∃ k : Nat, 1 ≤ k ∧ k ≤ l.length ∧ i = .int .i64 (k : Int) ∧ m = .int .i64 (maxTo l k)) (fun _ i _ => l.length - (intOf i).toNat)
  case atStart => exact ⟨rfl, 1, by omega, by omega, rfl, by simp [maxTo]⟩
  case round =>
    obtain ⟨rfl, k, hk1, hk, rfl, rfl⟩ := hrel
    by_cases hlt : k < l.length
    · have hdk : (k : Int) < (l.length : Int) := by omega
      obtain ⟨b', o', he, _, hck⟩ := Hh.out k hlt
      simp only [Option.some.injEq, Addr.mk.injEq, and_true] at he
      obtain ⟨rfl, rfl⟩ := he
      have hs : maxTo l (k + 1) = max (maxTo l k) (l.getD k 0) := rfl
      obtain ⟨x, hx⟩ : ∃ x, l.getD k 0 = x := ⟨_, rfl⟩
      obtain ⟨m, hm⟩ : ∃ m, maxTo l k = m := ⟨_, rfl⟩
      rw [hx] at hck hs
      rw [hm] at hs ⊢
      have Hs := hd hs
      clear hx hm hs
      go_wp2_with fail
      refine ⟨⟨trivial, k + 1, by omega, by omega, by simp, ?_⟩, by simp [intOf]; omega⟩
      rw [Hs.out]
      congr 1
      split <;> omega
    · obtain rfl : k = l.length := by omega
      have hdk : ¬ ((l.length : Int) < (l.length : Int)) := by omega
      go_wp2_with fail
      go_ret
      exact ⟨rfl, rfl⟩

set_option maxHeartbeats 800000 in
set_option maxRecDepth 1000000 in
theorem last_any (b o cap : Nat) (l : List Int) (w : World) (h1 : 1 ≤ l.length) (h4 : l.length ≤ 4) (h : IntsAt w (some ⟨b, o, none⟩) l) :
    Calls Try.prog 106 #[.agg #[.slice (some ⟨b, o, none⟩) l.length cap]] w fun e w' => e = .returned (.int .i64 (lastOf l)) ∧ Nw w w' := by
  have hf : Nw w (w.alloc (.cells #[.slice (some ⟨b, o, none⟩) l.length cap] 129)) := (Fr.refl _ w).alloc _
  have Hh := hd (h.nw hf)
  clear h
  go_enter Try.func106, Try.ntmps106
  go_wp2_with (go_at_call 109; refine (smax_any b o cap l _ h1 h4 Hh.out).mono ?_; rintro e w' ⟨rfl, rfl⟩)
  go_ret
  exact ⟨rfl, hf⟩
theorem meth_last (G : Nat) (v : Value) (W : World) (h : W.cell? ⟨G, 0, none⟩ = some v) :
    (method 286 115 (.pointer (some ⟨G, 0, none⟩)) "Last").run Try.prog W = .ok (106, .agg #[v]) W := by
  have h1 : (method 286 115 (.pointer (some ⟨G, 0, none⟩)) "Last").run Try.prog W =
      match W.cell? ⟨G, 0, none⟩ with
      | some v => .ok (106, .agg #[v]) W
      | none => match W.farLoad Try.prog ⟨G, 0, none⟩ (Mode.plain == .atomic) with
        | .ok (v, _) => .ok (106, .agg #[v]) W
        | .error h => .halt h W := by kernel_rfl
  rw [h1, h]
theorem meth_dlast (G : Nat) (v : Value) (W : World) (h : W.cell? ⟨G, 0, none⟩ = some v) :
    (method 286 113 (.pointer (some ⟨G, 0, none⟩)) "Last").run Try.prog W = .ok (106, .agg #[v]) W := by
  have h1 : (method 286 113 (.pointer (some ⟨G, 0, none⟩)) "Last").run Try.prog W =
      match W.cell? ⟨G, 0, none⟩ with
      | some v => .ok (106, .agg #[v]) W
      | none => match W.farLoad Try.prog ⟨G, 0, none⟩ (Mode.plain == .atomic) with
        | .ok (v, _) => .ok (106, .agg #[v]) W
        | .error h => .halt h W := by kernel_rfl
  rw [h1, h]
theorem TS.meth_last (t : TS) (G : Nat) (v : Value) (W : World) (h : W.cell? ⟨G, 0, none⟩ = some v) : (method 286 t.ty (.pointer (some ⟨G, 0, none⟩)) "Last").run Try.prog W = .ok (106, .agg #[v]) W := by
  cases t with
  | rs nt br live => exact Go.Proofs.Ytkjfpdfkcfgfkaa.meth_last G v W h
  | dg nv os root => exact meth_dlast G v W h
theorem meth_allows (G : Nat) (W : World) : (method 286 115 (.pointer (some ⟨G, 0, none⟩)) "Allows").run Try.prog W = .ok (112, .pointer (some ⟨G, 0, none⟩)) W := by kernel_rfl
theorem meth_dallows (G : Nat) (W : World) : (method 286 113 (.pointer (some ⟨G, 0, none⟩)) "Allows").run Try.prog W = .ok (104, .pointer (some ⟨G, 0, none⟩)) W := by kernel_rfl
def TS.fnAllows : TS → FuncId
  | .rs .. => 112
  | .dg .. => 104
/-- Allows of a table of either way. -/
theorem allowsT_any (G g cap : Nat) (b : Tb) (t : TS) (lo : Option Addr) (lc : Nat) (ls : List Int) (l : List Nat) (dn : List Nat) (w : World) (hb : b.Ok) (hdm : Dm dn) (hT : TAt w G g cap b.vars t) (hR : TRep b dn t) (hL : ListAt w lo ls b.vars l) (hO : OutOf b.vars dn l) :
    Calls Try.prog t.fnAllows #[.pointer (some ⟨G, 0, none⟩), .slice lo ls.length lc] w fun e w' => e = .returned (.bool (allowB b.rows b.nt l)) ∧ ∃ m, w' = w.drewN m := by
  have h6 : ∀ j, l.getD j 0 < 6 := fun j => by
    by_cases hj : j < b.vars.length
    · exact bit_lt6 (hdm.lt _) (hO.2 j hj)
    · have : l.getD j 0 = 0 := by
        simp only [List.getD]
        rw [List.getElem?_eq_none (by rw [hO.1]; omega)]
        rfl
      rw [this]
      decide
  cases t with
  | rs nt br live =>
    obtain ⟨rfl, rfl, hRs⟩ := hR
    obtain ⟨h1, h2, h3, h4, h5, _⟩ := hT
    refine (rsAllows_any G g cap lo lc b.vars ls l b.nt _ live w h1 h2 h3 h4 h5 hb.vars.four hL).mono ?_
    rintro e w' ⟨rfl, hf⟩
    refine ⟨?_, hf⟩
    have h7 : ((covN (brTo b.rows b.rows.length) live l b.vars.length != 0) != b.nt) = allowB b.rows b.nt l := by
      rw [Bool.eq_iff_iff, covN_sem hb.vars.four hdm.lt hb.rows hRs hO b.nt, allowB_iff]
    rw [h7]
  | dg nv os root =>
    obtain ⟨hnz, hlev, hD, hz⟩ := hR
    obtain ⟨h1, _, _, _⟩ := hT
    refine (dgAllows_any G g cap lo lc b.vars ls l nv os root w h1 hlev hz hb.vars.four hL h6).mono ?_
    rintro e w' ⟨rfl, hf⟩
    refine ⟨?_, hf⟩
    have h7 : (runD os l root b.vars.length == 1) = allowB b.rows b.nt l := by
      rw [Bool.eq_iff_iff, beq_iff_eq, ← runD_sem hlev hz h6, allowB_iff]
      exact hD l hO
    rw [h7]
end Go.Proofs.Ytkjfpdfkcfgfkaa

/- Supported: what a table allows, by the statement's own reckoning. -/
namespace Go.Proofs.Ytkjfpdfkcfgfkaa
open Go.RowKit

/-- An entry of a row stands for a number. -/
def entB (r x : Int) : Bool := r == -1 || r == x
def covTo (row vars ls : List Int) (k : Nat) : Bool := (List.range k).all (fun i => entB (row.getD i 0) (ls.getD (vars.getD i 0).toNat 0))
/-- Does one of the first k rows cover it? -/
def covAny (rows : List (List Int)) (vars ls : List Int) (k : Nat) : Bool := (List.range k).any (fun j => covTo (rows.getD j []) vars ls vars.length)
def allowI (rows : List (List Int)) (vars ls : List Int) (nt : Bool) : Bool := if covAny rows vars ls rows.length then !nt else nt

end Go.Proofs.Ytkjfpdfkcfgfkaa

/- Supported: is there a list, out of what is left, that the table allows? -/
namespace Go.Proofs.Ytkjfpdfkcfgfkaa
open Go.RowKit

/-- What a call of stands looks into. -/
structure StEnv where
  vo : Option Addr
  ro : Option Addr
  lo : Option Addr
  vcap : Nat
  rcap : Nat
  lcap : Nat
  vars : List Int
  rows : List (List Int)
  left : List (List Int)
  nt : Bool
  way : Int
  v : Int
  value : Int
structure StEnv.Ok (E : StEnv) (W0 : World) (n : Nat) : Prop where
  v4 : E.vars.length ≤ 4
  rl : E.rows.length ≤ 60
  n8 : n ≤ 8
  ll : E.left.length = n
  vin : ∀ i, i < E.vars.length → 0 ≤ E.vars.getD i 0 ∧ E.vars.getD i 0 < n
  one : ∀ i k, i < E.vars.length → k < E.vars.length → E.vars.getD i 0 = E.vars.getD k 0 → i = k
  row : ∀ j, j < E.rows.length → (E.rows.getD j []).length = E.vars.length
  few : ∀ u, u < n → (E.left.getD u []).length ≤ 8
  vs : IntsAt W0 E.vo E.vars
  rs : RowsAt W0 E.ro E.rows
  ls : RowsAt W0 E.lo E.left
/-- There is a list that goes on from s, from the table's variable number i on. -/
def StEnv.Ex (E : StEnv) (i : Nat) (s : List Int) : Prop := ∃ l : List Int, l.length = s.length ∧ (∀ k, k < i → k < E.vars.length → l.getD (E.vars.getD k 0).toNat 0 = s.getD (E.vars.getD k 0).toNat 0) ∧
  (∀ k, i ≤ k → k < E.vars.length → l.getD (E.vars.getD k 0).toNat 0 ∈ E.left.getD (E.vars.getD k 0).toNat [] ∧ (E.vars.getD k 0 = E.v → l.getD (E.vars.getD k 0).toNat 0 = E.value)) ∧ allowI E.rows E.vars l E.nt = true
def intsV (l : List Int) : Array Value := (l.map (Value.int .i64)).toArray
/-- What a call of stands leaves: it says true, if there is such a list; of s it writes what was not chosen ahead of i. -/
structure StPost (E : StEnv) (Sb n i : Nat) (s : List Int) (w : World) (e : Ending) (w' : World) : Prop where
  out : ∃ b s', e = .returned (.bool b) ∧ (E.Ex i s → b = true) ∧ s'.length = n ∧ Blk w' Sb (intsV s') 3 ∧ Fr (fun k => k = Sb) w w' ∧ ∀ k, k < i → k < E.vars.length → s'.getD (E.vars.getD k 0).toNat 0 = s.getD (E.vars.getD k 0).toNat 0

end Go.Proofs.Ytkjfpdfkcfgfkaa

/- Supported: what is left, as the statement sees it. -/
namespace Go.Proofs.Ytkjfpdfkcfgfkaa
open Go.RowKit

/-- What is left, as lists of numbers. -/
def leftOf (d : List Nat) (n : Nat) : List (List Int) := (List.range n).map (fun v => (vals (d.getD v 0)).map (fun (x : Nat) => (x : Int)))
/-- A list of all variables' values that has l0 at a table's variables. -/
def putAt (vars : List Int) (l0 : List Nat) (n : Nat) : List Int := (List.range n).map (fun (u : Nat) => ((l0.getD (vars.idxOf (u : Int)) 0 : Nat) : Int))
end Go.Proofs.Ytkjfpdfkcfgfkaa
