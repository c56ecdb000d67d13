/- Parts of the proof, number 6: contracts of the functions that the statement calls. -/
import Derived.Test.YtkjfpdfkcfgfkaaGreatM5
import Derived.Test.YtkjfpdfkcfgfkaaGreatM3
import Derived.Test.YtkjfpdfkcfgfkaaGreatM4

/- Pop of a trail. -/
namespace Go.Proofs.YtkjfpdfkcfgfkaaGreat
open Go.RowKit Go.Shelf
attribute [local go_sem] Oper.semAt_some

/-- While changes are put back: i of the level's are left. -/
def PopI (w : World) (X : Nat) (zs : List Int) (s : WS) (n Bx : Nat) (sv : Value) (i : Nat) (W : World) : Prop := ∃ d ts, (s.us.drop (n + i)).foldr Un.undo (s.d, s.ts.map Tab.t) = (d, ts.map Tab.t) ∧ SameT s.ts ts ∧ d.length = 8 ∧ WMem W X zs { s with d := d, ts := ts } ∧ Fr (SFr X s.ts (.slice none 0 0)) w W ∧ Blk W Bx #[sv] 62
theorem slice_low (ao : Option Addr) (m cap n : Nat) (hn : n ≤ m) (W : World) : (Instr.sliceAt 62 (.slice ao m cap) (some (.int .i64 (n : Int))) none none).run Tryz.prog W = .ok (sliced ao n m cap 1) W := by
  have hu : Tryz.prog.underlying 62 = some (.slice (Tryz.prog.elem 62)) := by kernel_rfl
  have he : Tryz.prog.elem 62 = 1 := by kernel_rfl
  have hz : (sizeOf 1).run Tryz.prog W = .ok 1 W := by kernel_rfl
  rw [run_sliceAt_slice _ _ _ _ _ _ hu]
  rw [run_slice_l _ _ _ _ _ hu _ _ (by omega) (by omega), he, hz]
  simp [Result.andThen]
theorem slice_highF (ao : Option Addr) (m cap n : Nat) (hn : n ≤ cap) (W : World) : (Instr.sliceAt 62 (.slice ao m cap) none (some (.int .i64 (n : Int))) none).run Tryz.prog W = .ok (sliced ao 0 n cap 1) W := by
  have hu : Tryz.prog.underlying 62 = some (.slice (Tryz.prog.elem 62)) := by kernel_rfl
  have he : Tryz.prog.elem 62 = 1 := by kernel_rfl
  have hz : (sizeOf 1).run Tryz.prog W = .ok 1 W := by kernel_rfl
  rw [run_sliceAt_slice _ _ _ _ _ _ hu]
  rw [run_slice_h _ _ _ _ _ hu _ _ (by omega) (by omega), he, hz]
  simp [Result.andThen]
theorem slice_highI (ao : Option Addr) (m cap n : Nat) (hn : n ≤ cap) (W : World) : (Instr.sliceAt 22 (.slice ao m cap) none (some (.int .i64 (n : Int))) none).run Tryz.prog W = .ok (sliced ao 0 n cap 1) W := by
  have hu : Tryz.prog.underlying 22 = some (.slice (Tryz.prog.elem 22)) := by kernel_rfl
  have he : Tryz.prog.elem 22 = 3 := by kernel_rfl
  have hz : (sizeOf 3).run Tryz.prog W = .ok 1 W := by kernel_rfl
  rw [run_sliceAt_slice _ _ _ _ _ _ hu]
  rw [run_slice_h _ _ _ _ _ hu _ _ (by omega) (by omega), he, hz]
  simp [Result.andThen]
theorem Row.capG {w : World} {ao : Option Addr} {m cap : Nat} {e : TypeId} {xs : List Value} (h : Row w (.slice ao m cap) e xs) : xs.length ≤ cap := by
  rcases h.2 with ⟨he, h0⟩ | ⟨g, cap', cur, he, _, _, hc, _⟩
  · omega
  · injection he with e1 e2 e3
    omega
theorem startsOf_cons (n : Nat) (p : List Nat × List TS) (r : List (Nat × List Nat × List TS)) : startsOf ((n, p) :: r) = startsOf r ++ [.int .i64 (n : Int)] := by simp [startsOf]
theorem startsOf_len (r : List (Nat × List Nat × List TS)) : (startsOf r).length = r.length := by simp [startsOf]

set_option maxHeartbeats 6400000 in
set_option maxRecDepth 1000000 in
theorem tpop_any (X : Nat) (zs : List Int) (s : WS) (n : Nat) (p : List Nat × List TS) (r : List (Nat × List Nat × List TS)) (w : World) (h : WMem w X zs s) (hd8 : s.d.length = 8) (hus : s.us.length ≤ 1000000) (hrl : r.length ≤ 100) (hsk : s.sk = (n, p) :: r) (hn : n ≤ s.us.length)
    (he : (s.us.drop n).foldr Un.undo (s.d, s.ts.map Tab.t) = p) :
    Calls Tryz.prog 83 #[.pointer (some ⟨X, 10, none⟩)] w fun e w' => e = .returned (.tuple #[]) ∧ ∃ ts bv sv, SameT s.ts ts ∧ ts.map Tab.t = p.2 ∧ p.1.length = 8 ∧
      WMem w' X zs { s with d := p.1, ts := ts, l := ⟨bv, sv, s.l.busy⟩, us := s.us.take n, sk := r } ∧ Fr (SFr X s.ts s.l.backs) w w' ∧ bv.ownBlock = s.l.backs.ownBlock ∧ sv.ownBlock = s.l.starts.ownBlock := by
  obtain ⟨bo, bcap, hbk, _⟩ := h.tr.backs.form
  rw [List.length_map] at hbk
  obtain ⟨so', sc, hst⟩ := startsOf_form h.tr
  rw [hsk, List.length_cons] at hst
  have hrb : Row w (.slice bo s.us.length bcap) 1 (s.us.map Un.val) := hbk ▸ h.tr.backs
  have hrs : Row w (.slice so' (r.length + 1) sc) 3 (startsOf r ++ [.int .i64 (n : Int)]) := by
    have := h.tr.starts
    rw [hst, hsk, startsOf_cons] at this
    exact this
  obtain ⟨ao', hsl, htail⟩ := hrb.tail n (by rw [List.length_map]; exact hn)
  obtain ⟨m, hm⟩ : ∃ m, ((s.us.map Un.val).drop n).length = m := ⟨_, rfl⟩
  have hml : m = s.us.length - n := by rw [← hm]; simp
  have Hml := hd hml
  clear hml
  have hbcap := hrb.capG
  rw [List.length_map] at hbcap
  have hscap := hrs.capG
  rw [List.length_append, startsOf_len] at hscap
  simp only [List.length_singleton] at hscap
  have hcb : w.cell? ⟨X, 10, none⟩ = some (.slice bo s.us.length bcap) := (h.blk.cell 10).trans ((workCells_backs _ _ _ _ hd8).trans (by rw [hbk]))
  have hcl : w.cell? ⟨X, 11, none⟩ = some (.slice so' (r.length + 1) sc) := (h.blk.cell 11).trans ((workCells_starts _ _ _ _ hd8).trans (by rw [hst]))
  obtain ⟨sb, sc2, hso, _, hci, _⟩ := hrs.cell r.length (by simp [startsOf])
  have hso2 : so' = some ⟨sb, 0, none⟩ := by injection hso
  subst hso2
  have hcN : w.cell? ⟨sb, r.length, none⟩ = some (.int .i64 (n : Int)) := by
    rw [hci]
    congr 1
    rw [List.getElem_append_right (by simp [startsOf])]
    simp [startsOf]
  have hsl2 := fun W => (slice_low bo s.us.length bcap n hn W).trans (by rw [hsl, hm])
  have hmf : ∀ (fn : Fn) (first cap : Array Value) (w : World), (Instr.makeFunc fn first cap).run Tryz.prog w = .ok (.func fn first cap) w := fun _ _ _ _ => rfl
  have hsub1 : ((r.length + 1 : Nat) : Int) - 1 = (r.length : Int) := by omega
  have hne0 : (((r.length + 1 : Nat) : Int) == 0) = false := by simp; omega
  have HH := hd h
  have Hbk := hd hbk
  have Hst := hd hst
  have Hsk := hd hsk
  have He := hd he
  have Hsl := hd hsl
  have Htail := hd htail
  have Hm := hd hm
  have Hrb := hd hrb
  have Hrs := hd hrs
  clear h hbk hst hsk he hsl htail hm hrb hrs hso hci
  refine (callsIn_wide (n := 9)).1 ?_
  refine callsIn_of_wp_marks Tryz.func83 rfl trivial ?_ rfl
  simp only [Tryz.ntmps83, List.size_toArray, List.length_cons, List.length_nil, Nat.reduceAdd, Nat.reduceSub, Array.replicate_succ, Array.replicate_zero, List.push_toArray, List.append_toArray, List.nil_append, List.cons_append]
  gi_wp2_with (first
    | (refine ⟨trivial, ?_⟩; gi_at_call 24; refine (callsIn_wide.2 (level_any X _ (r.length + 1) sc _ hcl)).mono ?_; rintro e w' ⟨rfl, rfl⟩)
    | (refine ⟨trivial, ?_⟩; gi_at_call 96; refine (callsIn_wide.2 (backward_any _ _ _ _)).mono ?_; rintro e w1 ⟨rfl, rfl⟩))
  have hal : Nw w' (w'.alloc (.cells #[.slice ao' m (bcap - n)] 62)) := (Fr.refl _ w').alloc _
  refine wp_backw (Bx := w'.heap.size) (ao := ao') (cap := bcap - n) (xs := (s.us.map Un.val).drop n) (by rw [Hm.out, Hml.out]; omega) rfl (by simp) (PopI w' X zs s n w'.heap.size (.slice ao' m (bcap - n))) ?bk ?rd ?start ?round ?done
  case bk =>
    rintro i A B ⟨d, ts, h1, h2, h3, h4, h5, h6⟩ hb
    exact ⟨d, ts, h1, h2, h3, h4.bk hb, h5.bk hb (by simp), h6.bk hb⟩
  case rd =>
    rintro i W ⟨d, ts, h1, h2, h3, h4, h5, h6⟩
    refine ⟨by rw [Hm.out]; exact h6.cell 0, fun j hj => ?_⟩
    have hrow := h4.tr.backs
    have hrow2 : Row W (.slice bo s.us.length bcap) 1 (s.us.map Un.val) := by rw [← Hbk.out]; exact hrow
    have hj2 : j < s.us.length - n := by simpa using hj
    rcases Htail.out with ⟨g, hg1, hg2, hg3⟩ | hg
    · subst hg1
      refine ⟨g, n, hg3, ?_⟩
      have hlt : n + j < s.us.length := by omega
      rw [(hrow2.at_ (n + j) (by simp; omega)).1]
      simp [List.getD, List.getElem?_drop, hlt]
    · rw [List.length_map] at hg
      omega
  case start =>
    have h1 : n + ((s.us.map Un.val).drop n).length = s.us.length := by rw [Hm.out, Hml.out]; omega
    refine ⟨s.d, s.ts, ?_, SameT.refl _, hd8, HH.out.nw hal, hal.mono (fun i h => h.elim), Blk.new _ _ _⟩
    rw [h1, List.drop_length]
    rfl
  case round =>
    rintro l i W hi ⟨d, ts, h1, h2, h3, h4, h5, h6⟩
    have hi2 : n + i < s.us.length := by simp at hi; omega
    obtain ⟨u, hu⟩ : ∃ u, s.us[n + i] = u := ⟨_, rfl⟩
    have hmem : u ∈ s.us := by rw [← hu]; exact List.getElem_mem hi2
    have hval : ((s.us.map Un.val).drop n).getD i undef = u.val := by simp [List.getD, List.getElem?_drop, hi2, hu]
    obtain ⟨fn, cs, hv, hcall⟩ := u.call
    rw [hval, hv]
    have hcalls := h4.undo h3 (u := u) hmem hv
    have hdrop : s.us.drop (n + i) = u :: s.us.drop (n + (i + 1)) := by
      rw [List.drop_eq_getElem_cons hi2, hu]
      rfl
    have Hcalls := hd hcalls
    have Hdrop := hd hdrop
    have H1 := hd h1
    have H2 := hd h2
    have H4 := hd h4
    have H5 := hd h5
    have H6 := hd h6
    have hWB := h5.size
    clear hcalls hdrop h1 h2 h4 h5 h6 hval hu hmem hv
    gi_wp2_with fail
    refine ⟨trivial, ?_⟩
    refine (CallsIn.inRound l (callsIn_wide.2 Hcalls.out)).mono ?_
    rintro e W' ⟨rfl, hf, d', ts', he', hs', hd', hM'⟩
    gi_wp2
    have o := H4.out.onlyS
    have o2 : Only W (SFr X ts (.slice none 0 0)) [66, 131, 125, 1] := o.mono (fun k hk => hk.elim .inl (fun h => h.elim (fun h => .inr (.inl h)) (fun h => by cases h))) (fun _ h => h)
    refine ⟨hf.keeps (fun k hk => ?_), d', ts', ?_, H2.out.trans hs', hd', hM', H5.out.trans hf (fun k hk => ?_), H6.out.frO hf o2 (by decide)⟩
    · rcases hk with rfl | ⟨j, hj, rfl⟩ | hk
      · exact ⟨_, _, H4.out.blk⟩
      · obtain ⟨cur, e, hb, _⟩ := (H4.out.tabs.at_ j hj).tyG
        exact ⟨_, _, hb⟩
      · cases hk
    · rw [Hdrop.out, List.foldr_cons, H1.out]
      exact he'
    · rcases hk with rfl | ⟨j, hj, rfl⟩ | hk
      · exact .inl (.inl rfl)
      · have hj' : j < s.ts.length := by rw [← H2.out.len]; exact hj
        exact .inl (.inr (.inl ⟨j, hj', (H2.out.at_ j hj').1⟩))
      · cases hk
  case done =>
    rintro D W hD ⟨d, ts, h1, h2, h3, h4, h5, h6⟩ hK
    have hp : p = (d, ts.map Tab.t) := by
      rw [← He.out, ← h1]
      rfl
    have hcb2 : W.cell? ⟨X, 10, none⟩ = some (.slice bo s.us.length bcap) := (h4.blk.cell 10).trans ((workCells_backs _ _ _ _ h3).trans (by rw [← Hbk.out]))
    have hrow2 : Row W (.slice bo s.us.length bcap) 1 (s.us.map Un.val) := by rw [← Hbk.out]; exact h4.tr.backs
    have hcl2 := fun ty => clear_tail ty hrow2 n (by rw [List.length_map]; exact hn) (Hsl.out.trans (by rw [Hm.out]))
    obtain ⟨W2, hclr, hf2, hr2⟩ := hcl2 0
    have hclr' : ∀ ty, (Builtin.clear_ #[62] ty #[.slice ao' m (bcap - n)]).run Tryz.prog W = .ok (.tuple #[]) W2 := fun ty => hclr
    have H1 := hd h1
    have H2 := hd h2
    have H4 := hd h4
    have H5 := hd h5
    have HK := hd hK
    have Hp := hd hp
    have Hf2 := hd hf2
    have Hr2 := hd hr2
    have Hrow2 := hd hrow2
    clear h1 h2 h4 h5 h6 hK hp hf2 hr2 hrow2 hclr hcl2 hcb hcl hcN
    gi_upto_region 7 with fail
    have hblk2 : Blk W2 X (workCells s.szv d (.slice s.so ts.length s.tcap) s.l) 66 := H4.out.blk.frO Hf2.out (Only.row Hrow2.out) (by decide)
    have hc10 : W2.cell? ⟨X, 10, none⟩ = some (.slice bo s.us.length bcap) := (hblk2.cell 10).trans ((workCells_backs _ _ _ _ h3).trans (by rw [← Hbk.out]))
    have hc11 : W2.cell? ⟨X, 11, none⟩ = some (.slice (some ⟨sb, 0, none⟩) (r.length + 1) sc) := (hblk2.cell 11).trans ((workCells_starts _ _ _ _ h3).trans (by rw [← Hst.out]))
    have hfz := hblk2.free
    have hsF := fun W => (slice_highF bo s.us.length bcap n (by omega) W).trans (by rw [Hr2.out.sliced0 n])
    have hsI := fun W => (slice_highI (some ⟨sb, 0, none⟩) (r.length + 1) sc r.length (by omega) W).trans (by rw [Hrs.out.sliced0 r.length])
    obtain ⟨bv, hbv⟩ : ∃ bv, Value.slice bo n bcap = bv := ⟨_, rfl⟩
    obtain ⟨sv, hsv⟩ : ∃ sv, Value.slice (some ⟨sb, 0, none⟩) r.length sc = sv := ⟨_, rfl⟩
    have hfz2 : Fr (fun k => k = X) W2 ((W2.drew.setCell ⟨X, 10, none⟩ (.slice bo n bcap)).setCell ⟨X, 11, none⟩ (.slice (some ⟨sb, 0, none⟩) r.length sc)) := (((Fr.refl (fun k => k = X) W2).drew).setCell _ _ (.inl rfl)).setCell _ _ (.inl rfl)
    have hoX : Only W2 (fun k => k = X) [66] := Only.one hblk2
    have hoB : Only W (fun k => (Value.slice bo s.us.length bcap).ownBlock = some k) [1] := Only.row Hrow2.out
    have hBZ : Blk ((W2.drew.setCell ⟨X, 10, none⟩ (.slice bo n bcap)).setCell ⟨X, 11, none⟩ (.slice (some ⟨sb, 0, none⟩) r.length sc)) X (workCells s.szv d (.slice s.so ts.length s.tcap) ⟨.slice bo n bcap, .slice (some ⟨sb, 0, none⟩) r.length sc, s.l.busy⟩) 66 := by
      have h5 := (hblk2.drew.set 10 (.slice bo n bcap)).set 11 (.slice (some ⟨sb, 0, none⟩) r.length sc)
      rw [workCells_setBacks _ _ _ _ h3, workCells_setStarts _ _ _ _ h3] at h5
      exact h5
    have hMZ : WMem ((W2.drew.setCell ⟨X, 10, none⟩ (.slice bo n bcap)).setCell ⟨X, 11, none⟩ (.slice (some ⟨sb, 0, none⟩) r.length sc)) X zs { s with d := d, ts := ts, l := ⟨.slice bo n bcap, .slice (some ⟨sb, 0, none⟩) r.length sc, s.l.busy⟩, us := s.us.take n, sk := r } := by
      refine ⟨hBZ, (H4.out.sz.frO Hf2.out hoB (by decide)).frO hfz2 hoX (by decide), H4.out.zok, (H4.out.tabs.frO Hf2.out hoB (by decide)).frO hfz2 hoX (by decide), H4.out.inj, H4.out.t12, H4.out.fits, H4.out.tbok, ⟨?_, ?_⟩, fun u hu => ((H4.out.un u (List.mem_of_mem_take hu)).frO Hf2.out hoB (by decide) (.inr (by decide))).frO hfz2 hoX (by decide) (.inr (by decide)), fun k hk => H4.out.apart k (by show s.l.starts.ownBlock = some k; rw [Hst.out]; exact hk)⟩
      · have h6 : Row W (.slice (some ⟨sb, 0, none⟩) (r.length + 1) sc) 3 (startsOf r ++ [.int .i64 (n : Int)]) := by
          have := H4.out.tr.starts
          have e1 : s.l.starts = .slice (some ⟨sb, 0, none⟩) (r.length + 1) sc := Hst.out
          have e2 : startsOf s.sk = startsOf r ++ [.int .i64 (n : Int)] := by rw [Hsk.out, startsOf_cons]
          simp only at this
          rw [e1, e2] at this
          exact this
        have h7 := ((h6.frO Hf2.out hoB (by decide)).frO hfz2 hoX (by decide)).take r.length (by simp [startsOf])
        rw [List.take_append_of_le_length (by simp [startsOf]), List.take_of_length_le (by simp [startsOf])] at h7
        exact h7
      · have h7 := Hr2.out.frO hfz2 hoX (by decide)
        rw [← List.map_take] at h7
        exact h7
    have hDW := lt_of_block HK.out
    have hKW2 : W2.heap[D]? = some (.deferred (some [])) := (Hf2.out.block D hDW (fun hs => by
      obtain ⟨cur, hb, _⟩ := Hrow2.out.blk hs
      have h' : W.heap[D]? = some (.cells cur 1 (0, 0)) := hb
      rw [HK.out] at h'
      cases h')).trans HK.out
    have hKZ : ((W2.drew.setCell ⟨X, 10, none⟩ (.slice bo n bcap)).setCell ⟨X, 11, none⟩ (.slice (some ⟨sb, 0, none⟩) r.length sc)).heap[D]? = some (.deferred (some [])) := (hfz2.block D (by have := Hf2.out.size; omega) (fun hs => by
      subst hs
      have h' : W2.heap[D]? = some (.cells _ 66 (0, 0)) := hblk2
      rw [hKW2] at h'
      cases h')).trans hKW2
    have hDl : w'.heap.size ≤ D := by have := hal.size; omega
    have HKZ := hd hKZ
    have Hfin : Hid (Ending.returned (.tuple #[]) = Ending.returned (.tuple #[]) ∧ ∃ ts bv sv, SameT s.ts ts ∧ ts.map Tab.t = p.2 ∧ p.1.length = 8 ∧
        WMem (((W2.drew.setCell ⟨X, 10, none⟩ (.slice bo n bcap)).setCell ⟨X, 11, none⟩ (.slice (some ⟨sb, 0, none⟩) r.length sc)).putObj D (.deferred none)) X zs { s with d := p.1, ts := ts, l := ⟨bv, sv, s.l.busy⟩, us := s.us.take n, sk := r } ∧ Fr (SFr X s.ts s.l.backs) w' (((W2.drew.setCell ⟨X, 10, none⟩ (.slice bo n bcap)).setCell ⟨X, 11, none⟩ (.slice (some ⟨sb, 0, none⟩) r.length sc)).putObj D (.deferred none)) ∧ bv.ownBlock = s.l.backs.ownBlock ∧ sv.ownBlock = s.l.starts.ownBlock) := by
      refine ⟨rfl, ts, .slice bo n bcap, .slice (some ⟨sb, 0, none⟩) r.length sc, H2.out, by rw [Hp.out], by rw [Hp.out]; exact h3, ?_, ?_, by rw [Hbk.out]; cases bo <;> rfl, by rw [Hst.out]; rfl⟩
      · rw [Hp.out]
        exact hMZ.bk (Bk.put (.deferred none) hDl hKZ rfl)
      · refine Fr.bk (lo := w'.heap.size) ?_ (Bk.put (.deferred none) hDl hKZ rfl) (Nat.le_refl _)
        refine ((H5.out.mono ?_).trans Hf2.out ?_).trans hfz2 ?_
        · rintro k (rfl | hk | hk)
          · exact .inl (.inl rfl)
          · exact .inl (.inr (.inl hk))
          · cases hk
        · intro k hk
          exact .inl (.inr (.inr (by rw [Hbk.out]; exact hk)))
        · rintro k rfl
          exact .inl (.inl rfl)
    clear hMZ hKZ hBZ hfz2 hoX hoB hKW2 hDW
    have Hblk2 := hd hblk2
    clear hblk2
    refine wpIn_wide.2 ?_
    refine wp_region_noPanic ?_
    refine wp_region_held (S := fun _ => True) (by kernel_rfl) ?_
    refine wpAnyH_take (i := 0) (v := .pointer (some ⟨X, 10, none⟩)) rfl (by kernel_rfl) (by kernel_rfl) (by kernel_rfl) (fun _ _ _ h => h) (.inl ⟨by kernel_rfl, fun w'' hS => by kernel_rfl⟩) trivial ?_
    refine wpAnyH_take (i := 1) (v := .pointer (some ⟨X, 10, none⟩)) rfl (by kernel_rfl) (by kernel_rfl) (by kernel_rfl) (fun _ _ _ h => h) (.inl ⟨by kernel_rfl, fun w'' hS => by kernel_rfl⟩) trivial ?_
    refine wpAnyH_take (i := 2) (v := .pointer (some ⟨X, 10, none⟩)) rfl (by kernel_rfl) (by kernel_rfl) (by kernel_rfl) (fun _ _ _ h => h) (.inl ⟨by kernel_rfl, fun w'' hS => by kernel_rfl⟩) trivial ?_
    refine wpAnyH_take (i := 3) (v := .pointer (some ⟨X, 10, none⟩)) rfl (by kernel_rfl) (by kernel_rfl) (by kernel_rfl) (fun _ _ _ h => h) (.inl ⟨by kernel_rfl, fun w'' hS => by kernel_rfl⟩) trivial ?_
    refine wpAnyH_take (i := 4) (v := .pointer (some ⟨X, 10, none⟩)) rfl (by kernel_rfl) (by kernel_rfl) (by kernel_rfl) (fun _ _ _ h => h) (.inl ⟨by kernel_rfl, fun w'' hS => by kernel_rfl⟩) trivial ?_
    refine wpAnyH_take (i := 6) (v := .int .i64 (n : Int)) rfl (by kernel_rfl) (by kernel_rfl) (by kernel_rfl) (fun _ _ _ h => h) (.inl ⟨by kernel_rfl, fun w'' hS => by kernel_rfl⟩) trivial ?_
    refine wpAnyH_take (i := 8) (v := .pointer (some ⟨X, 10, none⟩)) rfl (by kernel_rfl) (by kernel_rfl) (by kernel_rfl) (fun _ _ _ h => h) (.inl ⟨by kernel_rfl, fun w'' hS => by kernel_rfl⟩) trivial ?_
    refine wpAnyH_take (i := 9) (v := .pointer (some ⟨X, 10, none⟩)) rfl (by kernel_rfl) (by kernel_rfl) (by kernel_rfl) (fun _ _ _ h => h) (.inl ⟨by kernel_rfl, fun w'' hS => by kernel_rfl⟩) trivial ?_
    refine wpAnyH_take (i := 10) (v := .pointer (some ⟨X, 11, none⟩)) rfl (by kernel_rfl) (by kernel_rfl) (by kernel_rfl) (fun _ _ _ h => h) (.inl ⟨by kernel_rfl, fun w'' hS => by kernel_rfl⟩) trivial ?_
    refine wpAnyH_take (i := 12) (v := .int .i64 (r.length : Int)) rfl (by kernel_rfl) (by kernel_rfl) (by kernel_rfl) (fun _ _ _ h => h) (.inl ⟨by kernel_rfl, fun w'' hS => by kernel_rfl⟩) trivial ?_
    refine wpAnyH_all (rs := [5, 11]) (by kernel_rfl) (by simp) (fun i hi => ?_)
    rcases List.mem_cons.1 hi with rfl | hi
    · refine op_value (v := .slice bo s.us.length bcap) (w' := W2.drew) rfl (by kernel_rfl) ?_ ⟨trivial, ?_⟩
      · have hc : W2.drew.cell? ⟨X, 10, none⟩ = some (.slice bo s.us.length bcap) := hc10
        clear Hblk2 hcb2 hclr' hbv hsv hD hsl2 hmf hsub1 hne0 hc10 hc11 hfz hsF hsI
        simp only [Act.put, List.setIfInBounds_toArray, List.set_cons_zero, List.set_cons_succ, List.getElem_toArray, List.getElem_cons_zero, List.getElem_cons_succ]
        go_simp
      refine wpAnyH_take (i := 7) (v := .slice bo n bcap) rfl (by kernel_rfl) (by kernel_rfl) (by kernel_rfl) (fun _ _ _ h => h) (.inl ⟨by kernel_rfl, fun w'' hS => ?_⟩) trivial ?_
      · have hh := hsF w''
        clear Hblk2 hcb2 hclr' hbv hsv hD hsl2 hmf hsub1 hne0 hc10 hc11 hfz hsF hsI
        simp only [Act.put, List.setIfInBounds_toArray, List.set_cons_zero, List.set_cons_succ, List.getElem_toArray, List.getElem_cons_zero, List.getElem_cons_succ]
        go_simp
      refine wpAnyH_all (rs := [11]) (by kernel_rfl) (by simp) (fun i hi => ?_)
      obtain rfl : i = 11 := by simpa using hi
      refine op_value (v := .slice (some ⟨sb, 0, none⟩) (r.length + 1) sc) (w' := W2.drew) rfl (by kernel_rfl) ?_ ⟨trivial, ?_⟩
      · have hc : W2.drew.cell? ⟨X, 11, none⟩ = some (.slice (some ⟨sb, 0, none⟩) (r.length + 1) sc) := hc11
        clear Hblk2 hcb2 hclr' hbv hsv hD hsl2 hmf hsub1 hne0 hc10 hc11 hfz hsF hsI
        simp only [Act.put, List.setIfInBounds_toArray, List.set_cons_zero, List.set_cons_succ, List.getElem_toArray, List.getElem_cons_zero, List.getElem_cons_succ]
        go_simp
      refine wpAnyH_take (i := 13) (v := .slice (some ⟨sb, 0, none⟩) r.length sc) rfl (by kernel_rfl) (by kernel_rfl) (by kernel_rfl) (fun _ _ _ h => h) (.inl ⟨by kernel_rfl, fun w'' hS => ?_⟩) trivial ?_
      · have hh := hsI w''
        clear Hblk2 hcb2 hclr' hbv hsv hD hsl2 hmf hsub1 hne0 hc10 hc11 hfz hsF hsI
        simp only [Act.put, List.setIfInBounds_toArray, List.set_cons_zero, List.set_cons_succ, List.getElem_toArray, List.getElem_cons_zero, List.getElem_cons_succ]
        go_simp
      refine wpAnyH_all (rs := [14]) (by kernel_rfl) (by simp) (fun i hi => ?_)
      obtain rfl : i = 14 := by simpa using hi
      refine op_value (v := .pointer (some ⟨X, 10, none⟩)) (w' := W2.drew) rfl (by kernel_rfl) (by kernel_rfl) ⟨trivial, ?_⟩
      refine wpAnyH_all (rs := [15]) (by kernel_rfl) (by simp) (fun i hi => ?_)
      obtain rfl : i = 15 := by simpa using hi
      refine op_value (v := .pointer (some ⟨X, 10, none⟩)) (w' := W2.drew) rfl (by kernel_rfl) (by kernel_rfl) ⟨trivial, ?_⟩
      refine wpAnyH_all (rs := [16]) (by kernel_rfl) (by simp) (fun i hi => ?_)
      obtain rfl : i = 16 := by simpa using hi
      refine op_skip (w' := (W2.drew.setCell ⟨X, 10, none⟩ (.slice bo n bcap))) rfl (by kernel_rfl) ?_ ⟨trivial, ?_⟩
      · have hc : W2.drew.cell? ⟨X, 10, none⟩ = some (.slice bo s.us.length bcap) := hc10
        have hz : W2.drew.frozen? ⟨X, 10, none⟩ = false := hfz 10
        clear Hblk2 hcb2 hclr' hbv hsv hD hsl2 hmf hsub1 hne0 hc10 hc11 hfz hsF hsI
        simp only [Act.put, List.setIfInBounds_toArray, List.set_cons_zero, List.set_cons_succ, List.getElem_toArray, List.getElem_cons_zero, List.getElem_cons_succ]
        go_simp
      refine wpAnyH_all (rs := [17]) (by kernel_rfl) (by simp) (fun i hi => ?_)
      obtain rfl : i = 17 := by simpa using hi
      refine op_value (v := .pointer (some ⟨X, 10, none⟩)) (w' := (W2.drew.setCell ⟨X, 10, none⟩ (.slice bo n bcap))) rfl (by kernel_rfl) (by kernel_rfl) ⟨trivial, ?_⟩
      refine wpAnyH_all (rs := [18]) (by kernel_rfl) (by simp) (fun i hi => ?_)
      obtain rfl : i = 18 := by simpa using hi
      refine op_value (v := .pointer (some ⟨X, 11, none⟩)) (w' := (W2.drew.setCell ⟨X, 10, none⟩ (.slice bo n bcap))) rfl (by kernel_rfl) (by kernel_rfl) ⟨trivial, ?_⟩
      refine wpAnyH_all (rs := [19]) (by kernel_rfl) (by simp) (fun i hi => ?_)
      obtain rfl : i = 19 := by simpa using hi
      have hB1 : Blk (W2.drew.setCell ⟨X, 10, none⟩ (.slice bo n bcap)) X _ 66 := Hblk2.out.drew.set 10 (.slice bo n bcap)
      have hc19 : (W2.drew.setCell ⟨X, 10, none⟩ (.slice bo n bcap)).cell? ⟨X, 11, none⟩ = some (.slice (some ⟨sb, 0, none⟩) (r.length + 1) sc) := (hB1.cell 11).trans (by rw [workCells_setBacks _ _ _ _ h3]; exact (workCells_starts _ _ _ _ h3).trans (by rw [← Hst.out]))
      have hz19 := hB1.free 11
      have hz11 := hfz 11
      refine op_skip (w' := ((W2.drew.setCell ⟨X, 10, none⟩ (.slice bo n bcap)).setCell ⟨X, 11, none⟩ (.slice (some ⟨sb, 0, none⟩) r.length sc))) rfl (by kernel_rfl) ?_ ⟨trivial, wpAnyH_done (by kernel_rfl) ?_ _⟩
      · clear Hblk2 hcb2 hclr' hbv hsv hD hsl2 hmf hsub1 hne0 hc10 hfz hsF hsI hB1 hc19 hz19
        simp only [Act.put, List.setIfInBounds_toArray, List.set_cons_zero, List.set_cons_succ, List.getElem_toArray, List.getElem_cons_zero, List.getElem_cons_succ]
        go_simp
      simp only [Act.put, List.setIfInBounds_toArray, List.set_cons_zero, List.set_cons_succ, List.getElem_toArray, List.getElem_cons_zero, List.getElem_cons_succ]
      exact NoPanic.normal ⟨by simp, .inl ⟨_, _, rfl, run_takeDeferred HKZ.out, ⟨_, results_none rfl _ _ _, Hfin.out⟩⟩⟩
    · obtain rfl : i = 11 := by simpa using hi
      refine op_value (v := .slice (some ⟨sb, 0, none⟩) (r.length + 1) sc) (w' := W2.drew) rfl (by kernel_rfl) ?_ ⟨trivial, ?_⟩
      · have hc : W2.drew.cell? ⟨X, 11, none⟩ = some (.slice (some ⟨sb, 0, none⟩) (r.length + 1) sc) := hc11
        clear Hblk2 hcb2 hclr' hbv hsv hD hsl2 hmf hsub1 hne0 hc10 hc11 hfz hsF hsI
        simp only [Act.put, List.setIfInBounds_toArray, List.set_cons_zero, List.set_cons_succ, List.getElem_toArray, List.getElem_cons_zero, List.getElem_cons_succ]
        go_simp
      refine wpAnyH_take (i := 13) (v := .slice (some ⟨sb, 0, none⟩) r.length sc) rfl (by kernel_rfl) (by kernel_rfl) (by kernel_rfl) (fun _ _ _ h => h) (.inl ⟨by kernel_rfl, fun w'' hS => ?_⟩) trivial ?_
      · have hh := hsI w''
        clear Hblk2 hcb2 hclr' hbv hsv hD hsl2 hmf hsub1 hne0 hc10 hc11 hfz hsF hsI
        simp only [Act.put, List.setIfInBounds_toArray, List.set_cons_zero, List.set_cons_succ, List.getElem_toArray, List.getElem_cons_zero, List.getElem_cons_succ]
        go_simp
      refine wpAnyH_all (rs := [5]) (by kernel_rfl) (by simp) (fun i hi => ?_)
      obtain rfl : i = 5 := by simpa using hi
      refine op_value (v := .slice bo s.us.length bcap) (w' := W2.drew) rfl (by kernel_rfl) ?_ ⟨trivial, ?_⟩
      · have hc : W2.drew.cell? ⟨X, 10, none⟩ = some (.slice bo s.us.length bcap) := hc10
        clear Hblk2 hcb2 hclr' hbv hsv hD hsl2 hmf hsub1 hne0 hc10 hc11 hfz hsF hsI
        simp only [Act.put, List.setIfInBounds_toArray, List.set_cons_zero, List.set_cons_succ, List.getElem_toArray, List.getElem_cons_zero, List.getElem_cons_succ]
        go_simp
      refine wpAnyH_take (i := 7) (v := .slice bo n bcap) rfl (by kernel_rfl) (by kernel_rfl) (by kernel_rfl) (fun _ _ _ h => h) (.inl ⟨by kernel_rfl, fun w'' hS => ?_⟩) trivial ?_
      · have hh := hsF w''
        clear Hblk2 hcb2 hclr' hbv hsv hD hsl2 hmf hsub1 hne0 hc10 hc11 hfz hsF hsI
        simp only [Act.put, List.setIfInBounds_toArray, List.set_cons_zero, List.set_cons_succ, List.getElem_toArray, List.getElem_cons_zero, List.getElem_cons_succ]
        go_simp
      refine wpAnyH_all (rs := [14]) (by kernel_rfl) (by simp) (fun i hi => ?_)
      obtain rfl : i = 14 := by simpa using hi
      refine op_value (v := .pointer (some ⟨X, 10, none⟩)) (w' := W2.drew) rfl (by kernel_rfl) (by kernel_rfl) ⟨trivial, ?_⟩
      refine wpAnyH_all (rs := [15]) (by kernel_rfl) (by simp) (fun i hi => ?_)
      obtain rfl : i = 15 := by simpa using hi
      refine op_value (v := .pointer (some ⟨X, 10, none⟩)) (w' := W2.drew) rfl (by kernel_rfl) (by kernel_rfl) ⟨trivial, ?_⟩
      refine wpAnyH_all (rs := [16]) (by kernel_rfl) (by simp) (fun i hi => ?_)
      obtain rfl : i = 16 := by simpa using hi
      refine op_skip (w' := (W2.drew.setCell ⟨X, 10, none⟩ (.slice bo n bcap))) rfl (by kernel_rfl) ?_ ⟨trivial, ?_⟩
      · have hc : W2.drew.cell? ⟨X, 10, none⟩ = some (.slice bo s.us.length bcap) := hc10
        have hz : W2.drew.frozen? ⟨X, 10, none⟩ = false := hfz 10
        clear Hblk2 hcb2 hclr' hbv hsv hD hsl2 hmf hsub1 hne0 hc10 hc11 hfz hsF hsI
        simp only [Act.put, List.setIfInBounds_toArray, List.set_cons_zero, List.set_cons_succ, List.getElem_toArray, List.getElem_cons_zero, List.getElem_cons_succ]
        go_simp
      refine wpAnyH_all (rs := [17]) (by kernel_rfl) (by simp) (fun i hi => ?_)
      obtain rfl : i = 17 := by simpa using hi
      refine op_value (v := .pointer (some ⟨X, 10, none⟩)) (w' := (W2.drew.setCell ⟨X, 10, none⟩ (.slice bo n bcap))) rfl (by kernel_rfl) (by kernel_rfl) ⟨trivial, ?_⟩
      refine wpAnyH_all (rs := [18]) (by kernel_rfl) (by simp) (fun i hi => ?_)
      obtain rfl : i = 18 := by simpa using hi
      refine op_value (v := .pointer (some ⟨X, 11, none⟩)) (w' := (W2.drew.setCell ⟨X, 10, none⟩ (.slice bo n bcap))) rfl (by kernel_rfl) (by kernel_rfl) ⟨trivial, ?_⟩
      refine wpAnyH_all (rs := [19]) (by kernel_rfl) (by simp) (fun i hi => ?_)
      obtain rfl : i = 19 := by simpa using hi
      have hB1 : Blk (W2.drew.setCell ⟨X, 10, none⟩ (.slice bo n bcap)) X _ 66 := Hblk2.out.drew.set 10 (.slice bo n bcap)
      have hc19 : (W2.drew.setCell ⟨X, 10, none⟩ (.slice bo n bcap)).cell? ⟨X, 11, none⟩ = some (.slice (some ⟨sb, 0, none⟩) (r.length + 1) sc) := (hB1.cell 11).trans (by rw [workCells_setBacks _ _ _ _ h3]; exact (workCells_starts _ _ _ _ h3).trans (by rw [← Hst.out]))
      have hz19 := hB1.free 11
      have hz11 := hfz 11
      refine op_skip (w' := ((W2.drew.setCell ⟨X, 10, none⟩ (.slice bo n bcap)).setCell ⟨X, 11, none⟩ (.slice (some ⟨sb, 0, none⟩) r.length sc))) rfl (by kernel_rfl) ?_ ⟨trivial, wpAnyH_done (by kernel_rfl) ?_ _⟩
      · clear Hblk2 hcb2 hclr' hbv hsv hD hsl2 hmf hsub1 hne0 hc10 hfz hsF hsI hB1 hc19 hz19
        simp only [Act.put, List.setIfInBounds_toArray, List.set_cons_zero, List.set_cons_succ, List.getElem_toArray, List.getElem_cons_zero, List.getElem_cons_succ]
        go_simp
      simp only [Act.put, List.setIfInBounds_toArray, List.set_cons_zero, List.set_cons_succ, List.getElem_toArray, List.getElem_cons_zero, List.getElem_cons_succ]
      exact NoPanic.normal ⟨by simp, .inl ⟨_, _, rfl, run_takeDeferred HKZ.out, ⟨_, results_none rfl _ _ _, Hfin.out⟩⟩⟩
end Go.Proofs.YtkjfpdfkcfgfkaaGreat

/- Push and Pop of a Work. -/
namespace Go.Proofs.YtkjfpdfkcfgfkaaGreat
open Go.RowKit

set_option maxHeartbeats 1600000 in
set_option maxRecDepth 1000000 in
theorem wpush_no (X : Nat) (zs : List Int) (s : WS) (w : World) (h : WAt w X zs s) (hbz : s.l.busy = false) (h20 : s.sk.length = 20) :
    Calls Tryz.prog 61 #[.pointer (some ⟨X, 0, none⟩)] w fun e w' => e = .returned (.int .i64 2) ∧ w' = w := by
  have hd8 : s.d.length = 8 := h.good.dm.len
  obtain ⟨so', sc, hst⟩ := startsOf_form h.mem.tr
  rw [h20] at hst
  have hcb : w.cell? ⟨X, 12, none⟩ = some (.bool false) := (h.mem.blk.cell 12).trans ((workCells_busy _ _ _ _ hd8).trans (by rw [hbz]))
  have hcl : w.cell? ⟨X, 11, none⟩ = some (.slice so' 20 sc) := (h.mem.blk.cell 11).trans ((workCells_starts _ _ _ _ hd8).trans (by rw [hst]))
  clear h hst
  go_enter Tryz.func61, Tryz.ntmps61
  go_wp2_with (go_at_call 24; refine (level_any X so' 20 sc _ hcl).mono ?_; rintro e w' ⟨rfl, rfl⟩)
  go_ret
  exact ⟨rfl, rfl⟩
/-- The Work behind Push. -/
def WS.push (s : WS) (sv : Value) : WS := { s with l := ⟨s.l.backs, sv, s.l.busy⟩, sk := (s.us.length, s.d, s.ts.map Tab.t) :: s.sk }

set_option maxHeartbeats 1600000 in
set_option maxRecDepth 1000000 in
theorem wpush_yes (X : Nat) (zs : List Int) (s : WS) (w : World) (h : WAt w X zs s) (hbz : s.l.busy = false) (h20 : s.sk.length < 20) :
    Calls Tryz.prog 61 #[.pointer (some ⟨X, 0, none⟩)] w fun e w' => e = .returned (.int .i64 0) ∧ ∃ sv, WAt w' X zs (s.push sv) ∧ WStep w w' X s (s.push sv) := by
  have hd8 : s.d.length = 8 := h.good.dm.len
  obtain ⟨so', sc, hst⟩ := startsOf_form h.mem.tr
  obtain ⟨bo, bcap, hbk, _⟩ := h.mem.tr.backs.form
  rw [List.length_map] at hbk
  have hcb : w.cell? ⟨X, 12, none⟩ = some (.bool false) := (h.mem.blk.cell 12).trans ((workCells_busy _ _ _ _ hd8).trans (by rw [hbz]))
  have hcl : w.cell? ⟨X, 11, none⟩ = some (.slice so' s.sk.length sc) := (h.mem.blk.cell 11).trans ((workCells_starts _ _ _ _ hd8).trans (by rw [hst]))
  have hne : ((s.sk.length : Int) == 20) = false := by simp; omega
  have HH := hd h
  have Hbk := hd hbk
  clear h hst hbk
  go_enter Tryz.func61, Tryz.ntmps61
  go_wp2_with (first
    | (go_at_call 24; refine (level_any X so' s.sk.length sc _ hcl).mono ?_; rintro e w' ⟨rfl, rfl⟩)
    | (go_at_call 82; refine (push_any X s.szv s.d _ s.l bo s.us.length bcap (startsOf s.sk) _ HH.out.mem.blk hd8 Hbk.out HH.out.mem.tr.starts (by rw [startsOf_len]; omega)).mono ?_; rintro e w2 ⟨rfl, sv, hr, hf, hB, ho⟩))
  go_ret
  have o : Only w' (fun k => k = X ∨ s.l.starts.ownBlock = some k) [66, 3] := (Only.one HH.out.mem.blk).or (Only.row HH.out.mem.tr.starts)
  refine ⟨rfl, sv, ⟨⟨hB, ?_, HH.out.mem.zok, ?_, HH.out.mem.inj, HH.out.mem.t12, HH.out.mem.fits, HH.out.mem.tbok, ⟨?_, ?_⟩, ?_, ?_⟩, HH.out.good, HH.out.cnt, ?_, ?_⟩, ?_, ?_⟩
  · refine HH.out.mem.sz.fr hf (fun k hk => ?_)
    rintro (rfl | h)
    · exact HH.out.mem.sz.ne HH.out.mem.blk (by decide) hk
    · exact (HH.out.mem.apart k h).1 hk
  · refine ⟨HH.out.mem.tabs.row.frO hf o (by decide), fun i hi => (HH.out.mem.tabs.at_ i hi).fr hf ?_, HH.out.mem.tabs.four, HH.out.mem.tabs.ok⟩
    rintro k (hk | hk | hk) hs
    · obtain ⟨cur, e, hb, he⟩ := (HH.out.mem.tabs.at_ i hi).tyG
      rw [← hk] at hb
      have := o k cur e hs hb
      rcases he with rfl | rfl <;> (revert this; decide)
    · rcases hs with rfl | hs
      · obtain ⟨cur, hb⟩ := (HH.out.mem.tabs.at_ i hi).tyg
        rw [← hk] at hb
        have := (hb.inj HH.out.mem.blk).2
        revert this
        decide
      · exact (HH.out.mem.apart k hs).2 i hi hk.symm
    · obtain ⟨cur, hb⟩ := (HH.out.mem.tabs.at_ i hi).tyn hk
      have := o k cur _ hs hb
      revert this
      decide
  · show Row w2 sv 3 (startsOf ((s.us.length, s.d, s.ts.map Tab.t) :: s.sk))
    rw [startsOf_cons]
    exact hr
  · exact HH.out.mem.tr.backs.frO hf o (by decide)
  · exact fun u hu => (HH.out.mem.un u hu).frO hf o (by decide) (.inr (by decide))
  · intro k hk
    rcases ho k hk with h | h
    · exact HH.out.mem.apart k h
    · refine ⟨fun h' => ?_, fun i hi h' => ?_⟩
      · have := HH.out.mem.sz.lt h'
        omega
      · have := (HH.out.mem.tabs.at_ i hi).lt (.inr (.inl rfl))
        have h2 : (s.ts.getD i tab0).g = k := h'
        omega
  · refine ⟨Nat.le_refl _, ?_, HH.out.good, HH.out.cnt, ?_⟩
    · show (s.us.drop s.us.length).foldr _ _ = _
      rw [List.drop_length]
      rfl
    · show StackOk zs s.bs (s.us.take s.us.length) _ _
      rw [List.take_length]
      exact HH.out.sk
  · show s.sk.length + 1 ≤ 20
    omega
  · exact hf.mono (fun k hk => .inl (hk.elim .inl (fun h => .inr (.inr (.inr (.inr (.inr (.inl h))))))))
  · rintro k (rfl | hk' | hk' | hk' | hk' | hk' | hk')
    · exact .inl (.inl rfl)
    · exact .inl (.inr (.inl hk'))
    · exact .inl (.inr (.inr (.inl hk')))
    · exact .inl (.inr (.inr (.inr (.inl hk'))))
    · exact .inl (.inr (.inr (.inr (.inr (.inl hk')))))
    · exact (ho k hk').imp (fun h => .inr (.inr (.inr (.inr (.inr (.inl h)))))) id
    · exact .inl (.inr (.inr (.inr (.inr (.inr (.inr hk'))))))

set_option maxHeartbeats 1600000 in
set_option maxRecDepth 1000000 in
theorem wpop_no (X : Nat) (zs : List Int) (s : WS) (w : World) (h : WAt w X zs s) (hbz : s.l.busy = false) (h0 : s.sk = []) :
    Calls Tryz.prog 62 #[.pointer (some ⟨X, 0, none⟩)] w fun e w' => e = .returned (.int .i64 4) ∧ w' = w := by
  have hd8 : s.d.length = 8 := h.good.dm.len
  obtain ⟨so', sc, hst⟩ := startsOf_form h.mem.tr
  rw [h0] at hst
  have hst2 : s.l.starts = .slice so' 0 sc := hst
  have hcb : w.cell? ⟨X, 12, none⟩ = some (.bool false) := (h.mem.blk.cell 12).trans ((workCells_busy _ _ _ _ hd8).trans (by rw [hbz]))
  have hcl : w.cell? ⟨X, 11, none⟩ = some (.slice so' 0 sc) := (h.mem.blk.cell 11).trans ((workCells_starts _ _ _ _ hd8).trans (by rw [hst2]))
  clear h hst hst2
  go_enter Tryz.func62, Tryz.ntmps62
  go_wp2_with (go_at_call 24; refine (level_any X so' 0 sc _ hcl).mono ?_; rintro e w' ⟨rfl, rfl⟩)
  go_ret
  exact ⟨rfl, rfl⟩
/-- The Work behind Pop. -/
def WS.pop (s : WS) (n : Nat) (d : List Nat) (r : List (Nat × List Nat × List TS)) (ts : List Tab) (bv sv : Value) : WS := { s with d := d, ts := ts, l := ⟨bv, sv, s.l.busy⟩, us := s.us.take n, sk := r }

set_option maxHeartbeats 1600000 in
set_option maxRecDepth 1000000 in
theorem wpop_yes (X : Nat) (zs : List Int) (s : WS) (n : Nat) (p : List Nat × List TS) (r : List (Nat × List Nat × List TS)) (w : World) (h : WAt w X zs s) (hbz : s.l.busy = false) (hsk : s.sk = (n, p) :: r) :
    Calls Tryz.prog 62 #[.pointer (some ⟨X, 0, none⟩)] w fun e w' => e = .returned (.int .i64 0) ∧ ∃ ts bv sv, SameT s.ts ts ∧ ts.map Tab.t = p.2 ∧ WAt w' X zs (s.pop n p.1 r ts bv sv) ∧ WStep w w' X s (s.pop n p.1 r ts bv sv) := by
  have hd8 : s.d.length = 8 := h.good.dm.len
  obtain ⟨so', sc, hst⟩ := startsOf_form h.mem.tr
  rw [hsk, List.length_cons] at hst
  have hcb : w.cell? ⟨X, 12, none⟩ = some (.bool false) := (h.mem.blk.cell 12).trans ((workCells_busy _ _ _ _ hd8).trans (by rw [hbz]))
  have hcl : w.cell? ⟨X, 11, none⟩ = some (.slice so' (r.length + 1) sc) := (h.mem.blk.cell 11).trans ((workCells_starts _ _ _ _ hd8).trans (by rw [hst]))
  have hne : (((r.length + 1 : Nat) : Int) == 0) = false := by simp; omega
  have hsko := h.sk
  rw [hsk] at hsko
  obtain ⟨hn, he, hg, hc, hr⟩ := hsko
  have hl := h.lev
  rw [hsk, List.length_cons] at hl
  have hcn := h.cnt
  have HH := hd h
  have He := hd he
  have Hg := hd hg
  have Hr := hd hr
  have Hsk := hd hsk
  clear h hst he hg hr hsk
  go_enter Tryz.func62, Tryz.ntmps62
  go_wp2_with (first
    | (go_at_call 24; refine (level_any X so' (r.length + 1) sc _ hcl).mono ?_; rintro e w' ⟨rfl, rfl⟩)
    | (go_at_call 83; refine (tpop_any X zs s n p r _ HH.out.mem hd8 (by omega) (by omega) Hsk.out hn He.out).mono ?_; rintro e w2 ⟨rfl, ts, bv, sv, h1, h2, h3, h4, h5, h6, h7⟩))
  go_ret
  refine ⟨rfl, ts, bv, sv, h1, h2, ⟨h4, ?_, ?_, ?_, ?_⟩, ?_, ?_⟩
  · show Good zs s.bs p.1 (ts.map Tab.t)
    rw [h2]
    exact Hg.out
  · show (s.us.take n).length + 900 * bitsOf p.1 ≤ 57600
    rw [List.length_take, Nat.min_eq_left hn]
    exact hc
  · show StackOk zs s.bs (s.us.take n) (p.1, ts.map Tab.t) r
    rw [h2]
    exact Hr.out
  · show r.length ≤ 20
    omega
  · refine h5.mono ?_
    rintro i (rfl | ⟨j, hj, rfl⟩ | hi)
    · exact .inl (.inl rfl)
    · exact .inl (.inr (.inr (.inr (.inl ⟨j, hj, .inl rfl⟩))))
    · exact .inl (.inr (.inr (.inr (.inr (.inl hi)))))
  · rintro k (rfl | hk' | hk' | ⟨i, hi, hk'⟩ | hk' | hk' | ⟨u, hu, hk'⟩)
    · exact .inl (.inl rfl)
    · exact .inl (.inr (.inl hk'))
    · refine .inl (.inr (.inr (.inl ?_)))
      have hk2 : (Value.slice s.so ts.length s.tcap).ownBlock = some k := hk'
      rw [h1.len] at hk2
      exact hk2
    · have hi' : i < s.ts.length := by rw [← h1.len]; exact hi
      have hk2 : k = (ts.getD i tab0).G ∨ k = (ts.getD i tab0).g := hk'
      rw [(h1.at_ i hi').1, (h1.at_ i hi').2.1] at hk2
      exact .inl (.inr (.inr (.inr (.inl ⟨i, hi', hk2⟩))))
    · exact .inl (.inr (.inr (.inr (.inr (.inl (h6 ▸ hk'))))))
    · exact .inl (.inr (.inr (.inr (.inr (.inr (.inl (h7 ▸ hk')))))))
    · exact .inl (.inr (.inr (.inr (.inr (.inr (.inr ⟨u, List.mem_of_mem_take hu, hk'⟩))))))
end Go.Proofs.YtkjfpdfkcfgfkaaGreat

/- Look. -/
namespace Go.Proofs.YtkjfpdfkcfgfkaaGreat
open Go.RowKit

/-- Sums over the first k domains. -/
def leftTo (d : List Nat) (k : Nat) : Nat := ((List.range k).map (fun q => pop (d.getD q 0))).foldl (· + ·) 0
def fixTo (d : List Nat) (k : Nat) : Nat := ((List.range k).filter (fun q => pop (d.getD q 0) == 1)).length
theorem leftTo_succ (d : List Nat) (k : Nat) : leftTo d (k + 1) = leftTo d k + pop (d.getD k 0) := by simp [leftTo, List.range_succ]
theorem fixTo_succ (d : List Nat) (k : Nat) : fixTo d (k + 1) = fixTo d k + if pop (d.getD k 0) = 1 then 1 else 0 := by
  simp only [fixTo, List.range_succ, List.filter_append, List.length_append]
  by_cases h : pop (d.getD k 0) = 1
  · rw [if_pos h, List.filter_cons_of_pos (by simpa using h)]
    simp
  · rw [if_neg h, List.filter_cons_of_neg (by simpa using h)]
    simp
theorem pop_le8 (s : Nat) : pop s ≤ 8 := by unfold pop; exact Nat.le_trans (List.length_filter_le _ _) (by simp)
theorem leftTo_le (d : List Nat) : ∀ k, leftTo d k ≤ 8 * k
  | 0 => by simp [leftTo]
  | k + 1 => by
    rw [leftTo_succ]
    have := leftTo_le d k
    have := pop_le8 (d.getD k 0)
    omega
theorem fixTo_le (d : List Nat) (k : Nat) : fixTo d k ≤ k := by
  unfold fixTo
  have := List.length_filter_le (fun q => pop (d.getD q 0) == 1) (List.range k)
  simpa using this
theorem index8 (d : List Nat) (h8 : d.length = 8) (k : Nat) (hk : k < 8) (W : World) : (Instr.index 60 (.agg (domV d)) (.int .i64 (k : Int))).run Tryz.prog W = .ok (.int .u8 ((d.getD k 0 : Nat) : Int)) W := by
  obtain ⟨d0, d1, d2, d3, d4, d5, d6, d7, rfl⟩ := list8 h8
  have hc : k = 0 ∨ k = 1 ∨ k = 2 ∨ k = 3 ∨ k = 4 ∨ k = 5 ∨ k = 6 ∨ k = 7 := by omega
  rcases hc with rfl | rfl | rfl | rfl | rfl | rfl | rfl | rfl <;> (show (Instr.index _ _ _).run Tryz.prog W = _; kernel_rfl)
/-- What Look tells. -/
def lookV (zs : List Int) (s : WS) : Array Value := #[.int .i64 (zs.length : Int), .int .i64 (s.ts.length : Int), .int .i64 (s.sk.length : Int), .bool (s.d.getD 0 0 == 0), .int .i64 (leftTo s.d 8 : Int), .int .i64 (fixTo s.d 8 : Int)]
def lookZ : Array Value := #[.int .i64 0, .int .i64 0, .int .i64 0, .bool false, .int .i64 0, .int .i64 0]

set_option maxHeartbeats 1600000 in
set_option maxRecDepth 1000000 in
theorem look_any (X : Nat) (zs : List Int) (s : WS) (w : World) (h : WAt w X zs s) (hbz : s.l.busy = false) :
    Calls Tryz.prog 59 #[.pointer (some ⟨X, 0, none⟩)] w fun e w' => e = .returned (.agg (lookV zs s)) ∧ Nw w w' := by
  obtain ⟨hz0, hzl⟩ := okSizes_len h.mem.zok
  have hd8 : s.d.length = 8 := h.good.dm.len
  obtain ⟨v0, v1, v2, v3, v4, v5, v6, v7, hdv⟩ := domV8 hd8
  obtain ⟨⟨x0, rfl⟩, ⟨x1, rfl⟩, ⟨x2, rfl⟩, ⟨x3, rfl⟩, ⟨x4, rfl⟩, ⟨x5, rfl⟩, ⟨x6, rfl⟩, ⟨x7, rfl⟩⟩ := domV_one s.d hdv
  obtain ⟨so', sc, hst⟩ := startsOf_form h.mem.tr
  obtain ⟨sa, scap, hszv, _⟩ := h.mem.sz.form
  simp only [List.length_map] at hszv
  obtain ⟨W, hW⟩ : ∃ W, W = w.alloc (.cells lookZ 110) := ⟨_, rfl⟩
  have hfW : Nw w W := by rw [hW]; exact (Fr.refl _ w).alloc _
  have hbR : Blk W w.heap.size lookZ 110 := by rw [hW]; exact Blk.new _ _ _
  have hM := h.mem.nw hfW
  have hcb : W.cell? ⟨X, 12, none⟩ = some (.bool false) := (hM.blk.cell 12).trans ((workCells_busy _ _ _ _ hd8).trans (by rw [hbz]))
  have hXlt := h.mem.blk.lt
  have HM := hd hM
  have HH := hd h
  have Hdv := hd hdv
  have Hst := hd hst
  have Hszv := hd hszv
  have HW := hd hW
  have HfW := hd hfW
  have HbR := hd hbR
  clear h hdv hst hszv hW hfW hbR hM
  obtain ⟨dead, hdead⟩ : ∃ b, (s.d.getD 0 0 == 0) = b := ⟨_, rfl⟩
  have Hdead := hd hdead
  clear hdead
  go_enter Tryz.func59, Tryz.ntmps59
  go_upto_region 1 with fail
  rw [show w.alloc (Obj.cells #[Value.int .i64 0, .int .i64 0, .int .i64 0, .bool false, .int .i64 0, .int .i64 0] 110) = W from HW.out.symm]
  go_upto_region 3 with fail
  go_cut [3] (fun p wx => ∃ L, p = .pointer (some ⟨L, 0, none⟩) ∧ Hid (Blk wx L #[.int .i64 (zs.length : Int), .int .i64 (s.ts.length : Int), .int .i64 (s.sk.length : Int), .bool dead, .int .i64 0, .int .i64 0] 110) ∧ Hid (Nw W wx) ∧ w.heap.size < L)
  case first =>
    have HMd : Hid (WMem W.drew X zs s) := HM.out.nw ((Fr.refl _ W).drew)
    have hK0 : WMem W.drew X zs s := HMd.out
    refine wp_region_held (S := fun w' => WMem w' X zs s) (by kernel_rfl) ?_
    refine wpAnyH_take (i := 0) (v := .pointer (some ⟨X, 0, none⟩)) rfl (by kernel_rfl) (by kernel_rfl) (by kernel_rfl) (fun _ _ _ h => h) (.inl ⟨by kernel_rfl, fun w'' hS => by kernel_rfl⟩) hK0 ?_
    refine wpAnyH_take (i := 1) (v := .pointer (some ⟨X, 0, none⟩)) rfl (by kernel_rfl) (by kernel_rfl) (by kernel_rfl) (fun _ _ _ h => h) (.inl ⟨by kernel_rfl, fun w'' hS => by kernel_rfl⟩) hK0 ?_
    refine wpAnyH_take (i := 2) (v := .pointer (some ⟨X, 0, none⟩)) rfl (by kernel_rfl) (by kernel_rfl) (by kernel_rfl) (fun _ _ _ h => h) (.inl ⟨by kernel_rfl, fun w'' hS => by kernel_rfl⟩) hK0 ?_
    refine wpAnyH_take (i := 3) (v := .slice sa zs.length scap) rfl (by kernel_rfl) (by kernel_rfl) (by kernel_rfl) (fun _ _ _ h => h) (.inl ⟨by kernel_rfl, fun w'' hS => ?_⟩) hK0 ?_
    · have hc : w''.cell? ⟨X, 0, none⟩ = some (.slice sa zs.length scap) := (hS.blk.cell 0).trans ((workCells_sz ..).trans (by rw [Hszv.out]))
      clear hS hK0 hcb
      simp only [Act.put, List.setIfInBounds_toArray, List.set_cons_zero, List.set_cons_succ, List.getElem_toArray, List.getElem_cons_zero, List.getElem_cons_succ]
      go_simp
    refine wpAnyH_take (i := 4) (v := .int .i64 (zs.length : Int)) rfl (by kernel_rfl) (by kernel_rfl) (by kernel_rfl) (fun _ _ _ h => h) (.inl ⟨by kernel_rfl, fun w'' hS => ?_⟩) hK0 ?_
    · skip
      clear hS hK0 hcb
      simp only [Act.put, List.setIfInBounds_toArray, List.set_cons_zero, List.set_cons_succ, List.getElem_toArray, List.getElem_cons_zero, List.getElem_cons_succ]
      go_simp
    refine wpAnyH_take (i := 5) (v := .pointer (some ⟨X, 0, none⟩)) rfl (by kernel_rfl) (by kernel_rfl) (by kernel_rfl) (fun _ _ _ h => h) (.inl ⟨by kernel_rfl, fun w'' hS => by kernel_rfl⟩) hK0 ?_
    refine wpAnyH_take (i := 6) (v := .pointer (some ⟨X, 0, none⟩)) rfl (by kernel_rfl) (by kernel_rfl) (by kernel_rfl) (fun _ _ _ h => h) (.inl ⟨by kernel_rfl, fun w'' hS => by kernel_rfl⟩) hK0 ?_
    refine wpAnyH_take (i := 7) (v := .pointer (some ⟨X, 9, none⟩)) rfl (by kernel_rfl) (by kernel_rfl) (by kernel_rfl) (fun _ _ _ h => h) (.inl ⟨by kernel_rfl, fun w'' hS => by kernel_rfl⟩) hK0 ?_
    refine wpAnyH_take (i := 8) (v := .slice s.so s.ts.length s.tcap) rfl (by kernel_rfl) (by kernel_rfl) (by kernel_rfl) (fun _ _ _ h => h) (.inl ⟨by kernel_rfl, fun w'' hS => ?_⟩) hK0 ?_
    · have hc : w''.cell? ⟨X, 9, none⟩ = some (.slice s.so s.ts.length s.tcap) := (hS.blk.cell 9).trans (workCells_tabs _ _ _ _ hd8)
      clear hS hK0 hcb
      simp only [Act.put, List.setIfInBounds_toArray, List.set_cons_zero, List.set_cons_succ, List.getElem_toArray, List.getElem_cons_zero, List.getElem_cons_succ]
      go_simp
    refine wpAnyH_take (i := 9) (v := .int .i64 (s.ts.length : Int)) rfl (by kernel_rfl) (by kernel_rfl) (by kernel_rfl) (fun _ _ _ h => h) (.inl ⟨by kernel_rfl, fun w'' hS => ?_⟩) hK0 ?_
    · skip
      clear hS hK0 hcb
      simp only [Act.put, List.setIfInBounds_toArray, List.set_cons_zero, List.set_cons_succ, List.getElem_toArray, List.getElem_cons_zero, List.getElem_cons_succ]
      go_simp
    refine wpAnyH_take (i := 10) (v := .pointer (some ⟨X, 0, none⟩)) rfl (by kernel_rfl) (by kernel_rfl) (by kernel_rfl) (fun _ _ _ h => h) (.inl ⟨by kernel_rfl, fun w'' hS => by kernel_rfl⟩) hK0 ?_
    refine wpAnyH_take (i := 11) (v := .pointer (some ⟨X, 0, none⟩)) rfl (by kernel_rfl) (by kernel_rfl) (by kernel_rfl) (fun _ _ _ h => h) (.inl ⟨by kernel_rfl, fun w'' hS => by kernel_rfl⟩) hK0 ?_
    refine wpAnyH_take (i := 12) (v := .pointer (some ⟨X, 10, none⟩)) rfl (by kernel_rfl) (by kernel_rfl) (by kernel_rfl) (fun _ _ _ h => h) (.inl ⟨by kernel_rfl, fun w'' hS => by kernel_rfl⟩) hK0 ?_
    refine wpAnyH_take (i := 14) (v := .pointer (some ⟨X, 0, none⟩)) rfl (by kernel_rfl) (by kernel_rfl) (by kernel_rfl) (fun _ _ _ h => h) (.inl ⟨by kernel_rfl, fun w'' hS => by kernel_rfl⟩) hK0 ?_
    obtain ⟨Y, hY⟩ : ∃ Y, Y = W.drew.alloc (.cells lookZ 110) := ⟨_, rfl⟩
    have hfY : Nw W Y := by rw [hY]; exact ((Fr.refl _ W).drew).alloc _
    have hZ : Blk Y W.heap.size lookZ 110 := by rw [hY]; exact Blk.new _ _ _
    have HY := hd hY
    have HMY := hd (HM.out.nw hfY)
    have hF8 : Nw W ((((((Y.setCell ⟨W.heap.size, 0, none⟩ (.int .i64 (zs.length : Int))).setCell ⟨W.heap.size, 1, none⟩ (.int .i64 (s.ts.length : Int))).setCell ⟨W.heap.size, 2, none⟩ (.int .i64 (s.sk.length : Int))).setCell ⟨W.heap.size, 3, none⟩ (.bool dead)).setCell ⟨W.heap.size, 4, none⟩ (.int .i64 0)).setCell ⟨W.heap.size, 5, none⟩ (.int .i64 0)) := (((((hfY.setCell _ _ (.inr (Nat.le_refl _))).setCell _ _ (.inr (Nat.le_refl _))).setCell _ _ (.inr (Nat.le_refl _))).setCell _ _ (.inr (Nat.le_refl _))).setCell _ _ (.inr (Nat.le_refl _))).setCell _ _ (.inr (Nat.le_refl _))
    have HF8 := hd hF8
    have HM8 := hd (HM.out.nw hF8)
    have HB8 : Hid (Blk ((((((Y.setCell ⟨W.heap.size, 0, none⟩ (.int .i64 (zs.length : Int))).setCell ⟨W.heap.size, 1, none⟩ (.int .i64 (s.ts.length : Int))).setCell ⟨W.heap.size, 2, none⟩ (.int .i64 (s.sk.length : Int))).setCell ⟨W.heap.size, 3, none⟩ (.bool dead)).setCell ⟨W.heap.size, 4, none⟩ (.int .i64 0)).setCell ⟨W.heap.size, 5, none⟩ (.int .i64 0)) W.heap.size #[.int .i64 (zs.length : Int), .int .i64 (s.ts.length : Int), .int .i64 (s.sk.length : Int), .bool dead, .int .i64 0, .int .i64 0] 110) := (((((hZ.set 0 _).set 1 _).set 2 _).set 3 _).set 4 _).set 5 _
    have q0 : Y.cell? ⟨W.heap.size, 0, none⟩ = some (.int .i64 0) := hZ.cell 0
    have q1 : Y.cell? ⟨W.heap.size, 1, none⟩ = some (.int .i64 0) := hZ.cell 1
    have q2 : Y.cell? ⟨W.heap.size, 2, none⟩ = some (.int .i64 0) := hZ.cell 2
    have q3 : Y.cell? ⟨W.heap.size, 3, none⟩ = some (.bool false) := hZ.cell 3
    have q4 : Y.cell? ⟨W.heap.size, 4, none⟩ = some (.int .i64 0) := hZ.cell 4
    have q5 : Y.cell? ⟨W.heap.size, 5, none⟩ = some (.int .i64 0) := hZ.cell 5
    have hfz := hZ.free
    clear hY hfY hZ hF8
    refine wpAnyH_all (rs := [13, 17]) (by kernel_rfl) (by simp) (fun i hi => ?_)
    rcases List.mem_cons.1 hi with rfl | hi
    · refine op_enter (f := 24) (args := #[.pointer (some ⟨X, 10, none⟩)]) (w' := W.drew) rfl (by kernel_rfl) (by kernel_rfl) ?_
      refine (level_any X so' s.sk.length sc _ ((HMd.out.blk.cell 11).trans ((workCells_starts _ _ _ _ hd8).trans (by rw [Hst.out])))).mono ?_
      rintro e w' ⟨rfl, rfl⟩
      refine ⟨_, rfl, HMd.out, ?_⟩
      refine wpAnyH_all (rs := [15, 17]) (by kernel_rfl) (by simp) (fun i hi => ?_)
      rcases List.mem_cons.1 hi with rfl | hi
      · refine op_enter (f := 25) (args := #[.pointer (some ⟨X, 0, none⟩)]) (w' := W.drew) rfl (by kernel_rfl) (by kernel_rfl) ?_
        refine (dead_any X _ s.d _ s.l _ HMd.out.blk hd8).mono ?_
        rw [Hdead.out]
        rintro e w' ⟨rfl, rfl⟩
        refine ⟨_, rfl, HMd.out, ?_⟩
        refine wpAnyH_take (i := 16) (v := .agg #[.int .i64 (zs.length : Int), .int .i64 (s.ts.length : Int), .int .i64 (s.sk.length : Int), .bool dead, .int .i64 0, .int .i64 0]) rfl (by kernel_rfl) (by kernel_rfl) (by kernel_rfl) (fun _ _ _ h => h) (.inl ⟨by kernel_rfl, fun w'' hS => by kernel_rfl⟩) HMd.out ?_
        refine wpAnyH_all (rs := [17]) (by kernel_rfl) (by simp) (fun i hi => ?_)
        obtain rfl : i = 17 := by simpa using hi
        refine op_value (v := .pointer (some ⟨W.heap.size, 0, none⟩)) (w' := Y) rfl (by kernel_rfl) ?_ ⟨HMY.out, ?_⟩
        · rw [HY.out]
          kernel_rfl
        refine wpAnyH_all (rs := [18]) (by kernel_rfl) (by simp) (fun i hi => ?_)
        obtain rfl : i = 18 := by simpa using hi
        refine op_skip (w' := _) rfl (by kernel_rfl) ?_ ⟨HM8.out, wpAnyH_done (by kernel_rfl) ?_ _⟩
        · clear hK0 hcb
          simp only [Act.put, List.setIfInBounds_toArray, List.set_cons_zero, List.set_cons_succ, List.getElem_toArray, List.getElem_cons_zero, List.getElem_cons_succ]
          go_simp
        simp only [Act.put, List.setIfInBounds_toArray, List.set_cons_zero, List.set_cons_succ, List.getElem_toArray, List.getElem_cons_zero, List.getElem_cons_succ]
        go_wp2_with fail
        go_meet
        case rel => exact ⟨W.heap.size, rfl, HB8.out, HF8.out, by have := HbR.out.lt; omega⟩
      · obtain rfl : i = 17 := by simpa using hi
        refine op_value (v := .pointer (some ⟨W.heap.size, 0, none⟩)) (w' := Y) rfl (by kernel_rfl) ?_ ⟨HMY.out, ?_⟩
        · rw [HY.out]
          kernel_rfl
        refine wpAnyH_all (rs := [15]) (by kernel_rfl) (by simp) (fun i hi => ?_)
        obtain rfl : i = 15 := by simpa using hi
        refine op_enter (f := 25) (args := #[.pointer (some ⟨X, 0, none⟩)]) (w' := Y) rfl (by kernel_rfl) (by kernel_rfl) ?_
        refine (dead_any X _ s.d _ s.l _ HMY.out.blk hd8).mono ?_
        rw [Hdead.out]
        rintro e w' ⟨rfl, hw'⟩
        rw [hw']
        refine ⟨_, rfl, HMY.out, ?_⟩
        refine wpAnyH_take (i := 16) (v := .agg #[.int .i64 (zs.length : Int), .int .i64 (s.ts.length : Int), .int .i64 (s.sk.length : Int), .bool dead, .int .i64 0, .int .i64 0]) rfl (by kernel_rfl) (by kernel_rfl) (by kernel_rfl) (fun _ _ _ h => h) (.inl ⟨by kernel_rfl, fun w'' hS => by kernel_rfl⟩) HMY.out ?_
        refine wpAnyH_all (rs := [18]) (by kernel_rfl) (by simp) (fun i hi => ?_)
        obtain rfl : i = 18 := by simpa using hi
        refine op_skip (w' := _) rfl (by kernel_rfl) ?_ ⟨HM8.out, wpAnyH_done (by kernel_rfl) ?_ _⟩
        · clear hK0 hcb
          simp only [Act.put, List.setIfInBounds_toArray, List.set_cons_zero, List.set_cons_succ, List.getElem_toArray, List.getElem_cons_zero, List.getElem_cons_succ]
          go_simp
        simp only [Act.put, List.setIfInBounds_toArray, List.set_cons_zero, List.set_cons_succ, List.getElem_toArray, List.getElem_cons_zero, List.getElem_cons_succ]
        go_wp2_with fail
        go_meet
        case rel => exact ⟨W.heap.size, rfl, HB8.out, HF8.out, by have := HbR.out.lt; omega⟩
    · obtain rfl : i = 17 := by simpa using hi
      refine op_value (v := .pointer (some ⟨W.heap.size, 0, none⟩)) (w' := Y) rfl (by kernel_rfl) ?_ ⟨HMY.out, ?_⟩
      · rw [HY.out]
        kernel_rfl
      refine wpAnyH_all (rs := [13]) (by kernel_rfl) (by simp) (fun i hi => ?_)
      obtain rfl : i = 13 := by simpa using hi
      refine op_enter (f := 24) (args := #[.pointer (some ⟨X, 10, none⟩)]) (w' := Y) rfl (by kernel_rfl) (by kernel_rfl) ?_
      refine (level_any X so' s.sk.length sc _ ((HMY.out.blk.cell 11).trans ((workCells_starts _ _ _ _ hd8).trans (by rw [Hst.out])))).mono ?_
      rintro e w' ⟨rfl, hw'⟩
      rw [hw']
      refine ⟨_, rfl, HMY.out, ?_⟩
      refine wpAnyH_all (rs := [15]) (by kernel_rfl) (by simp) (fun i hi => ?_)
      obtain rfl : i = 15 := by simpa using hi
      refine op_enter (f := 25) (args := #[.pointer (some ⟨X, 0, none⟩)]) (w' := Y) rfl (by kernel_rfl) (by kernel_rfl) ?_
      refine (dead_any X _ s.d _ s.l _ HMY.out.blk hd8).mono ?_
      rw [Hdead.out]
      rintro e w' ⟨rfl, hw'⟩
      rw [hw']
      refine ⟨_, rfl, HMY.out, ?_⟩
      refine wpAnyH_take (i := 16) (v := .agg #[.int .i64 (zs.length : Int), .int .i64 (s.ts.length : Int), .int .i64 (s.sk.length : Int), .bool dead, .int .i64 0, .int .i64 0]) rfl (by kernel_rfl) (by kernel_rfl) (by kernel_rfl) (fun _ _ _ h => h) (.inl ⟨by kernel_rfl, fun w'' hS => by kernel_rfl⟩) HMY.out ?_
      refine wpAnyH_all (rs := [18]) (by kernel_rfl) (by simp) (fun i hi => ?_)
      obtain rfl : i = 18 := by simpa using hi
      refine op_skip (w' := _) rfl (by kernel_rfl) ?_ ⟨HM8.out, wpAnyH_done (by kernel_rfl) ?_ _⟩
      · clear hK0 hcb
        simp only [Act.put, List.setIfInBounds_toArray, List.set_cons_zero, List.set_cons_succ, List.getElem_toArray, List.getElem_cons_zero, List.getElem_cons_succ]
        go_simp
      simp only [Act.put, List.setIfInBounds_toArray, List.set_cons_zero, List.set_cons_succ, List.getElem_toArray, List.getElem_cons_zero, List.getElem_cons_succ]
      go_wp2_with fail
      go_meet
      case rel => exact ⟨W.heap.size, rfl, HB8.out, HF8.out, by have := HbR.out.lt; omega⟩
  case rest =>
    obtain ⟨L, rfl, HB, HF, hL⟩ := hcut
    have hMc := HM.out.nw HF.out
    obtain ⟨c0, c1, c2, c3, c4, c5, c6, c7⟩ := work8 hMc.blk Hdv.out
    have HMc := hd hMc
    have HRc := hd (HbR.out.nw HF.out)
    clear hMc hcb
    go_wp2_with fail
    rw [← Hdv.out]
    have hL0 : w.heap.size ≠ L := by omega
    clear c0 c1 c2 c3 c4 c5 c6 c7
    go_loopw [32] (fun i wr => ∃ k : Nat, k ≤ 8 ∧ i = .int .i64 k ∧ Hid (Blk wr L #[.int .i64 (zs.length : Int), .int .i64 (s.ts.length : Int), .int .i64 (s.sk.length : Int), .bool dead, .int .i64 (leftTo s.d k : Int), .int .i64 (fixTo s.d k : Int)] 110) ∧ Hid (Fr (fun k => k = L) wc wr)) (fun i _ => 8 - (intOf i).toNat)
    case atStart => exact ⟨0, by omega, rfl, HB.out, Fr.refl _ _⟩
    case round =>
      obtain ⟨k, hk, rfl, HBk, HFk⟩ := hrel
      by_cases hk8 : k < 8
      · have hx64 := HH.out.good.dm.lt k
        have hget := fun W => index8 s.d hd8 k hk8 W
        have hl1 := leftTo_le s.d k
        have hl2 := fixTo_le s.d k
        have hls := leftTo_succ s.d k
        have hfs := fixTo_succ s.d k
        have hp8 := pop_le8 (s.d.getD k 0)
        obtain ⟨x, hx⟩ : ∃ x, s.d.getD k 0 = x := ⟨_, rfl⟩
        rw [hx] at hx64 hget hls hfs hp8
        obtain ⟨lf, hlf⟩ : ∃ lf, leftTo s.d k = lf := ⟨_, rfl⟩
        obtain ⟨fx, hfx⟩ : ∃ fx, fixTo s.d k = fx := ⟨_, rfl⟩
        rw [hlf] at hl1 hls
        rw [hfx] at hl2 hfs
        have hb1 := HBk.out
        rw [hlf, hfx] at hb1
        have hc4 : wr.cell? ⟨L, 4, none⟩ = some (.int .i64 (lf : Int)) := hb1.cell 4
        have hfz := hb1.free
        have HB1 := hd hb1
        have Hls := hd hls
        have Hfs := hd hfs
        have Hx := hd hx
        clear hb1 hls hfs hx hlf hfx HBk
        obtain ⟨pn, hpn⟩ : ∃ pn, pop x = pn := ⟨_, rfl⟩
        have Hpn := hd hpn
        rw [hpn] at hp8
        clear hpn
        go_upto_region 7 with fail
        go_still_tail 6, (by kernel_rfl)
        refine still_call (f := 48) (args := #[.int .u8 (x : Int)]) (.int .i64 (pn : Int)) (by kernel_rfl) (by kernel_rfl) (by have := len_any x wr.drew (by omega); rw [Hpn.out] at this; exact this) ?_
        simp only [Act.put, List.setIfInBounds_toArray, List.set_cons_zero, List.set_cons_succ]
        repeat still_step
        refine wpStill_nil ?_
        rw [show ({ heap := wr.heap, tape := wr.tape, drawn := wr.drawn + 1, os := wr.os, output := wr.output } : World) = wr.drew from rfl]
        have hc5 : wr.cell? ⟨L, 5, none⟩ = some (.int .i64 (fx : Int)) := HB1.out.cell 5
        have hlast : Hid (leftTo s.d (k + 1) = lf + pn) := by show _ = _; rw [Hls.out, Hpn.out]
        clear hget
        by_cases h1 : pn = 1
        · have hfl : Hid (fixTo s.d (k + 1) = fx + 1) := by show _ = _; rw [Hfs.out, Hpn.out, if_pos h1]
          subst h1
          go_wp2_with (go_at_call 48; refine (len_any x _ (by omega)).mono ?_; rw [Hpn.out]; rintro e w' ⟨rfl, rfl⟩)
          refine ⟨⟨k + 1, by omega, by go_num, ?_, ?_⟩, by simp [intOf]; omega⟩
          · show Blk _ L _ _
            rw [hlast.out, hfl.out]
            exact (HB1.out.set 4 (.int .i64 ((lf : Int) + 1))).set 5 (.int .i64 ((fx : Int) + 1))
          · exact ((HFk.out.setCell ⟨L, 4, none⟩ (.int .i64 ((lf : Int) + 1)) (.inl rfl)).setCell ⟨L, 5, none⟩ (.int .i64 ((fx : Int) + 1)) (.inl rfl)).drew
        · have hfl : Hid (fixTo s.d (k + 1) = fx) := by show _ = _; rw [Hfs.out, Hpn.out, if_neg h1]; rfl
          have h1' : ((pn : Int) == 1) = false := by simp; omega
          go_wp2_with (go_at_call 48; refine (len_any x _ (by omega)).mono ?_; rw [Hpn.out]; rintro e w' ⟨rfl, rfl⟩)
          refine ⟨⟨k + 1, by omega, by go_num, ?_, ?_⟩, by simp [intOf]; omega⟩
          · show Blk _ L _ _
            rw [hlast.out, hfl.out]
            exact HB1.out.set 4 (.int .i64 ((lf : Int) + (pn : Int)))
          · exact (HFk.out.setCell ⟨L, 4, none⟩ (.int .i64 ((lf : Int) + (pn : Int))) (.inl rfl)).drew
      · obtain rfl : k = 8 := by omega
        obtain ⟨lf, hlf⟩ : ∃ lf, leftTo s.d 8 = lf := ⟨_, rfl⟩
        obtain ⟨fx, hfx⟩ : ∃ fx, fixTo s.d 8 = fx := ⟨_, rfl⟩
        have hb1 := HBk.out
        rw [hlf, hfx] at hb1
        have k0 : wr.cell? ⟨L, 0, none⟩ = some (.int .i64 (zs.length : Int)) := hb1.cell 0
        have k1 : wr.cell? ⟨L, 1, none⟩ = some (.int .i64 (s.ts.length : Int)) := hb1.cell 1
        have k2 : wr.cell? ⟨L, 2, none⟩ = some (.int .i64 (s.sk.length : Int)) := hb1.cell 2
        have k3 : wr.cell? ⟨L, 3, none⟩ = some (.bool dead) := hb1.cell 3
        have k4 : wr.cell? ⟨L, 4, none⟩ = some (.int .i64 (lf : Int)) := hb1.cell 4
        have k5 : wr.cell? ⟨L, 5, none⟩ = some (.int .i64 (fx : Int)) := hb1.cell 5
        have hR := HRc.out.fr HFk.out hL0
        have r0 : wr.cell? ⟨w.heap.size, 0, none⟩ = some (.int .i64 0) := hR.cell 0
        have r1 : wr.cell? ⟨w.heap.size, 1, none⟩ = some (.int .i64 0) := hR.cell 1
        have r2 : wr.cell? ⟨w.heap.size, 2, none⟩ = some (.int .i64 0) := hR.cell 2
        have r3 : wr.cell? ⟨w.heap.size, 3, none⟩ = some (.bool false) := hR.cell 3
        have r4 : wr.cell? ⟨w.heap.size, 4, none⟩ = some (.int .i64 0) := hR.cell 4
        have r5 : wr.cell? ⟨w.heap.size, 5, none⟩ = some (.int .i64 0) := hR.cell 5
        have hfR := hR.free
        have HR := hd hR
        have Hlf := hd hlf
        have Hfx := hd hfx
        clear hb1 hR hlf hfx
        go_wp2
        have hFW : Nw w wr := (HfW.out.trans HF.out (fun i h => h.elim)).trans HFk.out (fun i hi => .inr (by show w.heap.size ≤ i; have e : i = L := hi; omega))
        have hB := ((((((HR.out.set 0 (.int .i64 (zs.length : Int))).set 1 (.int .i64 (s.ts.length : Int))).set 2 (.int .i64 (s.sk.length : Int))).set 3 (.bool dead)).set 4 (.int .i64 (lf : Int))).set 5 (.int .i64 (fx : Int)))
        have z0 := hB.cell 0
        have z1 := hB.cell 1
        have z2 := hB.cell 2
        have z3 := hB.cell 3
        have z4 := hB.cell 4
        have z5 := hB.cell 5
        refine bodyPost_ret (v := .agg (lookV zs s)) ?_ rfl ⟨rfl, (((((hFW.setCell _ _ (.inr (Nat.le_refl _))).setCell _ _ (.inr (Nat.le_refl _))).setCell _ _ (.inr (Nat.le_refl _))).setCell _ _ (.inr (Nat.le_refl _))).setCell _ _ (.inr (Nat.le_refl _))).setCell _ _ (.inr (Nat.le_refl _))⟩
        simp only [lookV, Hdead.out, Hlf.out, Hfx.out]
        simp [results, Tryz.results59, go_sem, z0, z1, z2, z3, z4, z5, lookZ]
end Go.Proofs.YtkjfpdfkcfgfkaaGreat

/- A new Work; what a call leaves alone. -/
namespace Go.Proofs.YtkjfpdfkcfgfkaaGreat
open Go.RowKit

def ws0 (zs : List Int) (szv : Value) : WS := ⟨szv, fullTo zs zs.length, none, 0, rest0, [], [], [], []⟩
theorem fullTo_get (zs : List Int) (_ : zs.length ≤ 8) (q : Nat) : (fullTo zs zs.length).getD q 0 = if q < zs.length then 2 ^ (zs.getD q 0).toNat - 1 else 0 := by
  simp only [fullTo, List.take_length]
  by_cases h : q < zs.length
  · rw [if_pos h]
    simp [List.getD, List.getElem?_append_left, h]
  · rw [if_neg h]
    simp only [List.getD]
    rw [List.getElem?_append_right (by simp; omega)]
    simp only [List.getElem?_replicate]
    split <;> rfl
theorem full_dm {zs : List Int} (h : okSizes zs = true) : Dm (fullTo zs zs.length) := by
  obtain ⟨h0, h8⟩ := okSizes_len h
  refine ⟨fullTo_length zs _ (Nat.le_refl _) h8, fun q => ?_⟩
  rw [fullTo_get zs h8]
  split
  · rename_i hq
    have := okSizes_get h q hq
    have hp : 2 ^ (zs.getD q 0).toNat ≤ 2 ^ 6 := Nat.pow_le_pow_right (by omega) (by omega)
    omega
  · omega
theorem full_full {zs : List Int} (h : okSizes zs = true) : Full zs.length (fullTo zs zs.length) := by
  obtain ⟨h0, h8⟩ := okSizes_len h
  intro q hq
  rw [fullTo_get zs h8, if_pos hq]
  have := okSizes_get h q hq
  have hp : 2 ^ 1 ≤ 2 ^ (zs.getD q 0).toNat := Nat.pow_le_pow_right (by omega) (by omega)
  omega
theorem new_wat {w : World} {X : Nat} {zs : List Int} {szv : Value} (hok : okSizes zs = true) (hB : Blk w X (workCells szv (fullTo zs zs.length) (.slice none 0 0) rest0) 66) (hr : Row w szv 3 (zs.map (Value.int .i64))) : WAt w X zs (ws0 zs szv) := by
  have hi : ∀ {p : Prop} {i : Nat}, i < ([] : List Tab).length → p := fun h => absurd h (Nat.not_lt_zero _)
  refine ⟨⟨hB, hr, hok, ⟨Row.nil _ _, fun i h => hi h, fun i h => hi h, fun i h => hi h⟩, fun i j h => hi h, Nat.zero_le _, ⟨rfl, fun k h => absurd h (Nat.not_lt_zero _)⟩, fun k h => absurd h (Nat.not_lt_zero _), ⟨Row.nil _ _, Row.nil _ _⟩, fun u hu => (by cases hu), fun k hk => (by cases hk)⟩,
    ⟨full_dm hok, SubD.refl _, .inr (full_full hok), fun b hb => (by cases hb), rfl, fun k h => absurd h (Nat.not_lt_zero _)⟩, ?_, rfl, Nat.zero_le _⟩
  show 0 + 900 * bitsOf (fullTo zs zs.length) ≤ 57600
  have := bits_max (fullTo zs zs.length)
  omega
theorem ws0_own {X k : Nat} {zs : List Int} {szv : Value} (h : (ws0 zs szv).own X k) : k = X ∨ szv.ownBlock = some k := by
  rcases h with h | h | h | ⟨i, hi, _⟩ | h | h | ⟨u, hu, _⟩
  · exact .inl h
  · exact .inr h
  · cases h
  · exact absurd hi (Nat.not_lt_zero _)
  · cases h
  · cases h
  · cases hu
/-- Seen from a world in which nothing of the Work was there. -/
def Since (w0 : World) (X : Nat) (s : WS) : Prop := ∀ k, s.own X k → w0.heap.size ≤ k
end Go.Proofs.YtkjfpdfkcfgfkaaGreat

/- The document's answer: domains in memory, and what their closure means. -/
namespace Go.Proofs.YtkjfpdfkcfgfkaaGreat
open Go.RowKit

theorem Row.put {w : World} {g n cap : Nat} {e : TypeId} {xs : List Value} (h : Row w (.slice (some ⟨g, 0, none⟩) n cap) e xs) (i : Nat) (x : Value) : Row (w.setCell ⟨g, i, none⟩ x) (.slice (some ⟨g, 0, none⟩) n cap) e (xs.set i x) := by
  have hl := h.1
  rcases h.2 with ⟨hv, _⟩ | ⟨g', cap', cur, hv, h0, hg, h1, h2, h3, h4⟩
  · cases hv
  · simp only [Value.slice.injEq, Option.some.injEq, Addr.mk.injEq, and_true] at hv
    obtain ⟨rfl, rfl, rfl⟩ := hv
    refine ⟨by simp, .inr ⟨g, cap, cur.setIfInBounds i x, by rw [List.length_set], h0, Blk.set (h := hg) i x, by rw [List.length_set]; exact h1, h2, by simp [h3], ?_⟩⟩
    rw [List.length_set, Array.toList_setIfInBounds, List.take_set, h4]
/-- The document's Work in memory. -/
structure RIn (w : World) (lo Y : Nat) (zs : List Int) (szv inv : Value) (vs : List Value) (bss : List (List Bool)) (dead : Bool) (tv lv : Value) : Prop where
  blk : Blk w Y #[szv, inv, .bool dead, tv, lv] 83
  sz : Row w szv 3 (zs.map (Value.int .i64))
  inn : Row w inv 84 vs
  rows : InRows w lo vs bss
  len : bss.length = zs.length
  each : ∀ u, u < zs.length → (bss.getD u []).length = (zs.getD u 0).toNat
  zok : okSizes zs = true
  szlo : ∀ k, szv.ownBlock = some k → lo ≤ k
  inlo : ∀ k, inv.ownBlock = some k → lo ≤ k
  ylo : lo ≤ Y
theorem Row.bools {w : World} {ao : Option Addr} {cap : Nat} {bs : List Bool} (h : Row w (.slice ao bs.length cap) 4 (bs.map Value.bool)) : BoolsAt w ao bs := fun v hv => by
  obtain ⟨g, c, he, hb, hc, _⟩ := h.cell v (by rw [List.length_map]; exact hv)
  simp only [Value.slice.injEq] at he
  obtain ⟨rfl, _⟩ := he
  refine ⟨g, 0, rfl, h.lt hb, ?_⟩
  rw [Nat.zero_add, hc]
  simp [List.getD, hv]
theorem RIn.in8 {w : World} {lo Y : Nat} {zs : List Int} {szv inv : Value} {vs : List Value} {bss : List (List Bool)} {dead : Bool} {tv lv : Value} (h : RIn w lo Y zs szv inv vs bss dead tv lv) : bss.length ≤ 8 := by
  rw [h.len]
  exact (okSizes_len h.zok).2
theorem RIn.b6 {w : World} {lo Y : Nat} {zs : List Int} {szv inv : Value} {vs : List Value} {bss : List (List Bool)} {dead : Bool} {tv lv : Value} (h : RIn w lo Y zs szv inv vs bss dead tv lv) (u : Nat) (hu : u < bss.length) : (bss.getD u []).length ≤ 6 := by
  rw [h.each u (by rw [← h.len]; exact hu)]
  have := (okSizes_get h.zok u (by rw [← h.len]; exact hu)).2
  omega
/-- A row of bools, as a value. -/
theorem RIn.row {w : World} {lo Y : Nat} {zs : List Int} {szv inv : Value} {vs : List Value} {bss : List (List Bool)} {dead : Bool} {tv lv : Value} (h : RIn w lo Y zs szv inv vs bss dead tv lv) (u : Nat) (hu : u < bss.length) : ∃ g cap, vs.getD u nilS = .slice (some ⟨g, 0, none⟩) (bss.getD u []).length cap ∧ Row w (.slice (some ⟨g, 0, none⟩) (bss.getD u []).length cap) 4 ((bss.getD u []).map Value.bool) ∧ lo ≤ g := by
  have hr := h.rows.row u hu
  have h1 := (okSizes_get h.zok u (by rw [← h.len]; exact hu)).1
  have hl := h.each u (by rw [← h.len]; exact hu)
  rcases hr.2 with ⟨hv, h0⟩ | ⟨g, cap, cur, hv, _⟩
  · rw [List.length_map] at h0
    omega
  · rw [List.length_map] at hv
    refine ⟨g, cap, hv, by rw [← hv]; exact hr, h.rows.lo u hu g (by rw [hv]; rfl)⟩
theorem RIn.brows {w : World} {lo Y : Nat} {zs : List Int} {szv inv : Value} {vs : List Value} {bss : List (List Bool)} {dead : Bool} {tv lv : Value} (h : RIn w lo Y zs szv inv vs bss dead tv lv) : ∃ io icap, inv = .slice io bss.length icap ∧ BRowsAt w io bss ∧ w.cell? ⟨Y, 1, none⟩ = some (.slice io bss.length icap) := by
  obtain ⟨io, icap, hf, _⟩ := h.inn.form
  rw [h.rows.len] at hf
  refine ⟨io, icap, hf, fun u hu => ?_, by rw [← hf]; exact h.blk.cell 1⟩
  obtain ⟨g, c, he, hb, hc, _⟩ := h.inn.cell u (by rw [h.rows.len]; exact hu)
  obtain ⟨q, qc, hq, hrow, _⟩ := h.row u hu
  rw [hf] at he
  simp only [Value.slice.injEq] at he
  obtain ⟨rfl, _⟩ := he
  refine ⟨g, 0, some ⟨q, 0, none⟩, qc, rfl, h.inn.lt hb, ?_, hrow.bools⟩
  rw [Nat.zero_add, hc, ← hq]
  simp [List.getD, h.rows.len, hu]
theorem RIn.nw {w w' : World} {lo Y : Nat} {zs : List Int} {szv inv : Value} {vs : List Value} {bss : List (List Bool)} {dead : Bool} {tv lv : Value} (h : RIn w lo Y zs szv inv vs bss dead tv lv) (f : Nw w w') : RIn w' lo Y zs szv inv vs bss dead tv lv :=
  ⟨h.blk.nw f, h.sz.nw f, h.inn.nw f, h.rows.fr f (fun _ _ x => x.elim), h.len, h.each, h.zok, h.szlo, h.inlo, h.ylo⟩
theorem getD_set_eq {α : Type} (l : List α) (u q : Nat) (x d : α) (hu : u < l.length) : (l.set u x).getD q d = if u = q then x else l.getD q d := by
  by_cases e : u = q
  · subst e
    simp [List.getD, hu]
  · simp [List.getD, e]
/-- A value is struck. -/
def offB (bss : List (List Bool)) (u v : Nat) : List (List Bool) := bss.set u ((bss.getD u []).set v false)
theorem offB_get (bss : List (List Bool)) (u v q x : Nat) (hu : u < bss.length) : ((offB bss u v).getD q []).getD x false = if u = q ∧ v = x then false else (bss.getD q []).getD x false := by
  unfold offB
  rw [getD_set_eq _ _ _ _ _ hu]
  by_cases e : u = q
  · subst e
    rw [if_pos rfl]
    by_cases hv : v < (bss.getD u []).length
    · rw [getD_set_eq _ _ _ _ _ hv]
      by_cases e2 : v = x
      · simp [e2]
      · simp [e2]
    · rw [List.set_eq_of_length_le (by omega)]
      by_cases e2 : v = x
      · subst e2
        rw [if_pos ⟨rfl, rfl⟩]
        simp only [List.getD]
        rw [List.getElem?_eq_none (by simpa [List.getD] using hv)]
        rfl
      · simp [e2]
  · simp [e]
theorem RIn.off {w : World} {lo Y : Nat} {zs : List Int} {szv inv : Value} {vs : List Value} {bss : List (List Bool)} {dead : Bool} {tv lv : Value} (h : RIn w lo Y zs szv inv vs bss dead tv lv) (u v g n cap : Nat) (hu : u < bss.length) (hg : vs.getD u nilS = .slice (some ⟨g, 0, none⟩) n cap) :
    RIn (w.setCell ⟨g, v, none⟩ (.bool false)) lo Y zs szv inv vs (offB bss u v) dead tv lv := by
  have hr := h.rows.row u hu
  have hf : Fr (fun k => k = g) w (w.setCell ⟨g, v, none⟩ (.bool false)) := (Fr.refl _ w).setCell _ _ (.inl rfl)
  obtain ⟨cur, hb, _⟩ := hr.blk (k := g) (by rw [hg]; rfl)
  have hYg : Y ≠ g := fun e => by
    have h1 := h.blk
    rw [e] at h1
    exact absurd (h1.inj hb).2 (by decide)
  refine ⟨h.blk.fr hf hYg, h.sz.fr hf (fun k hk e => ?_), h.inn.fr hf (fun k hk e => ?_), ⟨?_, fun i hi => ?_, ?_, ?_⟩, ?_, fun q hq => ?_, h.zok, h.szlo, h.inlo, h.ylo⟩
  · rw [e] at hk
    exact h.sz.ne hb (by decide) hk
  · rw [e] at hk
    exact h.inn.ne hb (by decide) hk
  · rw [h.rows.len]
    simp [offB]
  · have hi' : i < bss.length := by simpa [offB] using hi
    by_cases e : u = i
    · subst e
      have h1 := hr
      rw [hg] at h1 ⊢
      have h2 := h1.put v (.bool false)
      have e2 : (offB bss u v).getD u [] = (bss.getD u []).set v false := by
        unfold offB
        rw [getD_set_eq _ _ _ _ _ hu, if_pos rfl]
      rw [e2, List.map_set]
      exact h2
    · have e2 : (offB bss u v).getD i [] = bss.getD i [] := by
        unfold offB
        rw [getD_set_eq _ _ _ _ _ hu, if_neg e]
      rw [e2]
      refine (h.rows.row i hi').fr hf (fun k hk e3 => ?_)
      rw [e3] at hk
      have hug : (vs.getD u nilS).ownBlock = some g := by rw [hg]; rfl
      rcases Nat.lt_or_gt_of_ne e with h3 | h3
      · exact h.rows.ne u i h3 hi' g hug hk
      · exact h.rows.ne i u h3 hu g hk hug
  · intro i j hij hj
    exact h.rows.ne i j hij (by simpa [offB] using hj)
  · intro i hi
    exact h.rows.lo i (by simpa [offB] using hi)
  · rw [← h.len]
    simp [offB]
  · unfold offB
    rw [getD_set_eq _ _ _ _ _ hu]
    split
    · rename_i e
      rw [List.length_set, e]
      exact h.each q hq
    · exact h.each q hq
/-- The domains, as numbers. -/
def domB (bss : List (List Bool)) : List Nat := (List.range 8).map (fun q => maskOf (fun v => (bss.getD q []).getD v false))
theorem domB_get (bss : List (List Bool)) (q : Nat) (hq : q < 8) : (domB bss).getD q 0 = maskOf (fun v => (bss.getD q []).getD v false) := by simp [domB, List.getD, hq]
theorem domB_dm (bss : List (List Bool)) : Dm (domB bss) := ⟨by simp [domB], fun q => by
  by_cases hq : q < 8
  · rw [domB_get _ _ hq]
    exact maskOf_lt _
  · have : (domB bss).getD q 0 = 0 := by
      simp only [List.getD]
      rw [List.getElem?_eq_none (by simp [domB]; omega)]
      rfl
    rw [this]
    decide⟩
theorem domB_bit (bss : List (List Bool)) (h8 : bss.length ≤ 8) (h6 : ∀ u, u < bss.length → (bss.getD u []).length ≤ 6) (q v : Nat) : ((domB bss).getD q 0).testBit v = (bss.getD q []).getD v false := by
  by_cases hq : q < bss.length
  · rw [domB_get _ _ (by omega)]
    by_cases hv : v < 6
    · exact maskOf_bit _ v hv
    · have h1 : (maskOf (fun v => (bss.getD q []).getD v false)).testBit v = false := Nat.testBit_lt_two_pow (Nat.lt_of_lt_of_le (maskOf_lt _) (Nat.le_trans (show 64 ≤ 2 ^ 6 by decide) (Nat.pow_le_pow_right (by omega) (by omega))))
      rw [h1]
      simp only [List.getD]
      have := h6 q hq
      rw [List.getElem?_eq_none (by simpa [List.getD] using (by omega : (bss.getD q []).length ≤ v))]
      rfl
  · have e : bss.getD q [] = [] := by
      simp only [List.getD]
      rw [List.getElem?_eq_none (by omega)]
      rfl
    rw [e]
    by_cases h8' : q < 8
    · rw [domB_get _ _ h8', e]
      have : maskOf (fun v => ([] : List Bool).getD v false) = 0 := by decide
      rw [this]
      simp
    · have : (domB bss).getD q 0 = 0 := by
        simp only [List.getD]
        rw [List.getElem?_eq_none (by simp [domB]; omega)]
        rfl
      rw [this]
      simp
/-- What found says of a value. -/
theorem ex_supp {E : FEnv} (h8 : E.bss.length ≤ 8) (h6 : ∀ u, u < E.bss.length → (E.bss.getD u []).length ≤ 6) (hp : E.place < E.vars.length) : E.Ex [] ↔ Supp E.vars E.rows E.nt (domB E.bss) E.place E.value := by
  constructor
  · rintro ⟨L, h1, _, h3, h4, h5⟩
    refine ⟨L, ⟨h1, fun q hq => ?_⟩, h4 (Nat.zero_le _) hp, (allowB_iff _ _ _).1 h5⟩
    rw [domB_bit _ h8 h6]
    exact h3 q (Nat.zero_le _) hq
  · rintro ⟨L, ⟨h1, h2⟩, h3, h4⟩
    refine ⟨L, h1, List.nil_prefix, fun q _ hq => ?_, fun _ _ => h3, (allowB_iff _ _ _).2 h4⟩
    have := h2 q hq
    rw [domB_bit _ h8 h6] at this
    exact this
/-- Between two steps of Close. -/
structure CInv (bs : List Tb) (d0 d : List Nat) : Prop where
  sub : SubD d d0
  most : ∀ e, SubD e d0 → (∀ b ∈ bs, SuppAll b e) → SubD e d
theorem CInv.refl (bs : List Tb) (d : List Nat) : CInv bs d d := ⟨SubD.refl d, fun _ h _ => h⟩
theorem CInv.off {bs : List Tb} {d0 d d' : List Nat} {b : Tb} {i v : Nat} (h : CInv bs d0 d) (hb : b ∈ bs) (hi : i < b.vars.length) (hn : ¬ Supp b.vars b.rows b.nt d i v) (hd' : ∀ q x, (d'.getD q 0).testBit x = true ↔ (d.getD q 0).testBit x = true ∧ ¬ (q = (b.vars.getD i 0).toNat ∧ x = v)) : CInv bs d0 d' := by
  refine ⟨fun q x hx => h.sub q x ((hd' q x).1 hx).1, fun e he hs q x hx => (hd' q x).2 ⟨h.most e he hs q x hx, ?_⟩⟩
  rintro ⟨rfl, rfl⟩
  exact hn ((hs b hb i x hi hx).mono (h.most e he hs))
end Go.Proofs.YtkjfpdfkcfgfkaaGreat

/- The document's answer: Close. -/
namespace Go.Proofs.YtkjfpdfkcfgfkaaGreat
open Go.RowKit

theorem getD_of_lt {α : Type} (l : List α) (x : Nat) (d : α) (h : x < l.length) : l.getD x d = l[x] := by simp [List.getD, h]
/-- What lies in a slice. -/
def memV (w : World) (v : Value) : List Value := match v with
  | .slice (some a) n _ => match w.heap[a.block]? with
    | some (.cells cur _ _) => cur.toList.take n
    | _ => []
  | _ => []
theorem memV_of {w : World} {v : Value} {e : TypeId} {xs : List Value} (h : Row w v e xs) : memV w v = xs := by
  rcases h.2 with ⟨rfl, h0⟩ | ⟨g, cap, cur, rfl, _, hg, _, _, _, h4⟩
  · rw [List.eq_nil_of_length_eq_zero h0]
    rfl
  · unfold memV
    simp only [hg]
    simpa using h4
def isTrue : Value → Bool
  | .bool b => b
  | _ => false
def memIn (w : World) (Y : Nat) : List (List Bool) := match w.heap[Y]? with
  | some (.cells cur _ _) => (memV w (cur.getD 1 undef)).map (fun v => (memV w v).map isTrue)
  | _ => []
theorem memIn_of {w : World} {lo Y : Nat} {zs : List Int} {szv inv : Value} {vs : List Value} {bss : List (List Bool)} {dead : Bool} {tv lv : Value} (h : RIn w lo Y zs szv inv vs bss dead tv lv) : memIn w Y = bss := by
  have hb : w.heap[Y]? = some (.cells #[szv, inv, .bool dead, tv, lv] 83 (0, 0)) := h.blk
  unfold memIn
  rw [hb]
  show (memV w inv).map _ = bss
  rw [memV_of h.inn]
  refine List.ext_getElem (by rw [List.length_map, h.rows.len]) fun u hu1 hu2 => ?_
  have hr := memV_of (h.rows.row u hu2)
  have e1 : vs.getD u nilS = vs[u]'(by rw [h.rows.len]; exact hu2) := by simp [List.getD, h.rows.len, hu2]
  have e2 : bss.getD u [] = bss[u] := by simp [List.getD, hu2]
  rw [e1, e2] at hr
  rw [List.getElem_map, hr, List.map_map]
  have : isTrue ∘ Value.bool = id := rfl
  rw [this, List.map_id]
/-- A table and its way. -/
structure TbW where
  tb : Tb
  way : Int
def tbw0 : TbW := ⟨⟨[], [], false⟩, 0⟩
/-- The document's tables in memory: their lists lie where they lay in world W. -/
structure RTabs (W w : World) (tv : Value) (ts : List TbW) : Prop where
  form : ∃ lo cap, tv = .slice lo ts.length cap
  cell : ∀ i, i < ts.length → ∃ g cap vo vcap ro rcap, tv = .slice (some ⟨g, 0, none⟩) ts.length cap ∧ g < w.heap.size ∧
    w.cell? ⟨g, i * 4, none⟩ = some (.slice vo (ts.getD i tbw0).tb.vars.length vcap) ∧ w.cell? ⟨g, i * 4 + 1, none⟩ = some (.slice ro (ts.getD i tbw0).tb.rows.length rcap) ∧ w.cell? ⟨g, i * 4 + 2, none⟩ = some (.bool (ts.getD i tbw0).tb.nt) ∧ w.cell? ⟨g, i * 4 + 3, none⟩ = some (.int .i64 (ts.getD i tbw0).way) ∧
    IntsAt W vo (ts.getD i tbw0).tb.vars ∧ RowsAt W ro (ts.getD i tbw0).tb.rows
theorem RTabs.fr {S : Nat → Prop} {W w w' : World} {tv : Value} {ts : List TbW} (h : RTabs W w tv ts) (f : Fr S w w') (hn : ∀ k, tv.ownBlock = some k → ¬ S k) : RTabs W w' tv ts :=
  ⟨h.form, fun i hi => by
    obtain ⟨g, cap, vo, vcap, ro, rcap, h1, h2, c0, c1, c2, c3, h3, h4⟩ := h.cell i hi
    have hg : ¬ S g := hn g (by rw [h1]; rfl)
    exact ⟨g, cap, vo, vcap, ro, rcap, h1, Nat.lt_of_lt_of_le h2 f.size, (f.cell h2 hg).trans c0, (f.cell h2 hg).trans c1, (f.cell h2 hg).trans c2, (f.cell h2 hg).trans c3, h3, h4⟩⟩
/-- What was looked at in a pass stands: tables ahead of k; entries ahead of i; values below v. -/
structure Chk (bs : List Tb) (d : List Nat) (k i v : Nat) : Prop where
  tabs : ∀ k', k' < k → SuppAll (bs.getD k' tb0) d
  ents : ∀ i' x, i' < i → i' < (bs.getD k tb0).vars.length → (d.getD ((bs.getD k tb0).vars.getD i' 0).toNat 0).testBit x = true → Supp (bs.getD k tb0).vars (bs.getD k tb0).rows (bs.getD k tb0).nt d i' x
  vals : ∀ x, x < v → (d.getD ((bs.getD k tb0).vars.getD i 0).toNat 0).testBit x = true → Supp (bs.getD k tb0).vars (bs.getD k tb0).rows (bs.getD k tb0).nt d i x
theorem Chk.start (bs : List Tb) (d : List Nat) : Chk bs d 0 0 0 := ⟨fun _ h => absurd h (Nat.not_lt_zero _), fun _ _ h => absurd h (Nat.not_lt_zero _), fun _ h => absurd h (Nat.not_lt_zero _)⟩
theorem Chk.value {bs : List Tb} {d : List Nat} {k i v : Nat} (h : Chk bs d k i v) (hv : (d.getD ((bs.getD k tb0).vars.getD i 0).toNat 0).testBit v = true → Supp (bs.getD k tb0).vars (bs.getD k tb0).rows (bs.getD k tb0).nt d i v) : Chk bs d k i (v + 1) :=
  ⟨h.tabs, h.ents, fun x hx hb => by
    by_cases e : x = v
    · subst e
      exact hv hb
    · exact h.vals x (by omega) hb⟩
theorem Chk.entry {bs : List Tb} {d : List Nat} {k i n : Nat} (h : Chk bs d k i n) (hn : ∀ x, (d.getD ((bs.getD k tb0).vars.getD i 0).toNat 0).testBit x = true → x < n) : Chk bs d k (i + 1) 0 :=
  ⟨h.tabs, fun i' x hi hl hb => by
    by_cases e : i' = i
    · subst e
      exact h.vals x (hn x hb) hb
    · exact h.ents i' x (by omega) hl hb, fun _ h => absurd h (Nat.not_lt_zero _)⟩
theorem Chk.table {bs : List Tb} {d : List Nat} {k : Nat} (h : Chk bs d k (bs.getD k tb0).vars.length 0) : Chk bs d (k + 1) 0 0 :=
  ⟨fun k' hk' => by
    by_cases e : k' = k
    · subst e
      exact fun i x hi hb => h.ents i x hi hi hb
    · exact h.tabs k' (by omega), fun _ _ h => absurd h (Nat.not_lt_zero _), fun _ h => absurd h (Nat.not_lt_zero _)⟩
/-- Within a pass of Close: n0 values were left at its start. -/
structure Pass (W w : World) (lo Y : Nat) (zs : List Int) (szv inv : Value) (vs : List Value) (tv lv : Value) (ts : List TbW) (dead : Bool) (d0 : List Nat) (n0 : Nat) (w0 : World) (bss : List (List Bool)) (again : Bool) (k i v : Nat) : Prop where
  rin : RIn w lo Y zs szv inv vs bss dead tv lv
  tabs : RTabs W w tv ts
  inv : CInv (ts.map TbW.tb) d0 (domB bss)
  fr : Fr (fun q => ∃ u, u < vs.length ∧ (vs.getD u nilS).ownBlock = some q) w0 w
  no : again = false → bitsOf (domB bss) = n0 ∧ Chk (ts.map TbW.tb) (domB bss) k i v
  yes : again = true → bitsOf (domB bss) < n0
theorem offB_bit {bss : List (List Bool)} (h8 : bss.length ≤ 8) (h6 : ∀ u, u < bss.length → (bss.getD u []).length ≤ 6) {u v : Nat} (hu : u < bss.length) (q x : Nat) : ((domB (offB bss u v)).getD q 0).testBit x = true ↔ ((domB bss).getD q 0).testBit x = true ∧ ¬ (q = u ∧ x = v) := by
  have h8' : (offB bss u v).length ≤ 8 := by simpa [offB] using h8
  have h6' : ∀ i, i < (offB bss u v).length → ((offB bss u v).getD i []).length ≤ 6 := fun i hi => by
    have hi' : i < bss.length := by simpa [offB] using hi
    unfold offB
    rw [getD_set_eq _ _ _ _ _ hu]
    split
    · rw [List.length_set]
      exact h6 u hu
    · exact h6 i hi'
  rw [domB_bit _ h8' h6', domB_bit _ h8 h6, offB_get _ _ _ _ _ hu]
  by_cases e : u = q ∧ v = x
  · rw [if_pos e]
    obtain ⟨rfl, rfl⟩ := e
    simp
  · rw [if_neg e]
    constructor
    · intro h
      exact ⟨h, fun h' => e ⟨h'.1.symm, h'.2.symm⟩⟩
    · exact fun h => h.1
theorem offB_less {bss : List (List Bool)} (h8 : bss.length ≤ 8) (h6 : ∀ u, u < bss.length → (bss.getD u []).length ≤ 6) {u v : Nat} (hu : u < bss.length) (hv : (bss.getD u []).getD v false = true) : bitsOf (domB (offB bss u v)) < bitsOf (domB bss) := by
  refine bits_lt (domB_dm _) (domB_dm _) (fun q x hx => ((offB_bit h8 h6 hu q x).1 hx).1) fun e => ?_
  have h1 : ((domB bss).getD u 0).testBit v = true := by rw [domB_bit _ h8 h6]; exact hv
  rw [← e] at h1
  exact ((offB_bit h8 h6 hu u v).1 h1).2 ⟨rfl, rfl⟩

theorem RIn.setDead {w : World} {lo Y : Nat} {zs : List Int} {szv inv : Value} {vs : List Value} {bss : List (List Bool)} {dead : Bool} {tv lv : Value} (h : RIn w lo Y zs szv inv vs bss dead tv lv) (x : Bool) : RIn (w.setCell ⟨Y, 2, none⟩ (.bool x)) lo Y zs szv inv vs bss x tv lv := by
  have hf : Fr (fun k => k = Y) w (w.setCell ⟨Y, 2, none⟩ (.bool x)) := (Fr.refl _ w).setCell _ _ (.inl rfl)
  refine ⟨h.blk.set 2 (.bool x), h.sz.fr hf (fun k hk e => ?_), h.inn.fr hf (fun k hk e => ?_), h.rows.fr hf (fun k cur hk hb => ?_), h.len, h.each, h.zok, h.szlo, h.inlo, h.ylo⟩
  · rw [e] at hk
    exact h.sz.ne h.blk (by decide) hk
  · rw [e] at hk
    exact h.inn.ne h.blk (by decide) hk
  · rw [hk] at hb
    exact absurd (hb.inj h.blk).2 (by decide)
noncomputable def cloReg : Array Oper := regOps Tryz.f81 10
theorem Pass.step {W w w' w0 : World} {lo Y : Nat} {zs : List Int} {szv inv : Value} {vs : List Value} {tv lv : Value} {ts : List TbW} {dead : Bool} {d0 : List Nat} {n0 : Nat} {bss : List (List Bool)} {again : Bool} {k i v : Nat} (h : Pass W w lo Y zs szv inv vs tv lv ts dead d0 n0 w0 bss again k i v) (f : Nw w w') : Pass W w' lo Y zs szv inv vs tv lv ts dead d0 n0 w0 bss again k i v :=
  ⟨h.rin.nw f, h.tabs.fr f (fun _ _ x => x), h.inv, h.fr.trans f (fun _ x => x.elim), h.no, h.yes⟩
theorem Pass.go {W w w0 : World} {lo Y : Nat} {zs : List Int} {szv inv : Value} {vs : List Value} {tv lv : Value} {ts : List TbW} {dead : Bool} {d0 : List Nat} {n0 : Nat} {bss : List (List Bool)} {again : Bool} {k i v k' i' v' : Nat} (h : Pass W w lo Y zs szv inv vs tv lv ts dead d0 n0 w0 bss again k i v) (hc : Chk (ts.map TbW.tb) (domB bss) k i v → Chk (ts.map TbW.tb) (domB bss) k' i' v') : Pass W w lo Y zs szv inv vs tv lv ts dead d0 n0 w0 bss again k' i' v' :=
  ⟨h.rin, h.tabs, h.inv, h.fr, fun e => ⟨(h.no e).1, hc (h.no e).2⟩, h.yes⟩

set_option maxHeartbeats 3200000 in
set_option maxRecDepth 1000000 in
theorem close_any (W : World) (lo Y : Nat) (zs : List Int) (szv inv : Value) (vs : List Value) (bss : List (List Bool)) (dead : Bool) (tv lv : Value) (ts : List TbW) (w : World) (hlo : W.heap.size ≤ lo) (hW : Nw W w) (ht12 : ts.length ≤ 12)
    (hok : ∀ i, i < ts.length → okTable zs (ts.getD i tbw0).tb.vars (ts.getD i tbw0).tb.rows (ts.getD i tbw0).way = true) (hR : RIn w lo Y zs szv inv vs bss dead tv lv) (hT : RTabs W w tv ts) (htv : ∀ k, tv.ownBlock = some k → (∃ cur, Blk w k cur 41)) :
    Calls Tryz.prog 81 #[.pointer (some ⟨Y, 0, none⟩)] w fun e w' => e = .returned (.tuple #[]) ∧ ∃ bss', RIn w' lo Y zs szv inv vs bss' (dead || noneB bss') tv lv ∧ RTabs W w' tv ts ∧ CInv (ts.map TbW.tb) (domB bss) (domB bss') ∧ (∀ b ∈ ts.map TbW.tb, SuppAll b (domB bss')) ∧ Fr (fun q => q = Y ∨ ∃ u, u < vs.length ∧ (vs.getD u nilS).ownBlock = some q) w w' := by
  have HR := hd hR
  have HT := hd hT
  have hnb : ∀ (A : World) (bss : List (List Bool)) (dead : Bool), RIn A lo Y zs szv inv vs bss dead tv lv → ∀ q, (∃ u, u < vs.length ∧ (vs.getD u nilS).ownBlock = some q) → ∃ cur, Blk A q cur 4 := fun A bss dead h q ⟨u, hu, hq⟩ => by
    obtain ⟨cur, hb, _⟩ := (h.rows.row u (by rw [← h.rows.len]; exact hu)).blk hq
    exact ⟨cur, hb⟩
  have hvslo : ∀ q, (∃ u, u < vs.length ∧ (vs.getD u nilS).ownBlock = some q) → lo ≤ q := fun q ⟨u, hu, hq⟩ => hR.rows.lo u (by rw [← hR.rows.len]; exact hu) q hq
  have htvn : ∀ q, (∃ u, u < vs.length ∧ (vs.getD u nilS).ownBlock = some q) → tv.ownBlock ≠ some q := fun q hq e => by
    obtain ⟨cur, hb⟩ := hnb w bss dead hR q hq
    obtain ⟨cur', hb'⟩ := htv q e
    exact absurd (hb.inj hb').2 (by decide)
  have HW := hd hW
  have Hnb := hd hnb
  have Hvslo := hd hvslo
  have Htvn := hd htvn
  have Htv := hd htv
  obtain ⟨io, icap, hio, _, _⟩ := hR.brows
  obtain ⟨tto, tcap, hto⟩ := hT.form
  have hbl : bss.length = zs.length := hR.len
  obtain ⟨hz1, hz8⟩ := okSizes_len hR.zok
  have Hzg := hd (fun i hi => okSizes_get hR.zok i hi)
  subst hto
  clear hR hT hW hnb hvslo htvn htv
  go_enter Tryz.func81, Tryz.ntmps81
  go_wp2_with fail
  go_loopw [2, 3, 4, 5, 6, 7, 8] (fun ag _ _ _ _ _ _ wr => ∃ (b1 : List (List Bool)) (ab : Bool), ag = .bool ab ∧ Hid (RIn wr lo Y zs szv inv vs b1 dead (.slice tto ts.length tcap) lv) ∧ Hid (RTabs W wr (.slice tto ts.length tcap) ts) ∧ Hid (CInv (ts.map TbW.tb) (domB bss) (domB b1)) ∧ Hid (Fr (fun q => ∃ u, u < vs.length ∧ (vs.getD u nilS).ownBlock = some q) w wr) ∧ Hid (ab = false → ∀ b ∈ ts.map TbW.tb, SuppAll b (domB b1))) (fun ag _ _ _ _ _ _ wr => 2 * bitsOf (domB (memIn wr Y)) + (if isTrue ag then 1 else 0))
  case atStart => exact ⟨bss, true, rfl, HR, HT, CInv.refl _ _, Fr.refl _ _, fun h => by cases h⟩
  case round =>
    obtain ⟨b1, ab, rfl, HR1, HT1, HC1, HF1, Hs1⟩ := hrel
    cases ab with
    | true =>
      have Hm := hd (memIn_of HR1.out)
      obtain ⟨n0, hn0⟩ : ∃ n0, bitsOf (domB b1) = n0 := ⟨_, rfl⟩
      have Hn0 := hd hn0
      clear hn0
      have HP0 : Hid (Pass W wr lo Y zs szv inv vs (.slice tto ts.length tcap) lv ts dead (domB bss) n0 w b1 false 0 0 0) := ⟨HR1.out, HT1.out, HC1.out, HF1.out, fun _ => ⟨Hn0.out, Chk.start _ _⟩, fun h => by cases h⟩
      have cT0 : wr.cell? ⟨Y, 3, none⟩ = some (.slice tto ts.length tcap) := HR1.out.blk.cell 3
      have hYl0 := HR1.out.blk.lt
      clear HR1 HT1 HC1 HF1 Hs1
      go_wp2_with fail
      go_loopw [2, 3, 4, 5, 6, 7, 8] (fun ag k _ _ _ _ _ w2 => ∃ (kk : Nat) (b2 : List (List Bool)) (ab : Bool), kk ≤ ts.length ∧ k = .int .i64 (kk : Int) ∧ ag = .bool ab ∧ Hid (Pass W w2 lo Y zs szv inv vs (.slice tto ts.length tcap) lv ts dead (domB bss) n0 w b2 ab kk 0 0)) (fun _ k _ _ _ _ _ _ => ts.length - (intOf k).toNat)
      case atStart => exact ⟨0, b1, false, by omega, rfl, rfl, HP0⟩
      case round =>
        rename World => w2
        clear HP0 cT0 hYl0
        obtain ⟨kk, b2, ab, hkk, rfl, rfl, HP⟩ := hrel
        have cT : w2.cell? ⟨Y, 3, none⟩ = some (.slice tto ts.length tcap) := HP.out.rin.blk.cell 3
        have hYl := HP.out.rin.blk.lt
        by_cases hkl : kk < ts.length
        · have hdk : (kk : Int) < (ts.length : Int) := by omega
          have Hwt := hd HP.out.rin.blk.lt
          obtain ⟨tg, tc, vo, vcap, ro, rcap, hte, htgl, c0, c1, c2, c3, hIv, hRr⟩ := HP.out.tabs.cell kk hkl
          simp only [Value.slice.injEq] at hte
          obtain ⟨rfl, _, rfl⟩ := hte
          obtain ⟨hway, hv1, hr60, hVO, hvn, hrl⟩ := okTable_parts (hok kk hkl) hz8
          have Hb : Hid ((ts.map TbW.tb).getD kk tb0 = (ts.getD kk tbw0).tb) := hd (by simp [List.getD, hkl])
          have Hbm : Hid ((ts.getD kk tbw0).tb ∈ ts.map TbW.tb) := hd (List.mem_map.2 ⟨ts.getD kk tbw0, by rw [show ts.getD kk tbw0 = ts[kk] by simp [List.getD, hkl]]; exact List.getElem_mem hkl, rfl⟩)
          obtain ⟨⟨⟨vars, rows, nt⟩, way⟩, htw⟩ : ∃ t, ts.getD kk tbw0 = t := ⟨_, rfl⟩
          rw [htw] at c0 c1 c2 c3 hIv hRr hv1 hr60 hVO hvn hrl Hb Hbm
          dsimp only at c0 c1 c2 c3 hIv hRr hv1 hr60 hVO hvn hrl Hb Hbm
          have hv4 := hVO.four
          have HIv := hd hIv
          have HRr := hd hRr
          have HVO := hd hVO
          have Hvn := hd hvn
          have Hrl := hd hrl
          clear hIv hRr hVO hvn hrl htw hway
          rename World => wt
          have hbT : Blk (wt.alloc (.cells #[.slice vo vars.length vcap, .slice ro rows.length rcap, .bool nt, .int .i64 way] 41)) wt.heap.size #[.slice vo vars.length vcap, .slice ro rows.length rcap, .bool nt, .int .i64 way] 41 := Blk.new _ _ _
          have HPT := hd (HP.out.step ((Fr.refl (fun _ => False) wt).alloc (.cells #[.slice vo vars.length vcap, .slice ro rows.length rcap, .bool nt, .int .i64 way] 41)))
          have HbT := hd hbT
          clear hbT HP
          go_wp2_with fail
          go_loopw [2, 5, 6, 7, 8] (fun ag i _ _ _ w4 => ∃ (ii : Nat) (b3 : List (List Bool)) (ab : Bool), ii ≤ vars.length ∧ i = .int .i64 (ii : Int) ∧ ag = .bool ab ∧ Hid (Pass W w4 lo Y zs szv inv vs (.slice (some ⟨tg, 0, none⟩) ts.length tcap) lv ts dead (domB bss) n0 w b3 ab kk ii 0) ∧ Hid (Blk w4 wt.heap.size #[.slice vo vars.length vcap, .slice ro rows.length rcap, .bool nt, .int .i64 way] 41)) (fun _ i _ _ _ _ => vars.length - (intOf i).toNat)
          case atStart => exact ⟨0, b2, ab, by omega, rfl, rfl, HPT, HbT⟩
          case round =>
            rename World => w4
            clear HPT HbT
            obtain ⟨ii, b3, ab, hii, rfl, rfl, HP, HbT⟩ := hrel
            have t0 : w4.cell? ⟨wt.heap.size, 0, none⟩ = some (.slice vo vars.length vcap) := HbT.out.cell 0
            have hTl := HbT.out.lt
            by_cases hil : ii < vars.length
            · have hdi : (ii : Int) < (vars.length : Int) := by omega
              have hNW4 : Nw W w4 := HW.out.trans HP.out.fr (fun i h => .inr (by have := Hvslo.out i h; omega))
              obtain ⟨vb, vof, hve, hvlW, hvcW⟩ := HIv.out ii hil
              have hvl : vb < w4.heap.size := Nat.lt_of_lt_of_le hvlW hNW4.size
              have hvc := (hNW4.cell hvlW (fun x => x)).trans hvcW
              have hv0 := (HVO.out.ok ii hil).1
              have hvz := Hvn.out ii hil
              obtain ⟨u, hu⟩ : ∃ u : Nat, vars.getD ii 0 = (u : Int) := ⟨(vars.getD ii 0).toNat, by omega⟩
              rw [hu] at hvc hvz hvcW
              have huz : u < zs.length := by omega
              have hub : u < b3.length := by rw [HP.out.rin.len]; exact huz
              obtain ⟨io3, ic3, hio3, hBR3, hcY⟩ := HP.out.rin.brows
              obtain ⟨ib, iof, qo, qc, hie, hibl, hicl, _⟩ := hBR3 u hub
              obtain ⟨g, gcap, hvg, _, hglo⟩ := HP.out.rin.row u hub
              have hqe : (Value.slice qo (b3.getD u []).length qc) = .slice (some ⟨g, 0, none⟩) (b3.getD u []).length gcap := by
                obtain ⟨g2, c2', he2, hb2, hc2, _⟩ := HP.out.rin.inn.cell u (by rw [HP.out.rin.rows.len]; exact hub)
                rw [hio3, hie] at he2
                simp only [Value.slice.injEq, Option.some.injEq, Addr.mk.injEq, and_true] at he2
                obtain ⟨⟨rfl, rfl⟩, _⟩ := he2
                rw [Nat.zero_add, hc2] at hicl
                rw [← hvg]
                simp only [List.getD, HP.out.rin.rows.len, hub, List.getElem?_eq_getElem, Option.getD_some] at hicl ⊢
                simpa using hicl.symm
              have hnl : (b3.getD u []).length = (zs.getD u 0).toNat := HP.out.rin.each u huz
              rw [hqe, hnl] at hicl
              rw [hnl] at hvg
              obtain ⟨n, hn⟩ : ∃ n, (zs.getD u 0).toNat = n := ⟨_, rfl⟩
              have hn6 : n ≤ 6 := by have := (Hzg.out u huz).2; omega
              rw [hn] at hicl hvg
              have Hn := hd hn
              have hYl4 := HP.out.rin.blk.lt
              subst hie
              subst hve
              have Hu := hd hu
              have Hvg := hd hvg
              have Hhio3 := hd hio3
              clear hqe hnl hn hu hBR3 hvg hio3
              have hYl := hYl4
              go_wp2_with fail
              have hK0 : Nw w4 w4.drew := (Fr.refl _ w4).drew
              refine region_H cloReg 12 (fun w'' => Nw w4 w'') (by kernel_rfl) (by kernel_rfl) (by kernel_rfl) ?_
              refine take_at (i := 0) (d := some 34) (v := .pointer (some ⟨Y, 0, none⟩)) (by kernel_rfl) (by kernel_rfl) (fun _ _ _ h => h) (fun w'' hS => by kernel_rfl) hK0 ?_
              refine take_at (i := 1) (d := some 35) (v := .pointer (some ⟨Y, 0, none⟩)) (by kernel_rfl) (by kernel_rfl) (fun _ _ _ h => h) (fun w'' hS => by kernel_rfl) hK0 ?_
              refine take_at (i := 2) (d := some 36) (v := .pointer (some ⟨Y, 1, none⟩)) (by kernel_rfl) (by kernel_rfl) (fun _ _ _ h => h) (fun w'' hS => by kernel_rfl) hK0 ?_
              refine take_at (i := 3) (d := some 37) (v := .slice (some ⟨ib, iof, none⟩) b3.length ic3) (by kernel_rfl) (by kernel_rfl) (fun _ _ _ h => h) (fun w'' hS => exec_load 79 (.tmp 36) (by kernel_rfl) (by kernel_rfl) (by kernel_rfl) ((hS.cell hYl (fun x => x)).trans hcY)) hK0 ?_
              refine take_at (i := 4) (d := some 38) (v := .pointer (some ⟨wt.heap.size, 0, none⟩)) (by kernel_rfl) (by kernel_rfl) (fun _ _ _ h => h) (fun w'' hS => by kernel_rfl) hK0 ?_
              refine take_at (i := 5) (d := some 39) (v := .slice (some ⟨vb, vof, none⟩) vars.length vcap) (by kernel_rfl) (by kernel_rfl) (fun _ _ _ h => h) (fun w'' hS => exec_load 22 (.tmp 38) (by kernel_rfl) (by kernel_rfl) (by kernel_rfl) ((hS.cell hTl (fun x => x)).trans t0)) hK0 ?_
              refine take_at (i := 6) (d := some 40) (v := .int .i64 (ii : Int)) (by kernel_rfl) (by kernel_rfl) (fun _ _ _ h => h) (fun w'' hS => by kernel_rfl) hK0 ?_
              refine take_at (i := 7) (d := some 41) (v := .pointer (some ⟨vb, vof + ii, none⟩)) (by kernel_rfl) (by kernel_rfl) (fun _ _ _ h => h) (fun w'' hS => exec_index (i := ii) (n := vars.length) (cap := vcap) 22 3 (.tmp 39) (.tmp 40) (by kernel_rfl) (by kernel_rfl) (by kernel_rfl) hil (by kernel_rfl) (by kernel_rfl)) hK0 ?_
              refine take_at (i := 8) (d := some 42) (v := .int .i64 (u : Int)) (by kernel_rfl) (by kernel_rfl) (fun _ _ _ h => h) (fun w'' hS => exec_load 3 (.tmp 41) (by kernel_rfl) (by kernel_rfl) (by kernel_rfl) ((hS.cell hvl (fun x => x)).trans hvc)) hK0 ?_
              refine take_at (i := 9) (d := some 43) (v := .pointer (some ⟨ib, iof + u, none⟩)) (by kernel_rfl) (by kernel_rfl) (fun _ _ _ h => h) (fun w'' hS => exec_index (i := u) (n := b3.length) (cap := ic3) 79 84 (.tmp 37) (.tmp 42) (by kernel_rfl) (by kernel_rfl) (by kernel_rfl) hub (by kernel_rfl) (by kernel_rfl)) hK0 ?_
              refine take_at (i := 10) (d := some 44) (v := .slice (some ⟨g, 0, none⟩) n gcap) (by kernel_rfl) (by kernel_rfl) (fun _ _ _ h => h) (fun w'' hS => exec_load 84 (.tmp 43) (by kernel_rfl) (by kernel_rfl) (by kernel_rfl) ((hS.cell hibl (fun x => x)).trans hicl)) hK0 ?_
              refine value_at (i := 11) (d := some 6) (v := .slice (some ⟨g, 0, none⟩) n gcap) (w' := w4.drew) (by kernel_rfl) (by kernel_rfl) (by kernel_rfl) hK0 ?_
              refine wpAnyH_done (by kernel_rfl) ?_ _
              simp only [Act.put, List.setIfInBounds_toArray, List.set_cons_zero, List.set_cons_succ]
              have HP4 := hd (HP.out.step hK0)
              have HbT4 := hd HbT.out.drew
              obtain ⟨wd, hwd⟩ : ∃ wd, w4.drew = wd := ⟨_, rfl⟩
              rw [hwd] at HP4 HbT4 ⊢
              clear HP HbT t0 hTl hvl hvc hcY hibl hicl hYl hYl4 hK0 hwd
              go_wp2_with fail
              go_loopw [2, 7, 8] (fun ag v _ w5 => ∃ (x : Nat) (b4 : List (List Bool)) (ab : Bool), x ≤ n ∧ v = .int .i64 (x : Int) ∧ ag = .bool ab ∧ Hid (Pass W w5 lo Y zs szv inv vs (.slice (some ⟨tg, 0, none⟩) ts.length tcap) lv ts dead (domB bss) n0 w b4 ab kk ii x) ∧ Hid (Blk w5 wt.heap.size #[.slice (some ⟨vb, vof, none⟩) vars.length vcap, .slice ro rows.length rcap, .bool nt, .int .i64 way] 41)) (fun _ v _ _ => n - (intOf v).toNat)
              case atStart => exact ⟨0, b3, ab, by omega, rfl, rfl, HP4, HbT4⟩
              case round =>
                rename World => w5
                clear HP4 HbT4
                obtain ⟨x, b4, ab, hxn, rfl, rfl, HP, HbT⟩ := hrel
                have hub4 : u < b4.length := by rw [HP.out.rin.len]; exact huz
                have hl4 : (b4.getD u []).length = n := by rw [HP.out.rin.each u huz]; exact Hn.out
                have hdb := domB_bit b4 HP.out.rin.in8 HP.out.rin.b6
                have Hb' := Hb
                by_cases hxl : x < n
                · have hdx : (x : Int) < (n : Int) := by omega
                  obtain ⟨g2, gc2, hvg2, hrow5, _⟩ := HP.out.rin.row u hub4
                  rw [Hvg.out, hl4] at hvg2
                  simp only [Value.slice.injEq, Option.some.injEq, Addr.mk.injEq, and_true] at hvg2
                  obtain ⟨rfl, hvgr, rfl⟩ := hvg2
                  clear hvgr
                  obtain ⟨gx, cx, hex, _, hcx, _⟩ := hrow5.cell x (by rw [List.length_map, hl4]; exact hxl)
                  simp only [Value.slice.injEq, Option.some.injEq, Addr.mk.injEq, and_true] at hex
                  obtain ⟨rfl, hexr⟩ := hex
                  clear hexr
                  have hcx' : w5.cell? ⟨g, x, none⟩ = some (.bool ((b4.getD u []).getD x false)) := by
                    have hxb : x < (b4.getD u []).length := by rw [hl4]; exact hxl
                    rw [hcx, List.getElem_map, getD_of_lt _ _ _ hxb]
                  obtain ⟨curg, hbg, _⟩ := hrow5.blk (k := g) rfl
                  have hgl := hbg.lt
                  have hgf := hbg.free x
                  have hbit := hdb u x
                  obtain ⟨bit, hbt⟩ : ∃ bit, (b4.getD u []).getD x false = bit := ⟨_, rfl⟩
                  rw [hbt] at hcx' hbit
                  have Hbt := hd hbt
                  have Hbit := hd hbit
                  have Hvar : Hid ((vars.getD ii 0).toNat = u) := hd (by rw [Hu.out]; rfl)
                  clear hcx hrow5 hbt hbit hdb
                  cases bit with
                  | false =>
                    go_wp2_with fail
                    refine ⟨⟨x + 1, b4, ab, by omega, by simp, rfl, HP.out.go (fun h => h.value (fun hb => ?_)), HbT⟩, by simp [intOf]; omega⟩
                    rw [Hb.out] at hb
                    dsimp only at hb
                    rw [Hvar.out, Hbit.out] at hb
                    cases hb
                  | true =>
                    have hNW5 : Nw W w5 := HW.out.trans HP.out.fr (fun i h => .inr (by have := Hvslo.out i h; omega))
                    obtain ⟨io4, ic4, hio4, hBR4, hcY4⟩ := HP.out.rin.brows
                    have hE : FEnv.Ok ⟨Y, some ⟨vb, vof, none⟩, ro, io4, vcap, rcap, ic4, vars, rows, nt, way, b4, ii, x⟩ w5 :=
                      ⟨hv4, hr60, HP.out.rin.in8, HP.out.rin.b6, fun i hi => ⟨(HVO.out.ok i hi).1, by show vars.getD i 0 < b4.length; rw [HP.out.rin.len]; exact Hvn.out i hi⟩, Hrl.out, HIv.out.nw hNW5, HRr.out.nw hNW5, hBR4, hcY4, HP.out.rin.blk.lt, by show ii < 4 ∧ x < 6; omega⟩
                    have Hcall := hd (found_any _ w5 hE vars.length [] (.slice none 0 0) w5 (by simp) (Fr.refl _ _) (.inl ⟨rfl, rfl⟩))
                    have Hsup := hd (ex_supp (E := ⟨Y, some ⟨vb, vof, none⟩, ro, io4, vcap, rcap, ic4, vars, rows, nt, way, b4, ii, x⟩) HP.out.rin.in8 HP.out.rin.b6 hil)
                    have t0 : w5.cell? ⟨wt.heap.size, 0, none⟩ = some (.slice (some ⟨vb, vof, none⟩) vars.length vcap) := HbT.out.cell 0
                    have t1 : w5.cell? ⟨wt.heap.size, 1, none⟩ = some (.slice ro rows.length rcap) := HbT.out.cell 1
                    have t2 : w5.cell? ⟨wt.heap.size, 2, none⟩ = some (.bool nt) := HbT.out.cell 2
                    have t3 : w5.cell? ⟨wt.heap.size, 3, none⟩ = some (.int .i64 way) := HbT.out.cell 3
                    have hTl := HbT.out.lt
                    clear hio4 hBR4 hcY4 hE
                    go_wp2_with fail
                    refine Hcall.out.mono ?_
                    rintro e w6 ⟨⟨fb, rfl, hfb⟩, hf6⟩
                    rw [Hsup.out] at hfb
                    have Hfb := hd hfb
                    have HP6 := hd (HP.out.step hf6)
                    have HbT6 := hd (HbT.out.nw hf6)
                    have hgl6 := hbg.nw hf6
                    have g6 : w6.cell? ⟨g, x, none⟩ = some (.bool true) := (hf6.cell hgl (fun x => x)).trans hcx'
                    have g6f := hgl6.free x
                    have g6l := hgl6.lt
                    have Hbg6 := hd hgl6
                    clear hfb hf6 Hcall Hsup HP HbT hgl6 t0 t1 t2 t3 hTl
                    cases fb with
                    | true =>
                      go_wp2_with fail
                      refine ⟨⟨x + 1, b4, ab, by omega, by simp, rfl, HP6.out.go (fun h => h.value (fun hb => ?_)), HbT6⟩, by simp [intOf]; omega⟩
                      rw [Hb.out]
                      exact Hfb.out.1 trivial
                    | false =>
                      go_wp2_with fail
                      have hf7 : Fr (fun q => q = g) w6 (w6.setCell ⟨g, x, none⟩ (.bool false)) := (Fr.refl _ w6).setCell _ _ (.inl rfl)
                      have hgu : ∃ u', u' < vs.length ∧ (vs.getD u' nilS).ownBlock = some g := ⟨u, by rw [HP6.out.rin.rows.len]; exact hub4, by rw [Hvg.out]; rfl⟩
                      have hless := offB_less HP6.out.rin.in8 HP6.out.rin.b6 hub4 Hbt.out
                      refine ⟨⟨x + 1, offB b4 u x, true, by omega, by simp, rfl, ⟨HP6.out.rin.off u x g n gcap hub4 Hvg.out, HP6.out.tabs.fr hf7 (fun q hq e => Htvn.out g hgu (by rw [← e]; exact hq)), ?_, HP6.out.fr.trans hf7 (fun i h => .inl (by rw [h]; exact hgu)), fun h => (by cases h), fun _ => ?_⟩, HbT6.out.fr hf7 (fun e => ?_)⟩, by simp [intOf]; omega⟩
                      · refine HP6.out.inv.off Hbm.out hil (fun h => absurd (Hfb.out.2 h) (by simp)) (fun q y => ?_)
                        rw [offB_bit HP6.out.rin.in8 HP6.out.rin.b6 hub4]
                        dsimp only
                        rw [Hvar.out]
                      · cases ab with
                        | true =>
                          have := HP6.out.yes rfl
                          omega
                        | false =>
                          have := (HP6.out.no rfl).1
                          omega
                      · have h1 := HbT6.out
                        rw [e] at h1
                        exact absurd (h1.inj Hbg6.out).2 (by decide)
                · obtain rfl : n = x := by omega
                  have hdx : ¬ ((n : Int) < (n : Int)) := by omega
                  have Hvar : Hid ((vars.getD ii 0).toNat = u) := hd (by rw [Hu.out]; rfl)
                  have Hdb := hd hdb
                  have Hl4 := hd hl4
                  clear hdb hl4
                  go_wp2_with fail
                  refine ⟨⟨ii + 1, b4, ab, by omega, by simp, rfl, HP.out.go (fun h => h.entry (fun y hy => ?_)), HbT⟩, by simp [intOf]; omega⟩
                  rw [Hb.out] at hy
                  dsimp only at hy
                  rw [Hvar.out, Hdb.out] at hy
                  refine Classical.byContradiction fun hn => ?_
                  simp only [List.getD] at hy
                  rw [List.getElem?_eq_none (by have := Hl4.out; simp only [List.getD] at this; omega)] at hy
                  cases hy
            · obtain rfl : vars.length = ii := by omega
              have hdi : ¬ ((vars.length : Int) < (vars.length : Int)) := by omega
              go_wp2_with fail
              refine ⟨⟨kk + 1, b3, ab, by omega, by simp, rfl, HP.out.go (fun h => Chk.table (by rw [Hb.out]; exact h))⟩, by simp [intOf]; omega⟩
        · obtain rfl : ts.length = kk := by omega
          have hdk : ¬ ((ts.length : Int) < (ts.length : Int)) := by omega
          go_wp2_with fail
          refine ⟨⟨b2, ab, rfl, HP.out.rin, HP.out.tabs, HP.out.inv, HP.out.fr, fun e b hb => ?_⟩, ?_⟩
          · obtain ⟨t, ht, rfl⟩ := List.mem_map.1 hb
            obtain ⟨i, hi, e2⟩ := List.getElem_of_mem ht
            have := (HP.out.no e).2.tabs i hi
            rw [show (ts.map TbW.tb).getD i tb0 = t.tb by simp [List.getD, hi, e2]] at this
            exact this
          · rw [memIn_of HP.out.rin, Hm.out, Hn0.out]
            cases ab with
            | true =>
              have := HP.out.yes rfl
              simp [isTrue]
              omega
            | false =>
              have := (HP.out.no rfl).1
              simp [isTrue]
              omega
    | false =>
      obtain ⟨io1, ic1, hio1, hBR, hcY⟩ := HR1.out.brows
      have Hcall := hd (empty_any Y io1 ic1 b1 wr HR1.out.in8 HR1.out.b6 HR1.out.blk.lt hcY hBR)
      clear hio1 hBR hcY
      go_wp2_with fail
      refine Hcall.out.mono ?_
      rintro e w2 ⟨rfl, hf2⟩
      have HR2 := hd (HR1.out.nw hf2)
      have HT2 := hd (HT1.out.fr hf2 (fun _ _ x => x))
      have HF2 := hd (HF1.out.trans hf2 (fun _ x => x.elim))
      have cD : w2.cell? ⟨Y, 2, none⟩ = some (.bool dead) := HR2.out.blk.cell 2
      have cDf := HR2.out.blk.free 2
      have cDl := HR2.out.blk.lt
      have HTY : Hid (∀ k, (Value.slice tto ts.length tcap).ownBlock = some k → k ≠ Y) := fun k hk e => by
        obtain ⟨cur, hb⟩ := Htv.out k hk
        have h1 := hb.fr HF2.out (fun h => Htvn.out k h hk)
        rw [e] at h1
        exact absurd (h1.inj HR2.out.blk).2 (by decide)
      have Hfin : Hid (∀ x, (dead || noneB b1) = x → ∃ bss', RIn (w2.setCell ⟨Y, 2, none⟩ (.bool x)) lo Y zs szv inv vs bss' (dead || noneB bss') (.slice tto ts.length tcap) lv ∧ RTabs W (w2.setCell ⟨Y, 2, none⟩ (.bool x)) (.slice tto ts.length tcap) ts ∧ CInv (ts.map TbW.tb) (domB bss) (domB bss') ∧ (∀ b ∈ ts.map TbW.tb, SuppAll b (domB bss')) ∧ Fr (fun q => q = Y ∨ ∃ u, u < vs.length ∧ (vs.getD u nilS).ownBlock = some q) w (w2.setCell ⟨Y, 2, none⟩ (.bool x))) := fun x hx => by
        have hfx : Fr (fun k => k = Y) w2 (w2.setCell ⟨Y, 2, none⟩ (.bool x)) := (Fr.refl _ w2).setCell _ _ (.inl rfl)
        refine ⟨b1, by rw [hx]; exact HR2.out.setDead x, HT2.out.fr hfx (fun k hk e => HTY.out k hk e), HC1.out, Hs1.out trivial, (HF2.out.mono (fun _ h => .inl (.inr h))).trans hfx (fun i h => .inl (.inl h))⟩
      obtain ⟨nb, hnb⟩ : ∃ nb, noneB b1 = nb := ⟨_, rfl⟩
      rw [hnb] at Hfin ⊢
      clear hf2 HR1 HT1 HF1 HC1 Hs1 Hcall HR2 HT2 HF2 hnb
      cases dead with
      | true =>
        go_wp2_with fail
        go_end0
        exact ⟨rfl, Hfin.out true rfl⟩
      | false =>
        cases nb with
        | true =>
          go_wp2_with fail
          go_end0
          exact ⟨rfl, Hfin.out true rfl⟩
        | false =>
          go_wp2_with fail
          go_end0
          exact ⟨rfl, Hfin.out false rfl⟩
end Go.Proofs.YtkjfpdfkcfgfkaaGreat

/- The document's answer: Domain. -/
namespace Go.Proofs.YtkjfpdfkcfgfkaaGreat
open Go.RowKit

/-- A list of a call's own. -/
structure Mine (w0 w : World) (v : Value) (e : TypeId) (xs : List Value) : Prop where
  row : Row w v e xs
  nw : Nw w0 w
  since : ∀ q, v.ownBlock = some q → w0.heap.size ≤ q
theorem Mine.nil {w0 w : World} (h : Nw w0 w) (e : TypeId) : Mine w0 w (.slice none 0 0) e [] := ⟨Row.nil _ _, h, fun q hq => (by cases hq)⟩
theorem Mine.more {w0 w w2 : World} {v v' : Value} {e : TypeId} {xs ys : List Value} {g : Nat} (h : Mine w0 w v e xs) (hr : Row w2 v' e ys) (hf : Fr (fun k => v.ownBlock = some k) w w2) (hv : v'.ownBlock = some g) (ha : v.ownBlock = some g ∨ w.heap.size ≤ g) : Mine w0 w2 v' e ys :=
  ⟨hr, h.nw.trans hf (fun i hi => .inr (h.since i hi)), fun q hq => by
    rw [hv] at hq
    cases hq
    rcases ha with h' | h'
    · exact h.since _ h'
    · exact Nat.le_trans h.nw.size h'⟩
theorem Mine.step {w0 w w2 : World} {v : Value} {e : TypeId} {xs : List Value} (h : Mine w0 w v e xs) (f : Nw w w2) : Mine w0 w2 v e xs := ⟨h.row.nw f, h.nw.trans f (fun _ x => x.elim), h.since⟩
/-- The values among the first k that are in. -/
def trueTo (bs : List Bool) (k : Nat) : List Nat := (List.range k).filter (fun x => bs.getD x false)
theorem trueTo_succ (bs : List Bool) (k : Nat) : trueTo bs (k + 1) = trueTo bs k ++ if bs.getD k false then [k] else [] := by
  unfold trueTo
  rw [List.range_succ, List.filter_append]
  congr 1
  cases h : bs.getD k false with
  | true => simp only [List.filter_cons, h, if_true, List.filter_nil]
  | false => simp only [List.filter_cons, h, Bool.false_eq_true, if_false, List.filter_nil]
theorem trueTo_le (bs : List Bool) (k : Nat) : (trueTo bs k).length ≤ k := Nat.le_trans (List.length_filter_le _ _) (by simp)
theorem vals_true (bss : List (List Bool)) (h8 : bss.length ≤ 8) (h6 : ∀ u, u < bss.length → (bss.getD u []).length ≤ 6) (q : Nat) (hq : q < bss.length) : vals ((domB bss).getD q 0) = trueTo (bss.getD q []) (bss.getD q []).length := by
  have hl := h6 q hq
  obtain ⟨bs, hbs⟩ : ∃ bs, bss.getD q [] = bs := ⟨_, rfl⟩
  have hb : ∀ v, ((domB bss).getD q 0).testBit v = bs.getD v false := fun v => by rw [domB_bit _ h8 h6, hbs]
  rw [hbs] at hl ⊢
  unfold vals trueTo
  have e1 : (List.range 8).filter (fun i => ((domB bss).getD q 0).testBit i) = (List.range 8).filter (fun x => bs.getD x false) := List.filter_congr (fun x _ => hb x)
  rw [e1]
  have e2 : List.range 8 = List.range bs.length ++ (List.range (8 - bs.length)).map (fun x => bs.length + x) := by
    rw [← List.range_add]
    congr 1
    omega
  rw [e2, List.filter_append]
  have e3 : ((List.range (8 - bs.length)).map (fun x => bs.length + x)).filter (fun x => bs.getD x false) = [] := by
    rw [List.filter_eq_nil_iff]
    intro x hx
    obtain ⟨y, _, rfl⟩ := List.mem_map.1 hx
    simp [List.getD]
  rw [e3, List.append_nil]

set_option maxHeartbeats 1600000 in
set_option maxRecDepth 1000000 in
theorem refDomain_any (lo Y : Nat) (zs : List Int) (szv inv : Value) (vs : List Value) (bss : List (List Bool)) (dead : Bool) (tv lv : Value) (q : Nat) (w : World) (hR : RIn w lo Y zs szv inv vs bss dead tv lv) (hq : q < bss.length) :
    Calls Tryz.prog 54 #[.pointer (some ⟨Y, 0, none⟩), .int .i64 (q : Int)] w fun e w' => ∃ v, e = .returned v ∧ Mine w w' v 3 (ints (if dead then [] else trueTo (bss.getD q []) (bss.getD q []).length)) := by
  obtain ⟨i0, hi0, hz0, hz1, hz2⟩ := info_parts Tryz.infoInt
  obtain ⟨io, icap, hio, hBR, hcY⟩ := hR.brows
  obtain ⟨ib, iof, qo, qc, hie, hil, hic, hRow⟩ := hBR q hq
  have hb6 := hR.b6 q hq
  have h8 := hR.in8
  have cD : w.cell? ⟨Y, 2, none⟩ = some (.bool dead) := hR.blk.cell 2
  have hYl := hR.blk.lt
  obtain ⟨bs, hbs⟩ : ∃ bs, bss.getD q [] = bs := ⟨_, rfl⟩
  rw [hbs] at hic hRow hb6 ⊢
  subst hie
  have hqI : (q : Int) < (bss.length : Int) := by omega
  obtain ⟨res, hres⟩ : ∃ res, (if dead = true then [] else trueTo bs bs.length) = res := ⟨_, rfl⟩
  rw [hres]
  have Hres := hd hres
  clear hres
  have HcY := hd hcY
  have HcD := hd cD
  have Hic := hd hic
  have HRow := hd hRow
  clear hBR hcY hR hio hic hRow cD hbs
  go_enter Tryz.func54, Tryz.ntmps54
  go_wp2_with fail
  go_loopw [5, 6] (fun out x wr => ∃ k : Nat, k ≤ bs.length ∧ x = .int .i64 (k : Int) ∧ (dead = true → k = 0) ∧ Hid (Mine w wr out 3 (ints (trueTo bs k)))) (fun _ x _ => bs.length - (intOf x).toNat)
  case atStart => exact ⟨0, by omega, rfl, fun _ => rfl, Mine.nil (Fr.refl _ _) _⟩
  case round =>
    obtain ⟨k, hk, rfl, hdk, HM⟩ := hrel
    have c1 : wr.cell? ⟨Y, 1, none⟩ = some (.slice (some ⟨ib, iof, none⟩) bss.length icap) := (HM.out.nw.cell hYl (fun x => x)).trans HcY.out
    have c2 : wr.cell? ⟨Y, 2, none⟩ = some (.bool dead) := (HM.out.nw.cell hYl (fun x => x)).trans HcD.out
    have hYl1 : Y < wr.heap.size := Nat.lt_of_lt_of_le hYl HM.out.nw.size
    have cic : wr.cell? ⟨ib, iof + q, none⟩ = some (.slice qo bs.length qc) := (HM.out.nw.cell hil (fun x => x)).trans Hic.out
    have hil1 : ib < wr.heap.size := Nat.lt_of_lt_of_le hil HM.out.nw.size
    obtain ⟨oo, oc, hof, _⟩ := HM.out.row.form
    rw [show (ints (trueTo bs k)).length = (trueTo bs k).length by simp [ints]] at hof
    subst hof
    have htl := trueTo_le bs k
    by_cases hlt : k < bs.length
    · have hdk1 : (k : Int) < (bs.length : Int) := by omega
      cases dead with
      | true =>
        have Hk0 := hd (hdk rfl)
        clear hdk
        go_wp2_with fail
        go_ret
        refine ⟨_, rfl, ?_⟩
        show Mine w wr (.slice oo (trueTo bs k).length oc) 3 (ints res)
        have h1 := HM.out
        have e0 : trueTo bs k = [] := by rw [Hk0.out]; rfl
        have e1 : res = [] := Hres.out.symm
        rw [e0] at h1 ⊢
        rw [e1]
        exact h1
      | false =>
        obtain ⟨qb, qof, hqe, hql, hqc⟩ := (HRow.out.nw HM.out.nw) k hlt
        subst hqe
        have Hs := hd (trueTo_succ bs k)
        obtain ⟨x, hx⟩ : ∃ x, bs.getD k false = x := ⟨_, rfl⟩
        rw [hx] at hqc Hs
        clear hx hdk
        cases x with
        | true =>
          obtain ⟨tl, htl'⟩ : ∃ tl, (trueTo bs k).length = tl := ⟨_, rfl⟩
          have Htl := hd htl'
          rw [htl'] at HM htl ⊢
          clear htl'
          go_wp2_with (at_builtin; refine wpList_append_own_at _ rfl _ _ 22 rfl 0 3 i0 (.int .i64 0) 1 8 Tryz.underlying22 hi0 hz0 hz1 hz2 rfl (by decide) _ _ _ rfl (Row.alloc HM.out.row _) ⟨_, 0, none⟩ 1 1 [.int .i64 (k : Int)] rfl rfl (cell_one_new _ _ _) (by simp [Value.oneCell']) (by rw [show (ints (trueTo bs k)).length = (trueTo bs k).length by simp [ints], Htl.out]; unfold maxLen; omega) (by rw [show (ints (trueTo bs k)).length = (trueTo bs k).length by simp [ints], Htl.out]; omega) (Nat.zero_le _) ?_; intro v' w3 hown' hgrow _ hat; obtain ⟨g', cap', rfl, hr3, hf3, ha3, hlt3⟩ := app1 hown' hgrow hat)
          refine ⟨⟨k + 1, by omega, by simp, fun h => (by cases h), ?_⟩, by simp [intOf]; omega⟩
          rw [Hs.out]
          have e1 : ints (trueTo bs k ++ if true = true then [k] else []) = ints (trueTo bs k) ++ [.int .i64 (k : Int)] := by simp [ints]
          rw [e1]
          rw [show (ints (trueTo bs k)).length = (trueTo bs k).length by simp [ints]] at hr3
          exact HM.out.more (g := g') hr3 hf3 rfl (ha3.imp (fun h => h) (fun h => by omega))
        | false =>
          go_wp2_with fail
          refine ⟨⟨k + 1, by omega, by simp, fun h => (by cases h), ?_⟩, by simp [intOf]; omega⟩
          rw [Hs.out]
          simpa using HM
    · obtain rfl : bs.length = k := by omega
      have hdk1 : ¬ ((bs.length : Int) < (bs.length : Int)) := by omega
      have Hdk := hd hdk
      clear hdk
      go_wp2_with fail
      go_ret
      refine ⟨_, rfl, ?_⟩
      cases dead with
      | true =>
        show Mine w wr (.slice oo (trueTo bs bs.length).length oc) 3 (ints res)
        have h1 := HM.out
        have e0 : trueTo bs bs.length = [] := by rw [Hdk.out rfl]; rfl
        have e1 : res = [] := Hres.out.symm
        rw [e0] at h1 ⊢
        rw [e1]
        exact h1
      | false =>
        show Mine w wr (.slice oo (trueTo bs bs.length).length oc) 3 (ints res)
        have e1 : res = trueTo bs bs.length := Hres.out.symm
        rw [e1]
        exact HM.out
end Go.Proofs.YtkjfpdfkcfgfkaaGreat

/- The document's answer: Take. -/
namespace Go.Proofs.YtkjfpdfkcfgfkaaGreat
open Go.RowKit

/-- What Take strikes. -/
def struckTo (bss : List (List Bool)) (v value : Nat) (only : Bool) : Nat → List (List Bool)
  | 0 => bss
  | k + 1 => if (decide (k = value)) != only then offB (struckTo bss v value only k) v k else struckTo bss v value only k
theorem struckTo_len (bss : List (List Bool)) (v value : Nat) (only : Bool) : ∀ k, (struckTo bss v value only k).length = bss.length
  | 0 => rfl
  | k + 1 => by
    unfold struckTo
    split
    · simp [offB, struckTo_len bss v value only k]
    · exact struckTo_len bss v value only k
theorem struckTo_get (bss : List (List Bool)) (v value : Nat) (only : Bool) (hv : v < bss.length) (q x : Nat) : ∀ k, ((struckTo bss v value only k).getD q []).getD x false = if v = q ∧ x < k ∧ ((decide (x = value)) != only) = true then false else (bss.getD q []).getD x false
  | 0 => by simp [struckTo]
  | k + 1 => by
    have ih := struckTo_get bss v value only hv q x k
    unfold struckTo
    by_cases hc : ((decide (k = value)) != only) = true
    · rw [if_pos hc, offB_get _ _ _ _ _ (by rw [struckTo_len]; exact hv), ih]
      by_cases h1 : v = q ∧ k = x
      · obtain ⟨rfl, rfl⟩ := h1
        rw [if_pos ⟨rfl, rfl⟩, if_pos ⟨rfl, by omega, hc⟩]
      · rw [if_neg h1]
        by_cases h2 : v = q ∧ x < k ∧ ((decide (x = value)) != only) = true
        · rw [if_pos h2, if_pos ⟨h2.1, by omega, h2.2.2⟩]
        · rw [if_neg h2, if_neg (fun h3 => h2 ⟨h3.1, by
            have : x ≠ k := fun e => h1 ⟨h3.1, e.symm⟩
            omega, h3.2.2⟩)]
    · rw [if_neg hc, ih]
      by_cases h2 : v = q ∧ x < k ∧ ((decide (x = value)) != only) = true
      · rw [if_pos h2, if_pos ⟨h2.1, by omega, h2.2.2⟩]
      · rw [if_neg h2, if_neg (fun h3 => h2 ⟨h3.1, by
          have : x ≠ k := fun e => hc (by rw [← e]; exact h3.2.2)
          omega, h3.2.2⟩)]

set_option maxHeartbeats 1600000 in
set_option maxRecDepth 1000000 in
theorem refTake_ok (W : World) (lo Y : Nat) (zs : List Int) (szv inv : Value) (vs : List Value) (bss : List (List Bool)) (tv lv : Value) (ts : List TbW) (v value : Nat) (only : Bool) (w : World) (hlo : W.heap.size ≤ lo) (hW : Nw W w) (ht12 : ts.length ≤ 12)
    (hok : ∀ i, i < ts.length → okTable zs (ts.getD i tbw0).tb.vars (ts.getD i tbw0).tb.rows (ts.getD i tbw0).way = true) (hR : RIn w lo Y zs szv inv vs bss false tv lv) (hT : RTabs W w tv ts) (htv : ∀ k, tv.ownBlock = some k → (∃ cur, Blk w k cur 41)) (hv : v < zs.length) (hx : (value : Int) < zs.getD v 0) :
    Calls Tryz.prog 58 #[.pointer (some ⟨Y, 0, none⟩), .int .i64 (v : Int), .int .i64 (value : Int), .bool only] w fun e w' => e = .returned (.int .i64 0) ∧ ∃ bss', RIn w' lo Y zs szv inv vs bss' (noneB bss') tv lv ∧ RTabs W w' tv ts ∧ CInv (ts.map TbW.tb) (domB (struckTo bss v value only (zs.getD v 0).toNat)) (domB bss') ∧ (∀ b ∈ ts.map TbW.tb, SuppAll b (domB bss')) ∧ Fr (fun q => q = Y ∨ ∃ u, u < vs.length ∧ (vs.getD u nilS).ownBlock = some q) w w' := by
  obtain ⟨hz1, hz8⟩ := okSizes_len hR.zok
  have hzg := okSizes_get hR.zok v hv
  obtain ⟨szo, szc, hszf, _⟩ := hR.sz.form
  rw [List.length_map] at hszf
  have hbl := hR.len
  obtain ⟨n, hn⟩ : ∃ n, (zs.getD v 0).toNat = n := ⟨_, rfl⟩
  have hzn : zs.getD v 0 = (n : Int) := by omega
  have hvI : (v : Int) < (zs.length : Int) := by omega
  rw [hn]
  rw [hzn] at hx hzg
  obtain ⟨g, gcap, hvg, _, hglo⟩ := hR.row v (by rw [hbl]; exact hv)
  rw [hR.each v hv, hn] at hvg
  have hszI : IntsAt w szo zs := by
    have h := hR.sz
    rw [hszf] at h
    exact h.ints'
  obtain ⟨sb, sof, hse, hsl, hsc⟩ := hszI v hv
  rw [hzn] at hsc
  subst hse
  have HR := hd hR
  have HT := hd hT
  have HW := hd hW
  have Htv := hd htv
  have Hvg := hd hvg
  have Hszf := hd hszf
  have Hsc := hd hsc
  have Hn := hd hn
  have cS0 : w.cell? ⟨Y, 0, none⟩ = some (.slice (some ⟨sb, sof, none⟩) zs.length szc) := by
    have := hR.blk.cell 0
    rw [hszf] at this
    exact this
  have cD0 : w.cell? ⟨Y, 2, none⟩ = some (.bool false) := hR.blk.cell 2
  have hYl0 := hR.blk.lt
  have hgu : ∃ u, u < vs.length ∧ (vs.getD u nilS).ownBlock = some g := ⟨v, by rw [hR.rows.len, hbl]; exact hv, by rw [hvg]; rfl⟩
  have Hgu := hd hgu
  have Hnb : Hid (∀ q, (∃ u, u < vs.length ∧ (vs.getD u nilS).ownBlock = some q) → ∃ cur, Blk w q cur 4) := fun q ⟨u, hu, hq⟩ => by
    obtain ⟨cur, hb, _⟩ := (hR.rows.row u (by rw [← hR.rows.len]; exact hu)).blk hq
    exact ⟨cur, hb⟩
  have Hvslo : Hid (∀ q, (∃ u, u < vs.length ∧ (vs.getD u nilS).ownBlock = some q) → lo ≤ q) := fun q ⟨u, hu, hq⟩ => hR.rows.lo u (by rw [← hR.rows.len]; exact hu) q hq
  have hv0 : ¬ ((v : Int) < 0) := by omega
  have hx0 : ¬ ((value : Int) < 0) := by omega
  have hvn : ¬ (zs.length ≤ v) := by omega
  have hxn : ¬ (n ≤ value) := by omega
  clear hR hT hW htv hvg hszf hszI hgu hn hzn
  go_enter Tryz.func58, Tryz.ntmps58
  go_wp2_with fail
  go_loopw [9] (fun x wr => ∃ k : Nat, k ≤ n ∧ x = .int .i64 (k : Int) ∧ Hid (RIn wr lo Y zs szv inv vs (struckTo bss v value only k) false tv lv) ∧ Hid (RTabs W wr tv ts) ∧ Hid (Fr (fun q => ∃ u, u < vs.length ∧ (vs.getD u nilS).ownBlock = some q) w wr)) (fun x _ => n - (intOf x).toNat)
  case atStart => exact ⟨0, by omega, rfl, HR, HT, Fr.refl _ _⟩
  case round =>
    clear HR HT
    obtain ⟨k, hk, rfl, HR, HT, HF⟩ := hrel
    have cS : wr.cell? ⟨Y, 0, none⟩ = some (.slice (some ⟨sb, sof, none⟩) zs.length szc) := by
      have := HR.out.blk.cell 0
      rw [Hszf.out] at this
      exact this
    have hYl := HR.out.blk.lt
    have hszI : IntsAt wr (some ⟨sb, sof, none⟩) zs := by
      have h := HR.out.sz
      rw [Hszf.out] at h
      exact h.ints'
    obtain ⟨sb', sof', hse, hsl', hsc'⟩ := hszI v hv
    simp only [Option.some.injEq, Addr.mk.injEq, and_true] at hse
    obtain ⟨rfl, rfl⟩ := hse
    rw [show zs.getD v 0 = (n : Int) by have := Hn.out; omega] at hsc'
    clear hszI
    by_cases hlt : k < n
    · have hdk : (k : Int) < (n : Int) := by omega
      have hub : v < (struckTo bss v value only k).length := by rw [struckTo_len, hbl]; exact hv
      obtain ⟨io, icap, hio, hBR, hcY⟩ := HR.out.brows
      obtain ⟨ib, iof, qo, qc, hie, hil, hicl, _⟩ := hBR v hub
      obtain ⟨g2, gc2, hvg2, hrow, _⟩ := HR.out.row v hub
      have hl4 : ((struckTo bss v value only k).getD v []).length = n := by rw [HR.out.each v hv]; exact Hn.out
      rw [Hvg.out, hl4] at hvg2
      simp only [Value.slice.injEq, Option.some.injEq, Addr.mk.injEq, and_true] at hvg2
      obtain ⟨rfl, hvgr, rfl⟩ := hvg2
      clear hvgr
      have hqe : (Value.slice qo ((struckTo bss v value only k).getD v []).length qc) = .slice (some ⟨g, 0, none⟩) n gcap := by
        obtain ⟨g3, c3, he3, hb3, hc3, _⟩ := HR.out.inn.cell v (by rw [HR.out.rows.len]; exact hub)
        rw [hio, hie] at he3
        simp only [Value.slice.injEq, Option.some.injEq, Addr.mk.injEq, and_true] at he3
        obtain ⟨⟨rfl, rfl⟩, _⟩ := he3
        rw [Nat.zero_add, hc3] at hicl
        rw [← Hvg.out]
        have hvl : v < vs.length := by rw [HR.out.rows.len]; exact hub
        rw [show vs.getD v nilS = vs[v] by simp [List.getD, hvl]]
        exact (Option.some.inj hicl).symm
      rw [hqe] at hicl
      obtain ⟨curg, hbg, _⟩ := hrow.blk (k := g) rfl
      have hgl := hbg.lt
      have hgf := hbg.free k
      obtain ⟨old, hold⟩ : ∃ old, wr.cell? ⟨g, k, none⟩ = some old := by
        obtain ⟨gx, cx, hex, _, hcx, _⟩ := hrow.cell k (by rw [List.length_map, hl4]; exact hlt)
        simp only [Value.slice.injEq, Option.some.injEq, Addr.mk.injEq, and_true] at hex
        obtain ⟨rfl, _⟩ := hex
        exact ⟨_, hcx⟩
      obtain ⟨sl, hsl4⟩ : ∃ sl, (struckTo bss v value only k).length = sl := ⟨_, rfl⟩
      rw [hsl4] at hcY
      have hvs : (v : Int) < (sl : Int) := by omega
      have hvs' : v < sl := by omega
      subst hie
      have Hst : Hid (struckTo bss v value only (k + 1) = if ((decide (k = value)) != only) = true then offB (struckTo bss v value only k) v k else struckTo bss v value only k) := rfl
      have Hoff : Hid (RIn (wr.setCell ⟨g, k, none⟩ (.bool false)) lo Y zs szv inv vs (offB (struckTo bss v value only k) v k) false tv lv ∧ RTabs W (wr.setCell ⟨g, k, none⟩ (.bool false)) tv ts ∧ Fr (fun q => ∃ u, u < vs.length ∧ (vs.getD u nilS).ownBlock = some q) w (wr.setCell ⟨g, k, none⟩ (.bool false))) := by
        have hf7 : Fr (fun q => q = g) wr (wr.setCell ⟨g, k, none⟩ (.bool false)) := (Fr.refl _ wr).setCell _ _ (.inl rfl)
        refine ⟨HR.out.off v k g n gcap hub Hvg.out, HT.out.fr hf7 (fun q hq e => ?_), HF.out.trans hf7 (fun i h => .inl (by rw [h]; exact Hgu.out))⟩
        obtain ⟨cur, hb⟩ := Htv.out q hq
        obtain ⟨cur2, hb2⟩ := Hnb.out g Hgu.out
        rw [e] at hb
        exact absurd (hb.inj hb2).2 (by decide)
      clear hBR hio hrow hqe hsl4 hub hl4
      by_cases hkv : k = value
      · have hkb : ((k : Int) == (value : Int)) = true := by rw [hkv]; simp
        have Hkd : Hid (decide (k = value) = true) := hd (by simp [hkv])
        clear hkv
        cases only with
        | true =>
          go_wp2_with fail
          refine ⟨⟨k + 1, by omega, by simp, ?_, HT, HF⟩, by simp [intOf]; omega⟩
          rw [Hst.out, Hkd.out]
          exact HR
        | false =>
          go_wp2_with fail
          refine ⟨⟨k + 1, by omega, by simp, ?_, Hoff.out.2.1, Hoff.out.2.2⟩, by simp [intOf]; omega⟩
          rw [Hst.out, Hkd.out]
          exact Hoff.out.1
      · have hkb : ((k : Int) == (value : Int)) = false := by rw [beq_eq_false_iff_ne]; omega
        have Hkd : Hid (decide (k = value) = false) := hd (by simp [hkv])
        clear hkv
        cases only with
        | true =>
          go_wp2_with fail
          refine ⟨⟨k + 1, by omega, by simp, ?_, Hoff.out.2.1, Hoff.out.2.2⟩, by simp [intOf]; omega⟩
          rw [Hst.out, Hkd.out]
          exact Hoff.out.1
        | false =>
          go_wp2_with fail
          refine ⟨⟨k + 1, by omega, by simp, ?_, HT, HF⟩, by simp [intOf]; omega⟩
          rw [Hst.out, Hkd.out]
          exact HR
    · obtain rfl : n = k := by omega
      have hdk : ¬ ((n : Int) < (n : Int)) := by omega
      have Hcall := hd (close_any W lo Y zs szv inv vs (struckTo bss v value only n) false tv lv ts wr hlo (HW.out.trans HF.out (fun i h => .inr (by have := Hvslo.out i h; omega))) ht12 hok HR.out HT.out (fun q hq => by
        obtain ⟨cur, hb⟩ := Htv.out q hq
        exact ⟨cur, hb.fr HF.out (fun h => by
          obtain ⟨cur2, hb2⟩ := Hnb.out q h
          exact absurd (hb.inj hb2).2 (by decide))⟩))
      go_wp2_with fail
      refine Hcall.out.mono ?_
      rintro e w2 ⟨rfl, b', h1, h2, h3, h4, h5⟩
      have Hfin := hd (show ∃ bss', RIn w2 lo Y zs szv inv vs bss' (noneB bss') tv lv ∧ RTabs W w2 tv ts ∧ CInv (ts.map TbW.tb) (domB (struckTo bss v value only n)) (domB bss') ∧ (∀ b ∈ ts.map TbW.tb, SuppAll b (domB bss')) ∧ Fr (fun q => q = Y ∨ ∃ u, u < vs.length ∧ (vs.getD u nilS).ownBlock = some q) w w2 from ⟨b', h1, h2, h3, h4, (HF.out.mono (fun _ h => .inl (.inr h))).trans h5 (fun i h => .inl h)⟩)
      clear h1 h2 h3 h4 h5
      go_wp2_with fail
      go_ret
      exact ⟨rfl, Hfin.out⟩

set_option maxHeartbeats 1600000 in
set_option maxRecDepth 1000000 in
theorem refTake_arg (lo Y : Nat) (zs : List Int) (szv inv : Value) (vs : List Value) (bss : List (List Bool)) (dead : Bool) (tv lv : Value) (v value : Int) (only : Bool) (w : World) (hR : RIn w lo Y zs szv inv vs bss dead tv lv) (hno : ¬ (0 ≤ v ∧ v < zs.length ∧ 0 ≤ value ∧ value < zs.getD v.toNat 0)) :
    Calls Tryz.prog 58 #[.pointer (some ⟨Y, 0, none⟩), .int .i64 v, .int .i64 value, .bool only] w fun e w' => e = .returned (.int .i64 1) ∧ w' = w := by
  obtain ⟨szo, szc, hszf, _⟩ := hR.sz.form
  rw [List.length_map] at hszf
  have cS0 : w.cell? ⟨Y, 0, none⟩ = some (.slice szo zs.length szc) := by
    have := hR.blk.cell 0
    rw [hszf] at this
    exact this
  have hYl := hR.blk.lt
  have hszI : IntsAt w szo zs := by
    have h := hR.sz
    rw [hszf] at h
    exact h.ints'
  clear hR hszf
  go_enter Tryz.func58, Tryz.ntmps58
  by_cases hv0 : v < 0
  · go_wp2_with fail
    go_ret
    exact ⟨rfl, rfl⟩
  · by_cases hvl : v < zs.length
    · obtain ⟨u, rfl⟩ : ∃ u : Nat, v = (u : Int) := ⟨v.toNat, by omega⟩
      have hul : u < zs.length := by omega
      have hun : ¬ (zs.length ≤ u) := by omega
      have hge : ¬ ((zs.length : Int) ≤ (u : Int)) := by omega
      obtain ⟨sb, sof, hse, hsl, hsc⟩ := hszI u hul
      subst hse
      obtain ⟨z, hz⟩ : ∃ z, zs.getD u 0 = z := ⟨_, rfl⟩
      rw [hz] at hsc
      rw [Int.toNat_natCast, hz] at hno
      by_cases hx0 : value < 0
      · go_wp2_with fail
        go_ret
        exact ⟨rfl, rfl⟩
      · have hxz : z ≤ value := by omega
        go_wp2_with fail
        go_ret
        exact ⟨rfl, rfl⟩
    · have hge : (zs.length : Int) ≤ v := by omega
      go_wp2_with fail
      go_ret
      exact ⟨rfl, rfl⟩

set_option maxHeartbeats 1600000 in
set_option maxRecDepth 1000000 in
theorem refTake_dead (lo Y : Nat) (zs : List Int) (szv inv : Value) (vs : List Value) (bss : List (List Bool)) (tv lv : Value) (v value : Nat) (only : Bool) (w : World) (hR : RIn w lo Y zs szv inv vs bss true tv lv) (hv : v < zs.length) (hx : (value : Int) < zs.getD v 0) :
    Calls Tryz.prog 58 #[.pointer (some ⟨Y, 0, none⟩), .int .i64 (v : Int), .int .i64 (value : Int), .bool only] w fun e w' => e = .returned (.int .i64 3) ∧ w' = w := by
  obtain ⟨szo, szc, hszf, _⟩ := hR.sz.form
  rw [List.length_map] at hszf
  have cS0 : w.cell? ⟨Y, 0, none⟩ = some (.slice szo zs.length szc) := by
    have := hR.blk.cell 0
    rw [hszf] at this
    exact this
  have cD0 : w.cell? ⟨Y, 2, none⟩ = some (.bool true) := hR.blk.cell 2
  have hYl := hR.blk.lt
  have hszI : IntsAt w szo zs := by
    have h := hR.sz
    rw [hszf] at h
    exact h.ints'
  obtain ⟨sb, sof, hse, hsl, hsc⟩ := hszI v hv
  subst hse
  have hzg := okSizes_get hR.zok v hv
  obtain ⟨n, hn⟩ : ∃ n : Nat, zs.getD v 0 = (n : Int) := ⟨(zs.getD v 0).toNat, by omega⟩
  rw [hn] at hsc hx
  have hvI : (v : Int) < (zs.length : Int) := by omega
  have hv0 : ¬ ((v : Int) < 0) := by omega
  have hx0 : ¬ ((value : Int) < 0) := by omega
  have hvn : ¬ (zs.length ≤ v) := by omega
  have hxn : ¬ (n ≤ value) := by omega
  clear hR hszf hszI hn hzg
  go_enter Tryz.func58, Tryz.ntmps58
  go_wp2_with fail
  go_ret
  exact ⟨rfl, rfl⟩
end Go.Proofs.YtkjfpdfkcfgfkaaGreat

/- The document's answer: Look. -/
namespace Go.Proofs.YtkjfpdfkcfgfkaaGreat
open Go.RowKit

/-- A variable's values, as Look counts them. -/
def rDom (bss : List (List Bool)) (dead : Bool) (q : Nat) : List Nat := if dead then [] else trueTo (bss.getD q []) (bss.getD q []).length
def leftR (bss : List (List Bool)) (dead : Bool) : Nat → Nat
  | 0 => 0
  | k + 1 => leftR bss dead k + (rDom bss dead k).length
def fixR (bss : List (List Bool)) (dead : Bool) : Nat → Nat
  | 0 => 0
  | k + 1 => fixR bss dead k + if (rDom bss dead k).length = 1 then 1 else 0
theorem rDom_le {bss : List (List Bool)} {dead : Bool} (h6 : ∀ u, u < bss.length → (bss.getD u []).length ≤ 6) (q : Nat) (hq : q < bss.length) : (rDom bss dead q).length ≤ 6 := by
  unfold rDom
  cases dead with
  | true => simp
  | false =>
    have := trueTo_le (bss.getD q []) (bss.getD q []).length
    have := h6 q hq
    simp only [Bool.false_eq_true, if_false]
    omega
theorem leftR_le {bss : List (List Bool)} {dead : Bool} (h6 : ∀ u, u < bss.length → (bss.getD u []).length ≤ 6) : ∀ k, k ≤ bss.length → leftR bss dead k ≤ 6 * k ∧ fixR bss dead k ≤ k
  | 0, _ => ⟨Nat.le_refl _, Nat.le_refl _⟩
  | k + 1, h => by
    obtain ⟨h1, h2⟩ := leftR_le (dead := dead) h6 k (by omega)
    have h3 := rDom_le (dead := dead) h6 k (by omega)
    unfold leftR fixR
    constructor
    · omega
    · split <;> omega
theorem store_one {A : World} {b i : Nat} {v old : Value} (h1 : v.oneCell' = true) (hc : A.cell? ⟨b, i, none⟩ = some old) (hf : A.frozen? ⟨b, i, none⟩ = false) : (Sem.store Mode.plain (⟨b, i, none⟩ : Addr) v (.pure ())).run Tryz.prog A = .ok () (A.setCell ⟨b, i, none⟩ v) := by
  cases v <;> first
    | (simp [Value.oneCell'] at h1; done)
    | (unfold Sem.run; simp [hc, hf, Sem.run])
/-- A Look is stored in a block of its own. -/
theorem exec_store6 {ev : Operand → Value} {o : Oper} {w : World} {b : Nat} {n0 n1 n2 n4 n5 : Int} {d : Bool} {o0 o1 o2 o3 o4 o5 : Value} {e : TypeId} (t : TypeId) (x y : Operand) (ho : o.op = .store t x y) (hx : ev x = .pointer (some ⟨b, 0, none⟩)) (hy : ev y = .agg #[.int .i64 n0, .int .i64 n1, .int .i64 n2, .bool d, .int .i64 n4, .int .i64 n5]) (hsz : (sizeOf t).run Tryz.prog w = .ok 6 w) (hb : Blk w b #[o0, o1, o2, o3, o4, o5] e) :
    (execOp ev o).run Tryz.prog w = .ok .skip ((((((w.setCell ⟨b, 0, none⟩ (.int .i64 n0)).setCell ⟨b, 1, none⟩ (.int .i64 n1)).setCell ⟨b, 2, none⟩ (.int .i64 n2)).setCell ⟨b, 3, none⟩ (.bool d)).setCell ⟨b, 4, none⟩ (.int .i64 n4)).setCell ⟨b, 5, none⟩ (.int .i64 n5)) := by
  have h0 := store_one (v := .int .i64 n0) rfl (hb.cell 0) (hb.free 0)
  have b1 := hb.set 0 (.int .i64 n0)
  have h1 := store_one (v := .int .i64 n1) rfl (b1.cell 1) (b1.free 1)
  have b2 := b1.set 1 (.int .i64 n1)
  have h2 := store_one (v := .int .i64 n2) rfl (b2.cell 2) (b2.free 2)
  have b3 := b2.set 2 (.int .i64 n2)
  have h3 := store_one (v := .bool d) rfl (b3.cell 3) (b3.free 3)
  have b4 := b3.set 3 (.bool d)
  have h4 := store_one (v := .int .i64 n4) rfl (b4.cell 4) (b4.free 4)
  have b5 := b4.set 4 (.int .i64 n4)
  have h5 := store_one (v := .int .i64 n5) rfl (b5.cell 5) (b5.free 5)
  have hcs : (Value.agg #[.int .i64 n0, .int .i64 n1, .int .i64 n2, .bool d, .int .i64 n4, .int .i64 n5]).cells = #[.int .i64 n0, .int .i64 n1, .int .i64 n2, .bool d, .int .i64 n4, .int .i64 n5] := by kernel_rfl
  unfold execOp
  simp [ho, hx, hy, Instr.storeAt, Instr.sureAddr, storeVar, hcs, hsz, storeCells, Addr.add, store, h0, h1, h2, h3, h4, h5, Result.andThen]
noncomputable def rlkReg : Array Oper := regOps Tryz.f60 1

set_option maxHeartbeats 1600000 in
set_option maxRecDepth 1000000 in
theorem refLook_any (lo Y : Nat) (zs : List Int) (szv inv : Value) (vs : List Value) (bss : List (List Bool)) (dead : Bool) (tto llo : Option Addr) (tn tcap ln lcap : Nat) (w : World) (hR : RIn w lo Y zs szv inv vs bss dead (.slice tto tn tcap) (.slice llo ln lcap)) :
    Calls Tryz.prog 60 #[.pointer (some ⟨Y, 0, none⟩)] w fun e w' => e = .returned (.agg #[.int .i64 (zs.length : Int), .int .i64 (tn : Int), .int .i64 (ln : Int), .bool dead, .int .i64 (leftR bss dead zs.length : Int), .int .i64 (fixR bss dead zs.length : Int)]) ∧ Nw w w' := by
  obtain ⟨szo, szc, hszf, _⟩ := hR.sz.form
  rw [List.length_map] at hszf
  obtain ⟨hz1, hz8⟩ := okSizes_len hR.zok
  obtain ⟨W, hW⟩ : ∃ W, W = w.alloc (.cells #[.int .i64 0, .int .i64 0, .int .i64 0, .bool false, .int .i64 0, .int .i64 0] 110) := ⟨_, rfl⟩
  have hfW : Nw w W := by rw [hW]; exact (Fr.refl _ w).alloc _
  have hbR : Blk W w.heap.size #[.int .i64 0, .int .i64 0, .int .i64 0, .bool false, .int .i64 0, .int .i64 0] 110 := by rw [hW]; exact Blk.new _ _ _
  have hRW := hR.nw hfW
  have c0 : W.cell? ⟨Y, 0, none⟩ = some (.slice szo zs.length szc) := by
    have := hRW.blk.cell 0
    rw [hszf] at this
    exact this
  have c2 : W.cell? ⟨Y, 2, none⟩ = some (.bool dead) := hRW.blk.cell 2
  have c3 : W.cell? ⟨Y, 3, none⟩ = some (.slice tto tn tcap) := hRW.blk.cell 3
  have c4 : W.cell? ⟨Y, 4, none⟩ = some (.slice llo ln lcap) := hRW.blk.cell 4
  have hYl := hRW.blk.lt
  have HRW := hd hRW
  have HbR := hd hbR
  have HfW := hd hfW
  have Hszf := hd hszf
  clear hR hRW hbR hfW hszf
  go_enter Tryz.func60, Tryz.ntmps60
  go_upto_region 1 with fail
  rw [← hW]
  clear hW
  go_cut [3] (fun p wx => ∃ L, p = .pointer (some ⟨L, 0, none⟩) ∧ Hid (Blk wx L #[.int .i64 (zs.length : Int), .int .i64 (tn : Int), .int .i64 (ln : Int), .bool dead, .int .i64 0, .int .i64 0] 110) ∧ Hid (Nw W wx) ∧ W.heap.size ≤ L)
  case first =>
    have hK0 : Nw W W.drew := (Fr.refl _ W).drew
    refine region_H rlkReg 22 (fun w'' => Nw W w'') (by kernel_rfl) (by kernel_rfl) (by kernel_rfl) ?_
    refine take_at (i := 0) (d := some 6) (v := .pointer (some ⟨Y, 0, none⟩)) (by kernel_rfl) (by kernel_rfl) (fun _ _ _ h => h) (fun w'' hS => by kernel_rfl) hK0 ?_
    refine take_at (i := 1) (d := some 7) (v := .pointer (some ⟨Y, 0, none⟩)) (by kernel_rfl) (by kernel_rfl) (fun _ _ _ h => h) (fun w'' hS => by kernel_rfl) hK0 ?_
    refine take_at (i := 2) (d := some 8) (v := .pointer (some ⟨Y, 0, none⟩)) (by kernel_rfl) (by kernel_rfl) (fun _ _ _ h => h) (fun w'' hS => by kernel_rfl) hK0 ?_
    refine take_at (i := 3) (d := some 9) (v := .slice szo zs.length szc) (by kernel_rfl) (by kernel_rfl) (fun _ _ _ h => h) (fun w'' hS => exec_load 22 (.tmp 8) (by kernel_rfl) (by kernel_rfl) (by kernel_rfl) ((hS.cell hYl (fun x => x)).trans c0)) hK0 ?_
    refine take_at (i := 4) (d := some 10) (v := .int .i64 (zs.length : Int)) (by kernel_rfl) (by kernel_rfl) (fun _ _ _ h => h) (fun w'' hS => by kernel_rfl) hK0 ?_
    refine take_at (i := 5) (d := some 11) (v := .pointer (some ⟨Y, 0, none⟩)) (by kernel_rfl) (by kernel_rfl) (fun _ _ _ h => h) (fun w'' hS => by kernel_rfl) hK0 ?_
    refine take_at (i := 6) (d := some 12) (v := .pointer (some ⟨Y, 0, none⟩)) (by kernel_rfl) (by kernel_rfl) (fun _ _ _ h => h) (fun w'' hS => by kernel_rfl) hK0 ?_
    refine take_at (i := 7) (d := some 13) (v := .pointer (some ⟨Y, 3, none⟩)) (by kernel_rfl) (by kernel_rfl) (fun _ _ _ h => h) (fun w'' hS => by kernel_rfl) hK0 ?_
    refine take_at (i := 8) (d := some 14) (v := .slice tto tn tcap) (by kernel_rfl) (by kernel_rfl) (fun _ _ _ h => h) (fun w'' hS => exec_load 80 (.tmp 13) (by kernel_rfl) (by kernel_rfl) (by kernel_rfl) ((hS.cell hYl (fun x => x)).trans c3)) hK0 ?_
    refine take_at (i := 9) (d := some 15) (v := .int .i64 (tn : Int)) (by kernel_rfl) (by kernel_rfl) (fun _ _ _ h => h) (fun w'' hS => by kernel_rfl) hK0 ?_
    refine take_at (i := 10) (d := some 16) (v := .pointer (some ⟨Y, 0, none⟩)) (by kernel_rfl) (by kernel_rfl) (fun _ _ _ h => h) (fun w'' hS => by kernel_rfl) hK0 ?_
    refine take_at (i := 11) (d := some 17) (v := .pointer (some ⟨Y, 0, none⟩)) (by kernel_rfl) (by kernel_rfl) (fun _ _ _ h => h) (fun w'' hS => by kernel_rfl) hK0 ?_
    refine take_at (i := 12) (d := some 18) (v := .pointer (some ⟨Y, 4, none⟩)) (by kernel_rfl) (by kernel_rfl) (fun _ _ _ h => h) (fun w'' hS => by kernel_rfl) hK0 ?_
    refine take_at (i := 13) (d := some 19) (v := .slice llo ln lcap) (by kernel_rfl) (by kernel_rfl) (fun _ _ _ h => h) (fun w'' hS => exec_load 81 (.tmp 18) (by kernel_rfl) (by kernel_rfl) (by kernel_rfl) ((hS.cell hYl (fun x => x)).trans c4)) hK0 ?_
    refine take_at (i := 14) (d := some 20) (v := .int .i64 (ln : Int)) (by kernel_rfl) (by kernel_rfl) (fun _ _ _ h => h) (fun w'' hS => by kernel_rfl) hK0 ?_
    refine take_at (i := 15) (d := some 21) (v := .pointer (some ⟨Y, 0, none⟩)) (by kernel_rfl) (by kernel_rfl) (fun _ _ _ h => h) (fun w'' hS => by kernel_rfl) hK0 ?_
    refine take_at (i := 16) (d := some 22) (v := .pointer (some ⟨Y, 0, none⟩)) (by kernel_rfl) (by kernel_rfl) (fun _ _ _ h => h) (fun w'' hS => by kernel_rfl) hK0 ?_
    refine take_at (i := 17) (d := some 23) (v := .pointer (some ⟨Y, 2, none⟩)) (by kernel_rfl) (by kernel_rfl) (fun _ _ _ h => h) (fun w'' hS => by kernel_rfl) hK0 ?_
    refine take_at (i := 18) (d := some 24) (v := .bool dead) (by kernel_rfl) (by kernel_rfl) (fun _ _ _ h => h) (fun w'' hS => exec_load 4 (.tmp 23) (by kernel_rfl) (by kernel_rfl) (by kernel_rfl) ((hS.cell hYl (fun x => x)).trans c2)) hK0 ?_
    refine take_at (i := 19) (d := some 25) (v := .agg #[.int .i64 (zs.length : Int), .int .i64 (tn : Int), .int .i64 (ln : Int), .bool dead, .int .i64 0, .int .i64 0]) (by kernel_rfl) (by kernel_rfl) (fun _ _ _ h => h) (fun w'' hS => by kernel_rfl) hK0 ?_
    obtain ⟨Z, hZ⟩ : ∃ Z, W.drew.alloc (.cells #[.int .i64 0, .int .i64 0, .int .i64 0, .bool false, .int .i64 0, .int .i64 0] 110) = Z := ⟨_, rfl⟩
    have hNZ : Nw W Z := by rw [← hZ]; exact hK0.alloc _
    have hbZ : Blk Z W.heap.size #[.int .i64 0, .int .i64 0, .int .i64 0, .bool false, .int .i64 0, .int .i64 0] 110 := by rw [← hZ]; exact Blk.new _ _ _
    refine value_at (i := 20) (d := some 3) (v := .pointer (some ⟨W.heap.size, 0, none⟩)) (w' := Z) (by kernel_rfl) (by kernel_rfl) (by rw [← hZ]; kernel_rfl) hNZ ?_
    have z0 : Z.cell? ⟨W.heap.size, 0, none⟩ = some (.int .i64 0) := hbZ.cell 0
    have z1 : Z.cell? ⟨W.heap.size, 1, none⟩ = some (.int .i64 0) := hbZ.cell 1
    have z2 : Z.cell? ⟨W.heap.size, 2, none⟩ = some (.int .i64 0) := hbZ.cell 2
    have z3 : Z.cell? ⟨W.heap.size, 3, none⟩ = some (.bool false) := hbZ.cell 3
    have z4 : Z.cell? ⟨W.heap.size, 4, none⟩ = some (.int .i64 0) := hbZ.cell 4
    have z5 : Z.cell? ⟨W.heap.size, 5, none⟩ = some (.int .i64 0) := hbZ.cell 5
    have hfz := hbZ.free
    have hB8 := ((((((hbZ.set 0 (.int .i64 (zs.length : Int))).set 1 (.int .i64 (tn : Int))).set 2 (.int .i64 (ln : Int))).set 3 (.bool dead)).set 4 (.int .i64 0)).set 5 (.int .i64 0))
    have hN8 : Nw W ((((((Z.setCell ⟨W.heap.size, 0, none⟩ (.int .i64 (zs.length : Int))).setCell ⟨W.heap.size, 1, none⟩ (.int .i64 (tn : Int))).setCell ⟨W.heap.size, 2, none⟩ (.int .i64 (ln : Int))).setCell ⟨W.heap.size, 3, none⟩ (.bool dead)).setCell ⟨W.heap.size, 4, none⟩ (.int .i64 0)).setCell ⟨W.heap.size, 5, none⟩ (.int .i64 0)) := (((((hNZ.setCell _ _ (.inr (Nat.le_refl _))).setCell _ _ (.inr (Nat.le_refl _))).setCell _ _ (.inr (Nat.le_refl _))).setCell _ _ (.inr (Nat.le_refl _))).setCell _ _ (.inr (Nat.le_refl _))).setCell _ _ (.inr (Nat.le_refl _))
    have HB8 := hd hB8
    have HN8 := hd hN8
    refine skip_at (i := 21) (d := none) (w' := ((((((Z.setCell ⟨W.heap.size, 0, none⟩ (.int .i64 (zs.length : Int))).setCell ⟨W.heap.size, 1, none⟩ (.int .i64 (tn : Int))).setCell ⟨W.heap.size, 2, none⟩ (.int .i64 (ln : Int))).setCell ⟨W.heap.size, 3, none⟩ (.bool dead)).setCell ⟨W.heap.size, 4, none⟩ (.int .i64 0)).setCell ⟨W.heap.size, 5, none⟩ (.int .i64 0))) (by kernel_rfl) (by kernel_rfl) ?_ hN8 ?_
    · exact exec_store6 110 (.tmp 3) (.tmp 25) (by kernel_rfl) (by kernel_rfl) (by kernel_rfl) (by kernel_rfl) hbZ
    refine wpAnyH_done (by kernel_rfl) ?_ _
    simp only [Act.put, List.setIfInBounds_toArray, List.set_cons_zero, List.set_cons_succ]
    clear hK0 hNZ hbZ z0 z1 z2 z3 z4 z5 hfz hB8 hN8 hZ
    go_wp2_with fail
    go_meet
    case rel => exact ⟨W.heap.size, rfl, HB8, HN8, Nat.le_refl _⟩
  case rest =>
    obtain ⟨L, rfl, HB, HF, hL⟩ := hcut
    rename World => wx
    have hc0 : wx.cell? ⟨Y, 0, none⟩ = some (.slice szo zs.length szc) := (HF.out.cell hYl (fun x => x)).trans c0
    have hYx : Y < wx.heap.size := Nat.lt_of_lt_of_le hYl HF.out.size
    go_wp2_with fail
    go_loopw [4, 5] (fun v _ wr => ∃ k : Nat, k ≤ zs.length ∧ v = .int .i64 (k : Int) ∧ Hid (Blk wr L #[.int .i64 (zs.length : Int), .int .i64 (tn : Int), .int .i64 (ln : Int), .bool dead, .int .i64 (leftR bss dead k : Int), .int .i64 (fixR bss dead k : Int)] 110) ∧ Hid (Fr (fun q => q = L) wx wr)) (fun v _ _ => zs.length - (intOf v).toNat)
    case atStart => exact ⟨0, by omega, rfl, HB, Fr.refl _ _⟩
    case round =>
      obtain ⟨k, hk, rfl, HBk, HFk⟩ := hrel
      have hNk : Nw W wr := HF.out.trans HFk.out (fun i h => .inr (by omega))
      have HRk := hd (HRW.out.nw hNk)
      have HNk := hd hNk
      have cS : wr.cell? ⟨Y, 0, none⟩ = some (.slice szo zs.length szc) := (hNk.cell hYl (fun x => x)).trans c0
      have hYk : Y < wr.heap.size := Nat.lt_of_lt_of_le hYl hNk.size
      clear hNk
      have hlb : leftR bss dead k ≤ 6 * k ∧ fixR bss dead k ≤ k := leftR_le HRk.out.b6 k (by rw [HRk.out.len]; exact hk)
      by_cases hlt : k < zs.length
      · have hdk : (k : Int) < (zs.length : Int) := by omega
        have Hcall := hd (refDomain_any lo Y zs szv inv vs bss dead (.slice tto tn tcap) (.slice llo ln lcap) k wr HRk.out (by rw [HRk.out.len]; exact hlt))
        go_wp2_with fail
        refine Hcall.out.mono ?_
        rintro e w2 ⟨v', rfl, hM⟩
        obtain ⟨oo, oc, hof, _⟩ := hM.row.form
        have hdl : (ints (if dead = true then [] else trueTo (bss.getD k []) (bss.getD k []).length)).length = (rDom bss dead k).length := by simp [ints, rDom]
        rw [hdl] at hof
        subst hof
        have Hl1 : Hid (leftR bss dead (k + 1) = leftR bss dead k + (rDom bss dead k).length) := rfl
        have Hf1 : Hid (fixR bss dead (k + 1) = fixR bss dead k + if (rDom bss dead k).length = 1 then 1 else 0) := rfl
        have hd6 : (rDom bss dead k).length ≤ 6 := rDom_le HRk.out.b6 k (by rw [HRk.out.len]; exact hlt)
        obtain ⟨pn, hpn⟩ : ∃ pn, (rDom bss dead k).length = pn := ⟨_, rfl⟩
        obtain ⟨lf, hlf⟩ : ∃ lf, leftR bss dead k = lf := ⟨_, rfl⟩
        obtain ⟨fx, hfx⟩ : ∃ fx, fixR bss dead k = fx := ⟨_, rfl⟩
        have hb1 := HBk.out.nw hM.nw
        rw [hlf, hfx] at hb1
        rw [hpn] at Hl1 Hf1 hd6 ⊢
        rw [hlf] at Hl1 hlb
        rw [hfx] at Hf1 hlb
        have hc4 : w2.cell? ⟨L, 4, none⟩ = some (.int .i64 (lf : Int)) := hb1.cell 4
        have hc5 : w2.cell? ⟨L, 5, none⟩ = some (.int .i64 (fx : Int)) := hb1.cell 5
        have hfz := hb1.free
        have hLl := hb1.lt
        have HB1 := hd hb1
        have HF1 := hd (HFk.out.trans hM.nw (fun _ x => x.elim))
        clear hM hb1 hdl hpn hlf hfx Hcall HBk
        by_cases h1 : pn = 1
        · subst h1
          go_wp2_with fail
          refine ⟨⟨k + 1, by omega, by simp, ?_, (HF1.out.setCell ⟨L, 4, none⟩ (.int .i64 ((lf : Int) + 1)) (.inl rfl)).setCell ⟨L, 5, none⟩ (.int .i64 ((fx : Int) + 1)) (.inl rfl)⟩, by simp [intOf]; omega⟩
          rw [Hl1.out, Hf1.out]
          exact (HB1.out.set 4 (.int .i64 ((lf : Int) + 1))).set 5 (.int .i64 ((fx : Int) + 1))
        · have h1' : ((pn : Int) == 1) = false := by rw [beq_eq_false_iff_ne]; omega
          have Hf2 : Hid (fixR bss dead (k + 1) = fx) := hd (by rw [Hf1.out, if_neg h1]; rfl)
          go_wp2_with fail
          refine ⟨⟨k + 1, by omega, by simp, ?_, HF1.out.setCell ⟨L, 4, none⟩ (.int .i64 ((lf : Int) + (pn : Int))) (.inl rfl)⟩, by simp [intOf]; omega⟩
          rw [Hl1.out, Hf2.out]
          exact HB1.out.set 4 (.int .i64 ((lf : Int) + (pn : Int)))
      · obtain rfl : zs.length = k := by omega
        have hdk : ¬ ((zs.length : Int) < (zs.length : Int)) := by omega
        obtain ⟨lf, hlf⟩ : ∃ lf, leftR bss dead zs.length = lf := ⟨_, rfl⟩
        obtain ⟨fx, hfx⟩ : ∃ fx, fixR bss dead zs.length = fx := ⟨_, rfl⟩
        have hb1 := HBk.out
        rw [hlf, hfx] at hb1
        have k0 : wr.cell? ⟨L, 0, none⟩ = some (.int .i64 (zs.length : Int)) := hb1.cell 0
        have k1 : wr.cell? ⟨L, 1, none⟩ = some (.int .i64 (tn : Int)) := hb1.cell 1
        have k2 : wr.cell? ⟨L, 2, none⟩ = some (.int .i64 (ln : Int)) := hb1.cell 2
        have k3 : wr.cell? ⟨L, 3, none⟩ = some (.bool dead) := hb1.cell 3
        have k4 : wr.cell? ⟨L, 4, none⟩ = some (.int .i64 (lf : Int)) := hb1.cell 4
        have k5 : wr.cell? ⟨L, 5, none⟩ = some (.int .i64 (fx : Int)) := hb1.cell 5
        have hLl := hb1.lt
        have hR := HbR.out.nw HNk.out
        have r0 : wr.cell? ⟨w.heap.size, 0, none⟩ = some (.int .i64 0) := hR.cell 0
        have r1 : wr.cell? ⟨w.heap.size, 1, none⟩ = some (.int .i64 0) := hR.cell 1
        have r2 : wr.cell? ⟨w.heap.size, 2, none⟩ = some (.int .i64 0) := hR.cell 2
        have r3 : wr.cell? ⟨w.heap.size, 3, none⟩ = some (.bool false) := hR.cell 3
        have r4 : wr.cell? ⟨w.heap.size, 4, none⟩ = some (.int .i64 0) := hR.cell 4
        have r5 : wr.cell? ⟨w.heap.size, 5, none⟩ = some (.int .i64 0) := hR.cell 5
        have hfR := hR.free
        have HR := hd hR
        have Hlf := hd hlf
        have Hfx := hd hfx
        clear hb1 hR hlf hfx
        go_wp2
        have hFW : Nw w wr := HfW.out.trans HNk.out (fun _ x => x.elim)
        have hB := ((((((HR.out.set 0 (.int .i64 (zs.length : Int))).set 1 (.int .i64 (tn : Int))).set 2 (.int .i64 (ln : Int))).set 3 (.bool dead)).set 4 (.int .i64 (lf : Int))).set 5 (.int .i64 (fx : Int)))
        have z0 := hB.cell 0
        have z1 := hB.cell 1
        have z2 := hB.cell 2
        have z3 := hB.cell 3
        have z4 := hB.cell 4
        have z5 := hB.cell 5
        refine bodyPost_ret (v := .agg #[.int .i64 (zs.length : Int), .int .i64 (tn : Int), .int .i64 (ln : Int), .bool dead, .int .i64 (leftR bss dead zs.length : Int), .int .i64 (fixR bss dead zs.length : Int)]) ?_ rfl ⟨rfl, (((((hFW.setCell _ _ (.inr (Nat.le_refl _))).setCell _ _ (.inr (Nat.le_refl _))).setCell _ _ (.inr (Nat.le_refl _))).setCell _ _ (.inr (Nat.le_refl _))).setCell _ _ (.inr (Nat.le_refl _))).setCell _ _ (.inr (Nat.le_refl _))⟩
        simp only [Hlf.out, Hfx.out]
        simp [results, Tryz.results60, go_sem, z0, z1, z2, z3, z4, z5]
end Go.Proofs.YtkjfpdfkcfgfkaaGreat
