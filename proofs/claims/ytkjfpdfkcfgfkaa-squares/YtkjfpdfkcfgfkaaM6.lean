/- Parts of the proof, number 6: contracts of the functions that the statement calls. -/
import Derived.Test.YtkjfpdfkcfgfkaaM5
import Derived.Test.YtkjfpdfkcfgfkaaM4
import Derived.Test.YtkjfpdfkcfgfkaaM0
import Derived.Test.YtkjfpdfkcfgfkaaM1
import Derived.Deep.CutBlock

/- Pop of a trail. -/
namespace Go.Proofs.Ytkjfpdfkcfgfkaa
open Go.RowKit Go.Shelf
attribute [local go_sem] Oper.semAt_some

/-- While changes are put back: i of the level's are left. -/
def PopI (w : World) (X : Nat) (zs : List Int) (s : WS) (n Bx : Nat) (sv : Value) (i : Nat) (W : World) : Prop := ∃ d ts, (s.us.drop (n + i)).foldr Un.undo (s.d, s.ts.map Tab.t) = (d, ts.map Tab.t) ∧ SameT s.ts ts ∧ d.length = 8 ∧ WMem W X zs { s with d := d, ts := ts } ∧ Fr (SFr X s.ts (.slice none 0 0)) w W ∧ Blk W Bx #[sv] 78
theorem slice_low (ao : Option Addr) (m cap n : Nat) (hn : n ≤ m) (W : World) : (Instr.sliceAt 78 (.slice ao m cap) (some (.int .i64 (n : Int))) none none).run Try.prog W = .ok (sliced ao n m cap 1) W := by
  have hu : Try.prog.underlying 78 = some (.slice (Try.prog.elem 78)) := by kernel_rfl
  have he : Try.prog.elem 78 = 1 := by kernel_rfl
  have hz : (sizeOf 1).run Try.prog W = .ok 1 W := by kernel_rfl
  rw [run_sliceAt_slice _ _ _ _ _ _ hu]
  rw [run_slice_l _ _ _ _ _ hu _ _ (by omega) (by omega), he, hz]
  simp [Result.andThen]
theorem slice_highF (ao : Option Addr) (m cap n : Nat) (hn : n ≤ cap) (W : World) : (Instr.sliceAt 78 (.slice ao m cap) none (some (.int .i64 (n : Int))) none).run Try.prog W = .ok (sliced ao 0 n cap 1) W := by
  have hu : Try.prog.underlying 78 = some (.slice (Try.prog.elem 78)) := by kernel_rfl
  have he : Try.prog.elem 78 = 1 := by kernel_rfl
  have hz : (sizeOf 1).run Try.prog W = .ok 1 W := by kernel_rfl
  rw [run_sliceAt_slice _ _ _ _ _ _ hu]
  rw [run_slice_h _ _ _ _ _ hu _ _ (by omega) (by omega), he, hz]
  simp [Result.andThen]
theorem slice_highI (ao : Option Addr) (m cap n : Nat) (hn : n ≤ cap) (W : World) : (Instr.sliceAt 22 (.slice ao m cap) none (some (.int .i64 (n : Int))) none).run Try.prog W = .ok (sliced ao 0 n cap 1) W := by
  have hu : Try.prog.underlying 22 = some (.slice (Try.prog.elem 22)) := by kernel_rfl
  have he : Try.prog.elem 22 = 3 := by kernel_rfl
  have hz : (sizeOf 3).run Try.prog W = .ok 1 W := by kernel_rfl
  rw [run_sliceAt_slice _ _ _ _ _ _ hu]
  rw [run_slice_h _ _ _ _ _ hu _ _ (by omega) (by omega), he, hz]
  simp [Result.andThen]
theorem Row.capG {w : World} {ao : Option Addr} {m cap : Nat} {e : TypeId} {xs : List Value} (h : Row w (.slice ao m cap) e xs) : xs.length ≤ cap := by
  rcases h.2 with ⟨he, h0⟩ | ⟨g, cap', cur, he, _, _, hc, _⟩
  · omega
  · injection he with e1 e2 e3
    omega
theorem startsOf_cons (n : Nat) (p : List Nat × List TS) (r : List (Nat × List Nat × List TS)) : startsOf ((n, p) :: r) = startsOf r ++ [.int .i64 (n : Int)] := by simp [startsOf]
theorem startsOf_len (r : List (Nat × List Nat × List TS)) : (startsOf r).length = r.length := by simp [startsOf]

set_option maxHeartbeats 6400000 in
set_option maxRecDepth 1000000 in
theorem tpop_any (X : Nat) (zs : List Int) (s : WS) (n : Nat) (p : List Nat × List TS) (r : List (Nat × List Nat × List TS)) (w : World) (h : WMem w X zs s) (hd8 : s.d.length = 8) (hus : s.us.length ≤ 1000000) (hrl : r.length ≤ 100) (hsk : s.sk = (n, p) :: r) (hn : n ≤ s.us.length)
    (he : (s.us.drop n).foldr Un.undo (s.d, s.ts.map Tab.t) = p) :
    Calls Try.prog 44 #[.pointer (some ⟨X, 10, none⟩)] w fun e w' => e = .returned (.tuple #[]) ∧ ∃ ts bv sv, SameT s.ts ts ∧ ts.map Tab.t = p.2 ∧ p.1.length = 8 ∧
      WMem w' X zs { s with d := p.1, ts := ts, l := ⟨bv, sv, s.l.busy⟩, us := s.us.take n, sk := r } ∧ Fr (SFr X s.ts s.l.backs) w w' ∧ bv.ownBlock = s.l.backs.ownBlock ∧ sv.ownBlock = s.l.starts.ownBlock := by
  obtain ⟨bo, bcap, hbk, _⟩ := h.tr.backs.form
  rw [List.length_map] at hbk
  obtain ⟨so', sc, hst⟩ := startsOf_form h.tr
  rw [hsk, List.length_cons] at hst
  have hrb : Row w (.slice bo s.us.length bcap) 1 (s.us.map Un.val) := hbk ▸ h.tr.backs
  have hrs : Row w (.slice so' (r.length + 1) sc) 3 (startsOf r ++ [.int .i64 (n : Int)]) := by
    have := h.tr.starts
    rw [hst, hsk, startsOf_cons] at this
    exact this
  obtain ⟨ao', hsl, htail⟩ := hrb.tail n (by rw [List.length_map]; exact hn)
  obtain ⟨m, hm⟩ : ∃ m, ((s.us.map Un.val).drop n).length = m := ⟨_, rfl⟩
  have hml : m = s.us.length - n := by rw [← hm]; simp
  have Hml := hd hml
  clear hml
  have hbcap := hrb.capG
  rw [List.length_map] at hbcap
  have hscap := hrs.capG
  rw [List.length_append, startsOf_len] at hscap
  simp only [List.length_singleton] at hscap
  have hcb : w.cell? ⟨X, 10, none⟩ = some (.slice bo s.us.length bcap) := (h.blk.cell 10).trans ((workCells_backs _ _ _ _ hd8).trans (by rw [hbk]))
  have hcl : w.cell? ⟨X, 11, none⟩ = some (.slice so' (r.length + 1) sc) := (h.blk.cell 11).trans ((workCells_starts _ _ _ _ hd8).trans (by rw [hst]))
  obtain ⟨sb, sc2, hso, _, hci, _⟩ := hrs.cell r.length (by simp [startsOf])
  have hso2 : so' = some ⟨sb, 0, none⟩ := by injection hso
  subst hso2
  have hcN : w.cell? ⟨sb, r.length, none⟩ = some (.int .i64 (n : Int)) := by
    rw [hci]
    congr 1
    rw [List.getElem_append_right (by simp [startsOf])]
    simp [startsOf]
  have hsl2 := fun W => (slice_low bo s.us.length bcap n hn W).trans (by rw [hsl, hm])
  have hmf : ∀ (fn : Fn) (first cap : Array Value) (w : World), (Instr.makeFunc fn first cap).run Try.prog w = .ok (.func fn first cap) w := fun _ _ _ _ => rfl
  have hsub1 : ((r.length + 1 : Nat) : Int) - 1 = (r.length : Int) := by omega
  have hne0 : (((r.length + 1 : Nat) : Int) == 0) = false := by simp; omega
  have HH := hd h
  have Hbk := hd hbk
  have Hst := hd hst
  have Hsk := hd hsk
  have He := hd he
  have Hsl := hd hsl
  have Htail := hd htail
  have Hm := hd hm
  have Hrb := hd hrb
  have Hrs := hd hrs
  clear h hbk hst hsk he hsl htail hm hrb hrs hso hci
  refine (callsIn_wide (n := 9)).1 ?_
  refine callsIn_of_wp_marks Try.func44 rfl trivial ?_ rfl
  simp only [Try.ntmps44, List.size_toArray, List.length_cons, List.length_nil, Nat.reduceAdd, Nat.reduceSub, Array.replicate_succ, Array.replicate_zero, List.push_toArray, List.append_toArray, List.nil_append, List.cons_append]
  gi_wp2_with (first
    | (refine ⟨trivial, ?_⟩; gi_at_call 36; refine (callsIn_wide.2 (level_any X _ (r.length + 1) sc _ hcl)).mono ?_; rintro e w' ⟨rfl, rfl⟩)
    | (refine ⟨trivial, ?_⟩; gi_at_call 57; refine (callsIn_wide.2 (backward_any _ _ _ _)).mono ?_; rintro e w1 ⟨rfl, rfl⟩))
  have hal : Nw w' (w'.alloc (.cells #[.slice ao' m (bcap - n)] 78)) := (Fr.refl _ w').alloc _
  refine wp_backw (Bx := w'.heap.size) (ao := ao') (cap := bcap - n) (xs := (s.us.map Un.val).drop n) (by rw [Hm.out, Hml.out]; omega) rfl (by simp) (PopI w' X zs s n w'.heap.size (.slice ao' m (bcap - n))) ?bk ?rd ?start ?round ?done
  case bk =>
    rintro i A B ⟨d, ts, h1, h2, h3, h4, h5, h6⟩ hb
    exact ⟨d, ts, h1, h2, h3, h4.bk hb, h5.bk hb (by simp), h6.bk hb⟩
  case rd =>
    rintro i W ⟨d, ts, h1, h2, h3, h4, h5, h6⟩
    refine ⟨by rw [Hm.out]; exact h6.cell 0, fun j hj => ?_⟩
    have hrow := h4.tr.backs
    have hrow2 : Row W (.slice bo s.us.length bcap) 1 (s.us.map Un.val) := by rw [← Hbk.out]; exact hrow
    have hj2 : j < s.us.length - n := by simpa using hj
    rcases Htail.out with ⟨g, hg1, hg2, hg3⟩ | hg
    · subst hg1
      refine ⟨g, n, hg3, ?_⟩
      have hlt : n + j < s.us.length := by omega
      rw [(hrow2.at_ (n + j) (by simp; omega)).1]
      simp [List.getD, List.getElem?_drop, hlt]
    · rw [List.length_map] at hg
      omega
  case start =>
    have h1 : n + ((s.us.map Un.val).drop n).length = s.us.length := by rw [Hm.out, Hml.out]; omega
    refine ⟨s.d, s.ts, ?_, SameT.refl _, hd8, HH.out.nw hal, hal.mono (fun i h => h.elim), Blk.new _ _ _⟩
    rw [h1, List.drop_length]
    rfl
  case round =>
    rintro l i W hi ⟨d, ts, h1, h2, h3, h4, h5, h6⟩
    have hi2 : n + i < s.us.length := by simp at hi; omega
    obtain ⟨u, hu⟩ : ∃ u, s.us[n + i] = u := ⟨_, rfl⟩
    have hmem : u ∈ s.us := by rw [← hu]; exact List.getElem_mem hi2
    have hval : ((s.us.map Un.val).drop n).getD i undef = u.val := by simp [List.getD, List.getElem?_drop, hi2, hu]
    obtain ⟨fn, cs, hv, hcall⟩ := u.call
    rw [hval, hv]
    have hcalls := h4.undo h3 (u := u) hmem hv
    have hdrop : s.us.drop (n + i) = u :: s.us.drop (n + (i + 1)) := by
      rw [List.drop_eq_getElem_cons hi2, hu]
      rfl
    have Hcalls := hd hcalls
    have Hdrop := hd hdrop
    have H1 := hd h1
    have H2 := hd h2
    have H4 := hd h4
    have H5 := hd h5
    have H6 := hd h6
    have hWB := h5.size
    clear hcalls hdrop h1 h2 h4 h5 h6 hval hu hmem hv
    gi_wp2_with fail
    refine ⟨trivial, ?_⟩
    refine (CallsIn.inRound l (callsIn_wide.2 Hcalls.out)).mono ?_
    rintro e W' ⟨rfl, hf, d', ts', he', hs', hd', hM'⟩
    gi_wp2
    have o := H4.out.onlyS
    have o2 : Only W (SFr X ts (.slice none 0 0)) [82, 142, 136, 1] := o.mono (fun k hk => hk.elim .inl (fun h => h.elim (fun h => .inr (.inl h)) (fun h => by cases h))) (fun _ h => h)
    refine ⟨hf.keeps (fun k hk => ?_), d', ts', ?_, H2.out.trans hs', hd', hM', H5.out.trans hf (fun k hk => ?_), H6.out.frO hf o2 (by decide)⟩
    · rcases hk with rfl | ⟨j, hj, rfl⟩ | hk
      · exact ⟨_, _, H4.out.blk⟩
      · obtain ⟨cur, e, hb, _⟩ := (H4.out.tabs.at_ j hj).tyG
        exact ⟨_, _, hb⟩
      · cases hk
    · rw [Hdrop.out, List.foldr_cons, H1.out]
      exact he'
    · rcases hk with rfl | ⟨j, hj, rfl⟩ | hk
      · exact .inl (.inl rfl)
      · have hj' : j < s.ts.length := by rw [← H2.out.len]; exact hj
        exact .inl (.inr (.inl ⟨j, hj', (H2.out.at_ j hj').1⟩))
      · cases hk
  case done =>
    rintro D W hD ⟨d, ts, h1, h2, h3, h4, h5, h6⟩ hK
    have hp : p = (d, ts.map Tab.t) := by
      rw [← He.out, ← h1]
      rfl
    have hcb2 : W.cell? ⟨X, 10, none⟩ = some (.slice bo s.us.length bcap) := (h4.blk.cell 10).trans ((workCells_backs _ _ _ _ h3).trans (by rw [← Hbk.out]))
    have hrow2 : Row W (.slice bo s.us.length bcap) 1 (s.us.map Un.val) := by rw [← Hbk.out]; exact h4.tr.backs
    have hcl2 := fun ty => clear_tail ty hrow2 n (by rw [List.length_map]; exact hn) (Hsl.out.trans (by rw [Hm.out]))
    obtain ⟨W2, hclr, hf2, hr2⟩ := hcl2 0
    have hclr' : ∀ ty, (Builtin.clear_ #[78] ty #[.slice ao' m (bcap - n)]).run Try.prog W = .ok (.tuple #[]) W2 := fun ty => hclr
    have H1 := hd h1
    have H2 := hd h2
    have H4 := hd h4
    have H5 := hd h5
    have HK := hd hK
    have Hp := hd hp
    have Hf2 := hd hf2
    have Hr2 := hd hr2
    have Hrow2 := hd hrow2
    clear h1 h2 h4 h5 h6 hK hp hf2 hr2 hrow2 hclr hcl2 hcb hcl hcN
    gi_upto_region 7 with fail
    have hblk2 : Blk W2 X (workCells s.szv d (.slice s.so ts.length s.tcap) s.l) 82 := H4.out.blk.frO Hf2.out (Only.row Hrow2.out) (by decide)
    have hc10 : W2.cell? ⟨X, 10, none⟩ = some (.slice bo s.us.length bcap) := (hblk2.cell 10).trans ((workCells_backs _ _ _ _ h3).trans (by rw [← Hbk.out]))
    have hc11 : W2.cell? ⟨X, 11, none⟩ = some (.slice (some ⟨sb, 0, none⟩) (r.length + 1) sc) := (hblk2.cell 11).trans ((workCells_starts _ _ _ _ h3).trans (by rw [← Hst.out]))
    have hfz := hblk2.free
    have hsF := fun W => (slice_highF bo s.us.length bcap n (by omega) W).trans (by rw [Hr2.out.sliced0 n])
    have hsI := fun W => (slice_highI (some ⟨sb, 0, none⟩) (r.length + 1) sc r.length (by omega) W).trans (by rw [Hrs.out.sliced0 r.length])
    obtain ⟨bv, hbv⟩ : ∃ bv, Value.slice bo n bcap = bv := ⟨_, rfl⟩
    obtain ⟨sv, hsv⟩ : ∃ sv, Value.slice (some ⟨sb, 0, none⟩) r.length sc = sv := ⟨_, rfl⟩
    have hfz2 : Fr (fun k => k = X) W2 ((W2.drew.setCell ⟨X, 10, none⟩ (.slice bo n bcap)).setCell ⟨X, 11, none⟩ (.slice (some ⟨sb, 0, none⟩) r.length sc)) := (((Fr.refl (fun k => k = X) W2).drew).setCell _ _ (.inl rfl)).setCell _ _ (.inl rfl)
    have hoX : Only W2 (fun k => k = X) [82] := Only.one hblk2
    have hoB : Only W (fun k => (Value.slice bo s.us.length bcap).ownBlock = some k) [1] := Only.row Hrow2.out
    have hBZ : Blk ((W2.drew.setCell ⟨X, 10, none⟩ (.slice bo n bcap)).setCell ⟨X, 11, none⟩ (.slice (some ⟨sb, 0, none⟩) r.length sc)) X (workCells s.szv d (.slice s.so ts.length s.tcap) ⟨.slice bo n bcap, .slice (some ⟨sb, 0, none⟩) r.length sc, s.l.busy⟩) 82 := by
      have h5 := (hblk2.drew.set 10 (.slice bo n bcap)).set 11 (.slice (some ⟨sb, 0, none⟩) r.length sc)
      rw [workCells_setBacks _ _ _ _ h3, workCells_setStarts _ _ _ _ h3] at h5
      exact h5
    have hMZ : WMem ((W2.drew.setCell ⟨X, 10, none⟩ (.slice bo n bcap)).setCell ⟨X, 11, none⟩ (.slice (some ⟨sb, 0, none⟩) r.length sc)) X zs { s with d := d, ts := ts, l := ⟨.slice bo n bcap, .slice (some ⟨sb, 0, none⟩) r.length sc, s.l.busy⟩, us := s.us.take n, sk := r } := by
      refine ⟨hBZ, (H4.out.sz.frO Hf2.out hoB (by decide)).frO hfz2 hoX (by decide), H4.out.zok, (H4.out.tabs.frO Hf2.out hoB (by decide)).frO hfz2 hoX (by decide), H4.out.inj, H4.out.t12, H4.out.fits, H4.out.tbok, ⟨?_, ?_⟩, fun u hu => ((H4.out.un u (List.mem_of_mem_take hu)).frO Hf2.out hoB (by decide) (.inr (by decide))).frO hfz2 hoX (by decide) (.inr (by decide)), fun k hk => H4.out.apart k (by show s.l.starts.ownBlock = some k; rw [Hst.out]; exact hk)⟩
      · have h6 : Row W (.slice (some ⟨sb, 0, none⟩) (r.length + 1) sc) 3 (startsOf r ++ [.int .i64 (n : Int)]) := by
          have := H4.out.tr.starts
          have e1 : s.l.starts = .slice (some ⟨sb, 0, none⟩) (r.length + 1) sc := Hst.out
          have e2 : startsOf s.sk = startsOf r ++ [.int .i64 (n : Int)] := by rw [Hsk.out, startsOf_cons]
          simp only at this
          rw [e1, e2] at this
          exact this
        have h7 := ((h6.frO Hf2.out hoB (by decide)).frO hfz2 hoX (by decide)).take r.length (by simp [startsOf])
        rw [List.take_append_of_le_length (by simp [startsOf]), List.take_of_length_le (by simp [startsOf])] at h7
        exact h7
      · have h7 := Hr2.out.frO hfz2 hoX (by decide)
        rw [← List.map_take] at h7
        exact h7
    have hDW := lt_of_block HK.out
    have hKW2 : W2.heap[D]? = some (.deferred (some [])) := (Hf2.out.block D hDW (fun hs => by
      obtain ⟨cur, hb, _⟩ := Hrow2.out.blk hs
      have h' : W.heap[D]? = some (.cells cur 1 (0, 0)) := hb
      rw [HK.out] at h'
      cases h')).trans HK.out
    have hKZ : ((W2.drew.setCell ⟨X, 10, none⟩ (.slice bo n bcap)).setCell ⟨X, 11, none⟩ (.slice (some ⟨sb, 0, none⟩) r.length sc)).heap[D]? = some (.deferred (some [])) := (hfz2.block D (by have := Hf2.out.size; omega) (fun hs => by
      subst hs
      have h' : W2.heap[D]? = some (.cells _ 82 (0, 0)) := hblk2
      rw [hKW2] at h'
      cases h')).trans hKW2
    have hDl : w'.heap.size ≤ D := by have := hal.size; omega
    have HKZ := hd hKZ
    have Hfin : Hid (Ending.returned (.tuple #[]) = Ending.returned (.tuple #[]) ∧ ∃ ts bv sv, SameT s.ts ts ∧ ts.map Tab.t = p.2 ∧ p.1.length = 8 ∧
        WMem (((W2.drew.setCell ⟨X, 10, none⟩ (.slice bo n bcap)).setCell ⟨X, 11, none⟩ (.slice (some ⟨sb, 0, none⟩) r.length sc)).putObj D (.deferred none)) X zs { s with d := p.1, ts := ts, l := ⟨bv, sv, s.l.busy⟩, us := s.us.take n, sk := r } ∧ Fr (SFr X s.ts s.l.backs) w' (((W2.drew.setCell ⟨X, 10, none⟩ (.slice bo n bcap)).setCell ⟨X, 11, none⟩ (.slice (some ⟨sb, 0, none⟩) r.length sc)).putObj D (.deferred none)) ∧ bv.ownBlock = s.l.backs.ownBlock ∧ sv.ownBlock = s.l.starts.ownBlock) := by
      refine ⟨rfl, ts, .slice bo n bcap, .slice (some ⟨sb, 0, none⟩) r.length sc, H2.out, by rw [Hp.out], by rw [Hp.out]; exact h3, ?_, ?_, by rw [Hbk.out]; cases bo <;> rfl, by rw [Hst.out]; rfl⟩
      · rw [Hp.out]
        exact hMZ.bk (Bk.put (.deferred none) hDl hKZ rfl)
      · refine Fr.bk (lo := w'.heap.size) ?_ (Bk.put (.deferred none) hDl hKZ rfl) (Nat.le_refl _)
        refine ((H5.out.mono ?_).trans Hf2.out ?_).trans hfz2 ?_
        · rintro k (rfl | hk | hk)
          · exact .inl (.inl rfl)
          · exact .inl (.inr (.inl hk))
          · cases hk
        · intro k hk
          exact .inl (.inr (.inr (by rw [Hbk.out]; exact hk)))
        · rintro k rfl
          exact .inl (.inl rfl)
    clear hMZ hKZ hBZ hfz2 hoX hoB hKW2 hDW
    have Hblk2 := hd hblk2
    clear hblk2
    refine wpIn_wide.2 ?_
    refine wp_region_noPanic ?_
    refine wp_region_held (S := fun _ => True) (by kernel_rfl) ?_
    refine wpAnyH_take (i := 0) (v := .pointer (some ⟨X, 10, none⟩)) rfl (by kernel_rfl) (by kernel_rfl) (by kernel_rfl) (fun _ _ _ h => h) (.inl ⟨by kernel_rfl, fun w'' hS => by kernel_rfl⟩) trivial ?_
    refine wpAnyH_take (i := 1) (v := .pointer (some ⟨X, 10, none⟩)) rfl (by kernel_rfl) (by kernel_rfl) (by kernel_rfl) (fun _ _ _ h => h) (.inl ⟨by kernel_rfl, fun w'' hS => by kernel_rfl⟩) trivial ?_
    refine wpAnyH_take (i := 2) (v := .pointer (some ⟨X, 10, none⟩)) rfl (by kernel_rfl) (by kernel_rfl) (by kernel_rfl) (fun _ _ _ h => h) (.inl ⟨by kernel_rfl, fun w'' hS => by kernel_rfl⟩) trivial ?_
    refine wpAnyH_take (i := 3) (v := .pointer (some ⟨X, 10, none⟩)) rfl (by kernel_rfl) (by kernel_rfl) (by kernel_rfl) (fun _ _ _ h => h) (.inl ⟨by kernel_rfl, fun w'' hS => by kernel_rfl⟩) trivial ?_
    refine wpAnyH_take (i := 4) (v := .pointer (some ⟨X, 10, none⟩)) rfl (by kernel_rfl) (by kernel_rfl) (by kernel_rfl) (fun _ _ _ h => h) (.inl ⟨by kernel_rfl, fun w'' hS => by kernel_rfl⟩) trivial ?_
    refine wpAnyH_take (i := 6) (v := .int .i64 (n : Int)) rfl (by kernel_rfl) (by kernel_rfl) (by kernel_rfl) (fun _ _ _ h => h) (.inl ⟨by kernel_rfl, fun w'' hS => by kernel_rfl⟩) trivial ?_
    refine wpAnyH_take (i := 8) (v := .pointer (some ⟨X, 10, none⟩)) rfl (by kernel_rfl) (by kernel_rfl) (by kernel_rfl) (fun _ _ _ h => h) (.inl ⟨by kernel_rfl, fun w'' hS => by kernel_rfl⟩) trivial ?_
    refine wpAnyH_take (i := 9) (v := .pointer (some ⟨X, 10, none⟩)) rfl (by kernel_rfl) (by kernel_rfl) (by kernel_rfl) (fun _ _ _ h => h) (.inl ⟨by kernel_rfl, fun w'' hS => by kernel_rfl⟩) trivial ?_
    refine wpAnyH_take (i := 10) (v := .pointer (some ⟨X, 11, none⟩)) rfl (by kernel_rfl) (by kernel_rfl) (by kernel_rfl) (fun _ _ _ h => h) (.inl ⟨by kernel_rfl, fun w'' hS => by kernel_rfl⟩) trivial ?_
    refine wpAnyH_take (i := 12) (v := .int .i64 (r.length : Int)) rfl (by kernel_rfl) (by kernel_rfl) (by kernel_rfl) (fun _ _ _ h => h) (.inl ⟨by kernel_rfl, fun w'' hS => by kernel_rfl⟩) trivial ?_
    refine wpAnyH_all (rs := [5, 11]) (by kernel_rfl) (by simp) (fun i hi => ?_)
    rcases List.mem_cons.1 hi with rfl | hi
    · refine op_value (v := .slice bo s.us.length bcap) (w' := W2.drew) rfl (by kernel_rfl) ?_ ⟨trivial, ?_⟩
      · have hc : W2.drew.cell? ⟨X, 10, none⟩ = some (.slice bo s.us.length bcap) := hc10
        clear Hblk2 hcb2 hclr' hbv hsv hD hsl2 hmf hsub1 hne0 hc10 hc11 hfz hsF hsI
        simp only [Act.put, List.setIfInBounds_toArray, List.set_cons_zero, List.set_cons_succ, List.getElem_toArray, List.getElem_cons_zero, List.getElem_cons_succ]
        go_simp
      refine wpAnyH_take (i := 7) (v := .slice bo n bcap) rfl (by kernel_rfl) (by kernel_rfl) (by kernel_rfl) (fun _ _ _ h => h) (.inl ⟨by kernel_rfl, fun w'' hS => ?_⟩) trivial ?_
      · have hh := hsF w''
        clear Hblk2 hcb2 hclr' hbv hsv hD hsl2 hmf hsub1 hne0 hc10 hc11 hfz hsF hsI
        simp only [Act.put, List.setIfInBounds_toArray, List.set_cons_zero, List.set_cons_succ, List.getElem_toArray, List.getElem_cons_zero, List.getElem_cons_succ]
        go_simp
      refine wpAnyH_all (rs := [11]) (by kernel_rfl) (by simp) (fun i hi => ?_)
      obtain rfl : i = 11 := by simpa using hi
      refine op_value (v := .slice (some ⟨sb, 0, none⟩) (r.length + 1) sc) (w' := W2.drew) rfl (by kernel_rfl) ?_ ⟨trivial, ?_⟩
      · have hc : W2.drew.cell? ⟨X, 11, none⟩ = some (.slice (some ⟨sb, 0, none⟩) (r.length + 1) sc) := hc11
        clear Hblk2 hcb2 hclr' hbv hsv hD hsl2 hmf hsub1 hne0 hc10 hc11 hfz hsF hsI
        simp only [Act.put, List.setIfInBounds_toArray, List.set_cons_zero, List.set_cons_succ, List.getElem_toArray, List.getElem_cons_zero, List.getElem_cons_succ]
        go_simp
      refine wpAnyH_take (i := 13) (v := .slice (some ⟨sb, 0, none⟩) r.length sc) rfl (by kernel_rfl) (by kernel_rfl) (by kernel_rfl) (fun _ _ _ h => h) (.inl ⟨by kernel_rfl, fun w'' hS => ?_⟩) trivial ?_
      · have hh := hsI w''
        clear Hblk2 hcb2 hclr' hbv hsv hD hsl2 hmf hsub1 hne0 hc10 hc11 hfz hsF hsI
        simp only [Act.put, List.setIfInBounds_toArray, List.set_cons_zero, List.set_cons_succ, List.getElem_toArray, List.getElem_cons_zero, List.getElem_cons_succ]
        go_simp
      refine wpAnyH_all (rs := [14]) (by kernel_rfl) (by simp) (fun i hi => ?_)
      obtain rfl : i = 14 := by simpa using hi
      refine op_value (v := .pointer (some ⟨X, 10, none⟩)) (w' := W2.drew) rfl (by kernel_rfl) (by kernel_rfl) ⟨trivial, ?_⟩
      refine wpAnyH_all (rs := [15]) (by kernel_rfl) (by simp) (fun i hi => ?_)
      obtain rfl : i = 15 := by simpa using hi
      refine op_value (v := .pointer (some ⟨X, 10, none⟩)) (w' := W2.drew) rfl (by kernel_rfl) (by kernel_rfl) ⟨trivial, ?_⟩
      refine wpAnyH_all (rs := [16]) (by kernel_rfl) (by simp) (fun i hi => ?_)
      obtain rfl : i = 16 := by simpa using hi
      refine op_skip (w' := (W2.drew.setCell ⟨X, 10, none⟩ (.slice bo n bcap))) rfl (by kernel_rfl) ?_ ⟨trivial, ?_⟩
      · have hc : W2.drew.cell? ⟨X, 10, none⟩ = some (.slice bo s.us.length bcap) := hc10
        have hz : W2.drew.frozen? ⟨X, 10, none⟩ = false := hfz 10
        clear Hblk2 hcb2 hclr' hbv hsv hD hsl2 hmf hsub1 hne0 hc10 hc11 hfz hsF hsI
        simp only [Act.put, List.setIfInBounds_toArray, List.set_cons_zero, List.set_cons_succ, List.getElem_toArray, List.getElem_cons_zero, List.getElem_cons_succ]
        go_simp
      refine wpAnyH_all (rs := [17]) (by kernel_rfl) (by simp) (fun i hi => ?_)
      obtain rfl : i = 17 := by simpa using hi
      refine op_value (v := .pointer (some ⟨X, 10, none⟩)) (w' := (W2.drew.setCell ⟨X, 10, none⟩ (.slice bo n bcap))) rfl (by kernel_rfl) (by kernel_rfl) ⟨trivial, ?_⟩
      refine wpAnyH_all (rs := [18]) (by kernel_rfl) (by simp) (fun i hi => ?_)
      obtain rfl : i = 18 := by simpa using hi
      refine op_value (v := .pointer (some ⟨X, 11, none⟩)) (w' := (W2.drew.setCell ⟨X, 10, none⟩ (.slice bo n bcap))) rfl (by kernel_rfl) (by kernel_rfl) ⟨trivial, ?_⟩
      refine wpAnyH_all (rs := [19]) (by kernel_rfl) (by simp) (fun i hi => ?_)
      obtain rfl : i = 19 := by simpa using hi
      have hB1 : Blk (W2.drew.setCell ⟨X, 10, none⟩ (.slice bo n bcap)) X _ 82 := Hblk2.out.drew.set 10 (.slice bo n bcap)
      have hc19 : (W2.drew.setCell ⟨X, 10, none⟩ (.slice bo n bcap)).cell? ⟨X, 11, none⟩ = some (.slice (some ⟨sb, 0, none⟩) (r.length + 1) sc) := (hB1.cell 11).trans (by rw [workCells_setBacks _ _ _ _ h3]; exact (workCells_starts _ _ _ _ h3).trans (by rw [← Hst.out]))
      have hz19 := hB1.free 11
      have hz11 := hfz 11
      refine op_skip (w' := ((W2.drew.setCell ⟨X, 10, none⟩ (.slice bo n bcap)).setCell ⟨X, 11, none⟩ (.slice (some ⟨sb, 0, none⟩) r.length sc))) rfl (by kernel_rfl) ?_ ⟨trivial, wpAnyH_done (by kernel_rfl) ?_ _⟩
      · clear Hblk2 hcb2 hclr' hbv hsv hD hsl2 hmf hsub1 hne0 hc10 hfz hsF hsI hB1 hc19 hz19
        simp only [Act.put, List.setIfInBounds_toArray, List.set_cons_zero, List.set_cons_succ, List.getElem_toArray, List.getElem_cons_zero, List.getElem_cons_succ]
        go_simp
      simp only [Act.put, List.setIfInBounds_toArray, List.set_cons_zero, List.set_cons_succ, List.getElem_toArray, List.getElem_cons_zero, List.getElem_cons_succ]
      exact NoPanic.normal ⟨by simp, .inl ⟨_, _, rfl, run_takeDeferred HKZ.out, ⟨_, results_none rfl _ _ _, Hfin.out⟩⟩⟩
    · obtain rfl : i = 11 := by simpa using hi
      refine op_value (v := .slice (some ⟨sb, 0, none⟩) (r.length + 1) sc) (w' := W2.drew) rfl (by kernel_rfl) ?_ ⟨trivial, ?_⟩
      · have hc : W2.drew.cell? ⟨X, 11, none⟩ = some (.slice (some ⟨sb, 0, none⟩) (r.length + 1) sc) := hc11
        clear Hblk2 hcb2 hclr' hbv hsv hD hsl2 hmf hsub1 hne0 hc10 hc11 hfz hsF hsI
        simp only [Act.put, List.setIfInBounds_toArray, List.set_cons_zero, List.set_cons_succ, List.getElem_toArray, List.getElem_cons_zero, List.getElem_cons_succ]
        go_simp
      refine wpAnyH_take (i := 13) (v := .slice (some ⟨sb, 0, none⟩) r.length sc) rfl (by kernel_rfl) (by kernel_rfl) (by kernel_rfl) (fun _ _ _ h => h) (.inl ⟨by kernel_rfl, fun w'' hS => ?_⟩) trivial ?_
      · have hh := hsI w''
        clear Hblk2 hcb2 hclr' hbv hsv hD hsl2 hmf hsub1 hne0 hc10 hc11 hfz hsF hsI
        simp only [Act.put, List.setIfInBounds_toArray, List.set_cons_zero, List.set_cons_succ, List.getElem_toArray, List.getElem_cons_zero, List.getElem_cons_succ]
        go_simp
      refine wpAnyH_all (rs := [5]) (by kernel_rfl) (by simp) (fun i hi => ?_)
      obtain rfl : i = 5 := by simpa using hi
      refine op_value (v := .slice bo s.us.length bcap) (w' := W2.drew) rfl (by kernel_rfl) ?_ ⟨trivial, ?_⟩
      · have hc : W2.drew.cell? ⟨X, 10, none⟩ = some (.slice bo s.us.length bcap) := hc10
        clear Hblk2 hcb2 hclr' hbv hsv hD hsl2 hmf hsub1 hne0 hc10 hc11 hfz hsF hsI
        simp only [Act.put, List.setIfInBounds_toArray, List.set_cons_zero, List.set_cons_succ, List.getElem_toArray, List.getElem_cons_zero, List.getElem_cons_succ]
        go_simp
      refine wpAnyH_take (i := 7) (v := .slice bo n bcap) rfl (by kernel_rfl) (by kernel_rfl) (by kernel_rfl) (fun _ _ _ h => h) (.inl ⟨by kernel_rfl, fun w'' hS => ?_⟩) trivial ?_
      · have hh := hsF w''
        clear Hblk2 hcb2 hclr' hbv hsv hD hsl2 hmf hsub1 hne0 hc10 hc11 hfz hsF hsI
        simp only [Act.put, List.setIfInBounds_toArray, List.set_cons_zero, List.set_cons_succ, List.getElem_toArray, List.getElem_cons_zero, List.getElem_cons_succ]
        go_simp
      refine wpAnyH_all (rs := [14]) (by kernel_rfl) (by simp) (fun i hi => ?_)
      obtain rfl : i = 14 := by simpa using hi
      refine op_value (v := .pointer (some ⟨X, 10, none⟩)) (w' := W2.drew) rfl (by kernel_rfl) (by kernel_rfl) ⟨trivial, ?_⟩
      refine wpAnyH_all (rs := [15]) (by kernel_rfl) (by simp) (fun i hi => ?_)
      obtain rfl : i = 15 := by simpa using hi
      refine op_value (v := .pointer (some ⟨X, 10, none⟩)) (w' := W2.drew) rfl (by kernel_rfl) (by kernel_rfl) ⟨trivial, ?_⟩
      refine wpAnyH_all (rs := [16]) (by kernel_rfl) (by simp) (fun i hi => ?_)
      obtain rfl : i = 16 := by simpa using hi
      refine op_skip (w' := (W2.drew.setCell ⟨X, 10, none⟩ (.slice bo n bcap))) rfl (by kernel_rfl) ?_ ⟨trivial, ?_⟩
      · have hc : W2.drew.cell? ⟨X, 10, none⟩ = some (.slice bo s.us.length bcap) := hc10
        have hz : W2.drew.frozen? ⟨X, 10, none⟩ = false := hfz 10
        clear Hblk2 hcb2 hclr' hbv hsv hD hsl2 hmf hsub1 hne0 hc10 hc11 hfz hsF hsI
        simp only [Act.put, List.setIfInBounds_toArray, List.set_cons_zero, List.set_cons_succ, List.getElem_toArray, List.getElem_cons_zero, List.getElem_cons_succ]
        go_simp
      refine wpAnyH_all (rs := [17]) (by kernel_rfl) (by simp) (fun i hi => ?_)
      obtain rfl : i = 17 := by simpa using hi
      refine op_value (v := .pointer (some ⟨X, 10, none⟩)) (w' := (W2.drew.setCell ⟨X, 10, none⟩ (.slice bo n bcap))) rfl (by kernel_rfl) (by kernel_rfl) ⟨trivial, ?_⟩
      refine wpAnyH_all (rs := [18]) (by kernel_rfl) (by simp) (fun i hi => ?_)
      obtain rfl : i = 18 := by simpa using hi
      refine op_value (v := .pointer (some ⟨X, 11, none⟩)) (w' := (W2.drew.setCell ⟨X, 10, none⟩ (.slice bo n bcap))) rfl (by kernel_rfl) (by kernel_rfl) ⟨trivial, ?_⟩
      refine wpAnyH_all (rs := [19]) (by kernel_rfl) (by simp) (fun i hi => ?_)
      obtain rfl : i = 19 := by simpa using hi
      have hB1 : Blk (W2.drew.setCell ⟨X, 10, none⟩ (.slice bo n bcap)) X _ 82 := Hblk2.out.drew.set 10 (.slice bo n bcap)
      have hc19 : (W2.drew.setCell ⟨X, 10, none⟩ (.slice bo n bcap)).cell? ⟨X, 11, none⟩ = some (.slice (some ⟨sb, 0, none⟩) (r.length + 1) sc) := (hB1.cell 11).trans (by rw [workCells_setBacks _ _ _ _ h3]; exact (workCells_starts _ _ _ _ h3).trans (by rw [← Hst.out]))
      have hz19 := hB1.free 11
      have hz11 := hfz 11
      refine op_skip (w' := ((W2.drew.setCell ⟨X, 10, none⟩ (.slice bo n bcap)).setCell ⟨X, 11, none⟩ (.slice (some ⟨sb, 0, none⟩) r.length sc))) rfl (by kernel_rfl) ?_ ⟨trivial, wpAnyH_done (by kernel_rfl) ?_ _⟩
      · clear Hblk2 hcb2 hclr' hbv hsv hD hsl2 hmf hsub1 hne0 hc10 hfz hsF hsI hB1 hc19 hz19
        simp only [Act.put, List.setIfInBounds_toArray, List.set_cons_zero, List.set_cons_succ, List.getElem_toArray, List.getElem_cons_zero, List.getElem_cons_succ]
        go_simp
      simp only [Act.put, List.setIfInBounds_toArray, List.set_cons_zero, List.set_cons_succ, List.getElem_toArray, List.getElem_cons_zero, List.getElem_cons_succ]
      exact NoPanic.normal ⟨by simp, .inl ⟨_, _, rfl, run_takeDeferred HKZ.out, ⟨_, results_none rfl _ _ _, Hfin.out⟩⟩⟩
end Go.Proofs.Ytkjfpdfkcfgfkaa

/- Push and Pop of a Work. -/
namespace Go.Proofs.Ytkjfpdfkcfgfkaa
open Go.RowKit

set_option maxHeartbeats 1600000 in
set_option maxRecDepth 1000000 in
theorem wpush_no (X : Nat) (zs : List Int) (s : WS) (w : World) (h : WAt w X zs s) (hbz : s.l.busy = false) (h20 : s.sk.length = 20) :
    Calls Try.prog 21 #[.pointer (some ⟨X, 0, none⟩)] w fun e w' => e = .returned (.int .i64 2) ∧ w' = w := by
  have hd8 : s.d.length = 8 := h.good.dm.len
  obtain ⟨so', sc, hst⟩ := startsOf_form h.mem.tr
  rw [h20] at hst
  have hcb : w.cell? ⟨X, 12, none⟩ = some (.bool false) := (h.mem.blk.cell 12).trans ((workCells_busy _ _ _ _ hd8).trans (by rw [hbz]))
  have hcl : w.cell? ⟨X, 11, none⟩ = some (.slice so' 20 sc) := (h.mem.blk.cell 11).trans ((workCells_starts _ _ _ _ hd8).trans (by rw [hst]))
  clear h hst
  go_enter Try.func21, Try.ntmps21
  go_wp2_with (go_at_call 36; refine (level_any X so' 20 sc _ hcl).mono ?_; rintro e w' ⟨rfl, rfl⟩)
  go_ret
  exact ⟨rfl, rfl⟩
/-- The Work behind Push. -/
def WS.push (s : WS) (sv : Value) : WS := { s with l := ⟨s.l.backs, sv, s.l.busy⟩, sk := (s.us.length, s.d, s.ts.map Tab.t) :: s.sk }

set_option maxHeartbeats 1600000 in
set_option maxRecDepth 1000000 in
theorem wpush_yes (X : Nat) (zs : List Int) (s : WS) (w : World) (h : WAt w X zs s) (hbz : s.l.busy = false) (h20 : s.sk.length < 20) :
    Calls Try.prog 21 #[.pointer (some ⟨X, 0, none⟩)] w fun e w' => e = .returned (.int .i64 0) ∧ ∃ sv, WAt w' X zs (s.push sv) ∧ WStep w w' X s (s.push sv) := by
  have hd8 : s.d.length = 8 := h.good.dm.len
  obtain ⟨so', sc, hst⟩ := startsOf_form h.mem.tr
  obtain ⟨bo, bcap, hbk, _⟩ := h.mem.tr.backs.form
  rw [List.length_map] at hbk
  have hcb : w.cell? ⟨X, 12, none⟩ = some (.bool false) := (h.mem.blk.cell 12).trans ((workCells_busy _ _ _ _ hd8).trans (by rw [hbz]))
  have hcl : w.cell? ⟨X, 11, none⟩ = some (.slice so' s.sk.length sc) := (h.mem.blk.cell 11).trans ((workCells_starts _ _ _ _ hd8).trans (by rw [hst]))
  have hne : ((s.sk.length : Int) == 20) = false := by simp; omega
  have HH := hd h
  have Hbk := hd hbk
  clear h hst hbk
  go_enter Try.func21, Try.ntmps21
  go_wp2_with (first
    | (go_at_call 36; refine (level_any X so' s.sk.length sc _ hcl).mono ?_; rintro e w' ⟨rfl, rfl⟩)
    | (go_at_call 43; refine (push_any X s.szv s.d _ s.l bo s.us.length bcap (startsOf s.sk) _ HH.out.mem.blk hd8 Hbk.out HH.out.mem.tr.starts (by rw [startsOf_len]; omega)).mono ?_; rintro e w2 ⟨rfl, sv, hr, hf, hB, ho⟩))
  go_ret
  have o : Only w' (fun k => k = X ∨ s.l.starts.ownBlock = some k) [82, 3] := (Only.one HH.out.mem.blk).or (Only.row HH.out.mem.tr.starts)
  refine ⟨rfl, sv, ⟨⟨hB, ?_, HH.out.mem.zok, ?_, HH.out.mem.inj, HH.out.mem.t12, HH.out.mem.fits, HH.out.mem.tbok, ⟨?_, ?_⟩, ?_, ?_⟩, HH.out.good, HH.out.cnt, ?_, ?_⟩, ?_, ?_⟩
  · refine HH.out.mem.sz.fr hf (fun k hk => ?_)
    rintro (rfl | h)
    · exact HH.out.mem.sz.ne HH.out.mem.blk (by decide) hk
    · exact (HH.out.mem.apart k h).1 hk
  · refine ⟨HH.out.mem.tabs.row.frO hf o (by decide), fun i hi => (HH.out.mem.tabs.at_ i hi).fr hf ?_, HH.out.mem.tabs.four, HH.out.mem.tabs.ok⟩
    rintro k (hk | hk | hk) hs
    · obtain ⟨cur, e, hb, he⟩ := (HH.out.mem.tabs.at_ i hi).tyG
      rw [← hk] at hb
      have := o k cur e hs hb
      rcases he with rfl | rfl <;> (revert this; decide)
    · rcases hs with rfl | hs
      · obtain ⟨cur, hb⟩ := (HH.out.mem.tabs.at_ i hi).tyg
        rw [← hk] at hb
        have := (hb.inj HH.out.mem.blk).2
        revert this
        decide
      · exact (HH.out.mem.apart k hs).2 i hi hk.symm
    · obtain ⟨cur, hb⟩ := (HH.out.mem.tabs.at_ i hi).tyn hk
      have := o k cur _ hs hb
      revert this
      decide
  · show Row w2 sv 3 (startsOf ((s.us.length, s.d, s.ts.map Tab.t) :: s.sk))
    rw [startsOf_cons]
    exact hr
  · exact HH.out.mem.tr.backs.frO hf o (by decide)
  · exact fun u hu => (HH.out.mem.un u hu).frO hf o (by decide) (.inr (by decide))
  · intro k hk
    rcases ho k hk with h | h
    · exact HH.out.mem.apart k h
    · refine ⟨fun h' => ?_, fun i hi h' => ?_⟩
      · have := HH.out.mem.sz.lt h'
        omega
      · have := (HH.out.mem.tabs.at_ i hi).lt (.inr (.inl rfl))
        have h2 : (s.ts.getD i tab0).g = k := h'
        omega
  · refine ⟨Nat.le_refl _, ?_, HH.out.good, HH.out.cnt, ?_⟩
    · show (s.us.drop s.us.length).foldr _ _ = _
      rw [List.drop_length]
      rfl
    · show StackOk zs s.bs (s.us.take s.us.length) _ _
      rw [List.take_length]
      exact HH.out.sk
  · show s.sk.length + 1 ≤ 20
    omega
  · exact hf.mono (fun k hk => .inl (hk.elim .inl (fun h => .inr (.inr (.inr (.inr (.inr (.inl h))))))))
  · rintro k (rfl | hk' | hk' | hk' | hk' | hk' | hk')
    · exact .inl (.inl rfl)
    · exact .inl (.inr (.inl hk'))
    · exact .inl (.inr (.inr (.inl hk')))
    · exact .inl (.inr (.inr (.inr (.inl hk'))))
    · exact .inl (.inr (.inr (.inr (.inr (.inl hk')))))
    · exact (ho k hk').imp (fun h => .inr (.inr (.inr (.inr (.inr (.inl h)))))) id
    · exact .inl (.inr (.inr (.inr (.inr (.inr (.inr hk'))))))

set_option maxHeartbeats 1600000 in
set_option maxRecDepth 1000000 in
theorem wpop_no (X : Nat) (zs : List Int) (s : WS) (w : World) (h : WAt w X zs s) (hbz : s.l.busy = false) (h0 : s.sk = []) :
    Calls Try.prog 22 #[.pointer (some ⟨X, 0, none⟩)] w fun e w' => e = .returned (.int .i64 4) ∧ w' = w := by
  have hd8 : s.d.length = 8 := h.good.dm.len
  obtain ⟨so', sc, hst⟩ := startsOf_form h.mem.tr
  rw [h0] at hst
  have hst2 : s.l.starts = .slice so' 0 sc := hst
  have hcb : w.cell? ⟨X, 12, none⟩ = some (.bool false) := (h.mem.blk.cell 12).trans ((workCells_busy _ _ _ _ hd8).trans (by rw [hbz]))
  have hcl : w.cell? ⟨X, 11, none⟩ = some (.slice so' 0 sc) := (h.mem.blk.cell 11).trans ((workCells_starts _ _ _ _ hd8).trans (by rw [hst2]))
  clear h hst hst2
  go_enter Try.func22, Try.ntmps22
  go_wp2_with (go_at_call 36; refine (level_any X so' 0 sc _ hcl).mono ?_; rintro e w' ⟨rfl, rfl⟩)
  go_ret
  exact ⟨rfl, rfl⟩
/-- The Work behind Pop. -/
def WS.pop (s : WS) (n : Nat) (d : List Nat) (r : List (Nat × List Nat × List TS)) (ts : List Tab) (bv sv : Value) : WS := { s with d := d, ts := ts, l := ⟨bv, sv, s.l.busy⟩, us := s.us.take n, sk := r }

set_option maxHeartbeats 1600000 in
set_option maxRecDepth 1000000 in
theorem wpop_yes (X : Nat) (zs : List Int) (s : WS) (n : Nat) (p : List Nat × List TS) (r : List (Nat × List Nat × List TS)) (w : World) (h : WAt w X zs s) (hbz : s.l.busy = false) (hsk : s.sk = (n, p) :: r) :
    Calls Try.prog 22 #[.pointer (some ⟨X, 0, none⟩)] w fun e w' => e = .returned (.int .i64 0) ∧ ∃ ts bv sv, SameT s.ts ts ∧ ts.map Tab.t = p.2 ∧ WAt w' X zs (s.pop n p.1 r ts bv sv) ∧ WStep w w' X s (s.pop n p.1 r ts bv sv) := by
  have hd8 : s.d.length = 8 := h.good.dm.len
  obtain ⟨so', sc, hst⟩ := startsOf_form h.mem.tr
  rw [hsk, List.length_cons] at hst
  have hcb : w.cell? ⟨X, 12, none⟩ = some (.bool false) := (h.mem.blk.cell 12).trans ((workCells_busy _ _ _ _ hd8).trans (by rw [hbz]))
  have hcl : w.cell? ⟨X, 11, none⟩ = some (.slice so' (r.length + 1) sc) := (h.mem.blk.cell 11).trans ((workCells_starts _ _ _ _ hd8).trans (by rw [hst]))
  have hne : (((r.length + 1 : Nat) : Int) == 0) = false := by simp; omega
  have hsko := h.sk
  rw [hsk] at hsko
  obtain ⟨hn, he, hg, hc, hr⟩ := hsko
  have hl := h.lev
  rw [hsk, List.length_cons] at hl
  have hcn := h.cnt
  have HH := hd h
  have He := hd he
  have Hg := hd hg
  have Hr := hd hr
  have Hsk := hd hsk
  clear h hst he hg hr hsk
  go_enter Try.func22, Try.ntmps22
  go_wp2_with (first
    | (go_at_call 36; refine (level_any X so' (r.length + 1) sc _ hcl).mono ?_; rintro e w' ⟨rfl, rfl⟩)
    | (go_at_call 44; refine (tpop_any X zs s n p r _ HH.out.mem hd8 (by omega) (by omega) Hsk.out hn He.out).mono ?_; rintro e w2 ⟨rfl, ts, bv, sv, h1, h2, h3, h4, h5, h6, h7⟩))
  go_ret
  refine ⟨rfl, ts, bv, sv, h1, h2, ⟨h4, ?_, ?_, ?_, ?_⟩, ?_, ?_⟩
  · show Good zs s.bs p.1 (ts.map Tab.t)
    rw [h2]
    exact Hg.out
  · show (s.us.take n).length + 900 * bitsOf p.1 ≤ 57600
    rw [List.length_take, Nat.min_eq_left hn]
    exact hc
  · show StackOk zs s.bs (s.us.take n) (p.1, ts.map Tab.t) r
    rw [h2]
    exact Hr.out
  · show r.length ≤ 20
    omega
  · refine h5.mono ?_
    rintro i (rfl | ⟨j, hj, rfl⟩ | hi)
    · exact .inl (.inl rfl)
    · exact .inl (.inr (.inr (.inr (.inl ⟨j, hj, .inl rfl⟩))))
    · exact .inl (.inr (.inr (.inr (.inr (.inl hi)))))
  · rintro k (rfl | hk' | hk' | ⟨i, hi, hk'⟩ | hk' | hk' | ⟨u, hu, hk'⟩)
    · exact .inl (.inl rfl)
    · exact .inl (.inr (.inl hk'))
    · refine .inl (.inr (.inr (.inl ?_)))
      have hk2 : (Value.slice s.so ts.length s.tcap).ownBlock = some k := hk'
      rw [h1.len] at hk2
      exact hk2
    · have hi' : i < s.ts.length := by rw [← h1.len]; exact hi
      have hk2 : k = (ts.getD i tab0).G ∨ k = (ts.getD i tab0).g := hk'
      rw [(h1.at_ i hi').1, (h1.at_ i hi').2.1] at hk2
      exact .inl (.inr (.inr (.inr (.inl ⟨i, hi', hk2⟩))))
    · exact .inl (.inr (.inr (.inr (.inr (.inl (h6 ▸ hk'))))))
    · exact .inl (.inr (.inr (.inr (.inr (.inr (.inl (h7 ▸ hk')))))))
    · exact .inl (.inr (.inr (.inr (.inr (.inr (.inr ⟨u, List.mem_of_mem_take hu, hk'⟩))))))
end Go.Proofs.Ytkjfpdfkcfgfkaa

/- Look. -/
namespace Go.Proofs.Ytkjfpdfkcfgfkaa
open Go.RowKit

/-- Sums over the first k domains. -/
def leftTo (d : List Nat) (k : Nat) : Nat := ((List.range k).map (fun q => pop (d.getD q 0))).foldl (· + ·) 0
def fixTo (d : List Nat) (k : Nat) : Nat := ((List.range k).filter (fun q => pop (d.getD q 0) == 1)).length
theorem leftTo_succ (d : List Nat) (k : Nat) : leftTo d (k + 1) = leftTo d k + pop (d.getD k 0) := by simp [leftTo, List.range_succ]
theorem fixTo_succ (d : List Nat) (k : Nat) : fixTo d (k + 1) = fixTo d k + if pop (d.getD k 0) = 1 then 1 else 0 := by
  simp only [fixTo, List.range_succ, List.filter_append, List.length_append]
  by_cases h : pop (d.getD k 0) = 1
  · rw [if_pos h, List.filter_cons_of_pos (by simpa using h)]
    simp
  · rw [if_neg h, List.filter_cons_of_neg (by simpa using h)]
    simp
theorem pop_le8 (s : Nat) : pop s ≤ 8 := by unfold pop; exact Nat.le_trans (List.length_filter_le _ _) (by simp)
theorem leftTo_le (d : List Nat) : ∀ k, leftTo d k ≤ 8 * k
  | 0 => by simp [leftTo]
  | k + 1 => by
    rw [leftTo_succ]
    have := leftTo_le d k
    have := pop_le8 (d.getD k 0)
    omega
theorem fixTo_le (d : List Nat) (k : Nat) : fixTo d k ≤ k := by
  unfold fixTo
  have := List.length_filter_le (fun q => pop (d.getD q 0) == 1) (List.range k)
  simpa using this
theorem leftTo_bits (d : List Nat) : leftTo d 8 = bitsOf d := rfl
theorem index8 (d : List Nat) (h8 : d.length = 8) (k : Nat) (hk : k < 8) (W : World) : (Instr.index 76 (.agg (domV d)) (.int .i64 (k : Int))).run Try.prog W = .ok (.int .u8 ((d.getD k 0 : Nat) : Int)) W := by
  obtain ⟨d0, d1, d2, d3, d4, d5, d6, d7, rfl⟩ := list8 h8
  have hc : k = 0 ∨ k = 1 ∨ k = 2 ∨ k = 3 ∨ k = 4 ∨ k = 5 ∨ k = 6 ∨ k = 7 := by omega
  rcases hc with rfl | rfl | rfl | rfl | rfl | rfl | rfl | rfl <;> (show (Instr.index _ _ _).run Try.prog W = _; kernel_rfl)
/-- What Look tells. -/
def lookV (zs : List Int) (s : WS) : Array Value := #[.int .i64 (zs.length : Int), .int .i64 (s.ts.length : Int), .int .i64 (s.sk.length : Int), .bool (s.d.getD 0 0 == 0), .int .i64 (leftTo s.d 8 : Int), .int .i64 (fixTo s.d 8 : Int)]
def lookZ : Array Value := #[.int .i64 0, .int .i64 0, .int .i64 0, .bool false, .int .i64 0, .int .i64 0]

set_option maxHeartbeats 1600000 in
set_option maxRecDepth 1000000 in
theorem look_any (X : Nat) (zs : List Int) (s : WS) (w : World) (h : WAt w X zs s) (hbz : s.l.busy = false) :
    Calls Try.prog 17 #[.pointer (some ⟨X, 0, none⟩)] w fun e w' => e = .returned (.agg (lookV zs s)) ∧ Nw w w' := by
  obtain ⟨hz0, hzl⟩ := okSizes_len h.mem.zok
  have hd8 : s.d.length = 8 := h.good.dm.len
  obtain ⟨v0, v1, v2, v3, v4, v5, v6, v7, hdv⟩ := domV8 hd8
  obtain ⟨⟨x0, rfl⟩, ⟨x1, rfl⟩, ⟨x2, rfl⟩, ⟨x3, rfl⟩, ⟨x4, rfl⟩, ⟨x5, rfl⟩, ⟨x6, rfl⟩, ⟨x7, rfl⟩⟩ := domV_one s.d hdv
  obtain ⟨so', sc, hst⟩ := startsOf_form h.mem.tr
  obtain ⟨sa, scap, hszv, _⟩ := h.mem.sz.form
  simp only [List.length_map] at hszv
  obtain ⟨W, hW⟩ : ∃ W, W = w.alloc (.cells lookZ 40) := ⟨_, rfl⟩
  have hfW : Nw w W := by rw [hW]; exact (Fr.refl _ w).alloc _
  have hbR : Blk W w.heap.size lookZ 40 := by rw [hW]; exact Blk.new _ _ _
  have hM := h.mem.nw hfW
  have hcb : W.cell? ⟨X, 12, none⟩ = some (.bool false) := (hM.blk.cell 12).trans ((workCells_busy _ _ _ _ hd8).trans (by rw [hbz]))
  have hXlt := h.mem.blk.lt
  have HM := hd hM
  have HH := hd h
  have Hdv := hd hdv
  have Hst := hd hst
  have Hszv := hd hszv
  have HW := hd hW
  have HfW := hd hfW
  have HbR := hd hbR
  clear h hdv hst hszv hW hfW hbR hM
  obtain ⟨dead, hdead⟩ : ∃ b, (s.d.getD 0 0 == 0) = b := ⟨_, rfl⟩
  have Hdead := hd hdead
  clear hdead
  go_enter Try.func17, Try.ntmps17
  go_upto_region 1 with fail
  rw [show w.alloc (Obj.cells #[Value.int .i64 0, .int .i64 0, .int .i64 0, .bool false, .int .i64 0, .int .i64 0] 40) = W from HW.out.symm]
  go_upto_region 3 with fail
  go_cut [3] (fun p wx => ∃ L, p = .pointer (some ⟨L, 0, none⟩) ∧ Hid (Blk wx L #[.int .i64 (zs.length : Int), .int .i64 (s.ts.length : Int), .int .i64 (s.sk.length : Int), .bool dead, .int .i64 0, .int .i64 0] 40) ∧ Hid (Nw W wx) ∧ w.heap.size < L)
  case first =>
    have HMd : Hid (WMem W.drew X zs s) := HM.out.nw ((Fr.refl _ W).drew)
    have hK0 : WMem W.drew X zs s := HMd.out
    refine wp_region_held (S := fun w' => WMem w' X zs s) (by kernel_rfl) ?_
    refine wpAnyH_take (i := 0) (v := .pointer (some ⟨X, 0, none⟩)) rfl (by kernel_rfl) (by kernel_rfl) (by kernel_rfl) (fun _ _ _ h => h) (.inl ⟨by kernel_rfl, fun w'' hS => by kernel_rfl⟩) hK0 ?_
    refine wpAnyH_take (i := 1) (v := .pointer (some ⟨X, 0, none⟩)) rfl (by kernel_rfl) (by kernel_rfl) (by kernel_rfl) (fun _ _ _ h => h) (.inl ⟨by kernel_rfl, fun w'' hS => by kernel_rfl⟩) hK0 ?_
    refine wpAnyH_take (i := 2) (v := .pointer (some ⟨X, 0, none⟩)) rfl (by kernel_rfl) (by kernel_rfl) (by kernel_rfl) (fun _ _ _ h => h) (.inl ⟨by kernel_rfl, fun w'' hS => by kernel_rfl⟩) hK0 ?_
    refine wpAnyH_take (i := 3) (v := .slice sa zs.length scap) rfl (by kernel_rfl) (by kernel_rfl) (by kernel_rfl) (fun _ _ _ h => h) (.inl ⟨by kernel_rfl, fun w'' hS => ?_⟩) hK0 ?_
    · have hc : w''.cell? ⟨X, 0, none⟩ = some (.slice sa zs.length scap) := (hS.blk.cell 0).trans ((workCells_sz ..).trans (by rw [Hszv.out]))
      clear hS hK0 hcb
      simp only [Act.put, List.setIfInBounds_toArray, List.set_cons_zero, List.set_cons_succ, List.getElem_toArray, List.getElem_cons_zero, List.getElem_cons_succ]
      go_simp
    refine wpAnyH_take (i := 4) (v := .int .i64 (zs.length : Int)) rfl (by kernel_rfl) (by kernel_rfl) (by kernel_rfl) (fun _ _ _ h => h) (.inl ⟨by kernel_rfl, fun w'' hS => ?_⟩) hK0 ?_
    · skip
      clear hS hK0 hcb
      simp only [Act.put, List.setIfInBounds_toArray, List.set_cons_zero, List.set_cons_succ, List.getElem_toArray, List.getElem_cons_zero, List.getElem_cons_succ]
      go_simp
    refine wpAnyH_take (i := 5) (v := .pointer (some ⟨X, 0, none⟩)) rfl (by kernel_rfl) (by kernel_rfl) (by kernel_rfl) (fun _ _ _ h => h) (.inl ⟨by kernel_rfl, fun w'' hS => by kernel_rfl⟩) hK0 ?_
    refine wpAnyH_take (i := 6) (v := .pointer (some ⟨X, 0, none⟩)) rfl (by kernel_rfl) (by kernel_rfl) (by kernel_rfl) (fun _ _ _ h => h) (.inl ⟨by kernel_rfl, fun w'' hS => by kernel_rfl⟩) hK0 ?_
    refine wpAnyH_take (i := 7) (v := .pointer (some ⟨X, 9, none⟩)) rfl (by kernel_rfl) (by kernel_rfl) (by kernel_rfl) (fun _ _ _ h => h) (.inl ⟨by kernel_rfl, fun w'' hS => by kernel_rfl⟩) hK0 ?_
    refine wpAnyH_take (i := 8) (v := .slice s.so s.ts.length s.tcap) rfl (by kernel_rfl) (by kernel_rfl) (by kernel_rfl) (fun _ _ _ h => h) (.inl ⟨by kernel_rfl, fun w'' hS => ?_⟩) hK0 ?_
    · have hc : w''.cell? ⟨X, 9, none⟩ = some (.slice s.so s.ts.length s.tcap) := (hS.blk.cell 9).trans (workCells_tabs _ _ _ _ hd8)
      clear hS hK0 hcb
      simp only [Act.put, List.setIfInBounds_toArray, List.set_cons_zero, List.set_cons_succ, List.getElem_toArray, List.getElem_cons_zero, List.getElem_cons_succ]
      go_simp
    refine wpAnyH_take (i := 9) (v := .int .i64 (s.ts.length : Int)) rfl (by kernel_rfl) (by kernel_rfl) (by kernel_rfl) (fun _ _ _ h => h) (.inl ⟨by kernel_rfl, fun w'' hS => ?_⟩) hK0 ?_
    · skip
      clear hS hK0 hcb
      simp only [Act.put, List.setIfInBounds_toArray, List.set_cons_zero, List.set_cons_succ, List.getElem_toArray, List.getElem_cons_zero, List.getElem_cons_succ]
      go_simp
    refine wpAnyH_take (i := 10) (v := .pointer (some ⟨X, 0, none⟩)) rfl (by kernel_rfl) (by kernel_rfl) (by kernel_rfl) (fun _ _ _ h => h) (.inl ⟨by kernel_rfl, fun w'' hS => by kernel_rfl⟩) hK0 ?_
    refine wpAnyH_take (i := 11) (v := .pointer (some ⟨X, 0, none⟩)) rfl (by kernel_rfl) (by kernel_rfl) (by kernel_rfl) (fun _ _ _ h => h) (.inl ⟨by kernel_rfl, fun w'' hS => by kernel_rfl⟩) hK0 ?_
    refine wpAnyH_take (i := 12) (v := .pointer (some ⟨X, 10, none⟩)) rfl (by kernel_rfl) (by kernel_rfl) (by kernel_rfl) (fun _ _ _ h => h) (.inl ⟨by kernel_rfl, fun w'' hS => by kernel_rfl⟩) hK0 ?_
    refine wpAnyH_take (i := 14) (v := .pointer (some ⟨X, 0, none⟩)) rfl (by kernel_rfl) (by kernel_rfl) (by kernel_rfl) (fun _ _ _ h => h) (.inl ⟨by kernel_rfl, fun w'' hS => by kernel_rfl⟩) hK0 ?_
    obtain ⟨Y, hY⟩ : ∃ Y, Y = W.drew.alloc (.cells lookZ 40) := ⟨_, rfl⟩
    have hfY : Nw W Y := by rw [hY]; exact ((Fr.refl _ W).drew).alloc _
    have hZ : Blk Y W.heap.size lookZ 40 := by rw [hY]; exact Blk.new _ _ _
    have HY := hd hY
    have HMY := hd (HM.out.nw hfY)
    have hF8 : Nw W ((((((Y.setCell ⟨W.heap.size, 0, none⟩ (.int .i64 (zs.length : Int))).setCell ⟨W.heap.size, 1, none⟩ (.int .i64 (s.ts.length : Int))).setCell ⟨W.heap.size, 2, none⟩ (.int .i64 (s.sk.length : Int))).setCell ⟨W.heap.size, 3, none⟩ (.bool dead)).setCell ⟨W.heap.size, 4, none⟩ (.int .i64 0)).setCell ⟨W.heap.size, 5, none⟩ (.int .i64 0)) := (((((hfY.setCell _ _ (.inr (Nat.le_refl _))).setCell _ _ (.inr (Nat.le_refl _))).setCell _ _ (.inr (Nat.le_refl _))).setCell _ _ (.inr (Nat.le_refl _))).setCell _ _ (.inr (Nat.le_refl _))).setCell _ _ (.inr (Nat.le_refl _))
    have HF8 := hd hF8
    have HM8 := hd (HM.out.nw hF8)
    have HB8 : Hid (Blk ((((((Y.setCell ⟨W.heap.size, 0, none⟩ (.int .i64 (zs.length : Int))).setCell ⟨W.heap.size, 1, none⟩ (.int .i64 (s.ts.length : Int))).setCell ⟨W.heap.size, 2, none⟩ (.int .i64 (s.sk.length : Int))).setCell ⟨W.heap.size, 3, none⟩ (.bool dead)).setCell ⟨W.heap.size, 4, none⟩ (.int .i64 0)).setCell ⟨W.heap.size, 5, none⟩ (.int .i64 0)) W.heap.size #[.int .i64 (zs.length : Int), .int .i64 (s.ts.length : Int), .int .i64 (s.sk.length : Int), .bool dead, .int .i64 0, .int .i64 0] 40) := (((((hZ.set 0 _).set 1 _).set 2 _).set 3 _).set 4 _).set 5 _
    have q0 : Y.cell? ⟨W.heap.size, 0, none⟩ = some (.int .i64 0) := hZ.cell 0
    have q1 : Y.cell? ⟨W.heap.size, 1, none⟩ = some (.int .i64 0) := hZ.cell 1
    have q2 : Y.cell? ⟨W.heap.size, 2, none⟩ = some (.int .i64 0) := hZ.cell 2
    have q3 : Y.cell? ⟨W.heap.size, 3, none⟩ = some (.bool false) := hZ.cell 3
    have q4 : Y.cell? ⟨W.heap.size, 4, none⟩ = some (.int .i64 0) := hZ.cell 4
    have q5 : Y.cell? ⟨W.heap.size, 5, none⟩ = some (.int .i64 0) := hZ.cell 5
    have hfz := hZ.free
    clear hY hfY hZ hF8
    refine wpAnyH_all (rs := [13, 17]) (by kernel_rfl) (by simp) (fun i hi => ?_)
    rcases List.mem_cons.1 hi with rfl | hi
    · refine op_enter (f := 36) (args := #[.pointer (some ⟨X, 10, none⟩)]) (w' := W.drew) rfl (by kernel_rfl) (by kernel_rfl) ?_
      refine (level_any X so' s.sk.length sc _ ((HMd.out.blk.cell 11).trans ((workCells_starts _ _ _ _ hd8).trans (by rw [Hst.out])))).mono ?_
      rintro e w' ⟨rfl, rfl⟩
      refine ⟨_, rfl, HMd.out, ?_⟩
      refine wpAnyH_all (rs := [15, 17]) (by kernel_rfl) (by simp) (fun i hi => ?_)
      rcases List.mem_cons.1 hi with rfl | hi
      · refine op_enter (f := 37) (args := #[.pointer (some ⟨X, 0, none⟩)]) (w' := W.drew) rfl (by kernel_rfl) (by kernel_rfl) ?_
        refine (dead_any X _ s.d _ s.l _ HMd.out.blk hd8).mono ?_
        rw [Hdead.out]
        rintro e w' ⟨rfl, rfl⟩
        refine ⟨_, rfl, HMd.out, ?_⟩
        refine wpAnyH_take (i := 16) (v := .agg #[.int .i64 (zs.length : Int), .int .i64 (s.ts.length : Int), .int .i64 (s.sk.length : Int), .bool dead, .int .i64 0, .int .i64 0]) rfl (by kernel_rfl) (by kernel_rfl) (by kernel_rfl) (fun _ _ _ h => h) (.inl ⟨by kernel_rfl, fun w'' hS => by kernel_rfl⟩) HMd.out ?_
        refine wpAnyH_all (rs := [17]) (by kernel_rfl) (by simp) (fun i hi => ?_)
        obtain rfl : i = 17 := by simpa using hi
        refine op_value (v := .pointer (some ⟨W.heap.size, 0, none⟩)) (w' := Y) rfl (by kernel_rfl) ?_ ⟨HMY.out, ?_⟩
        · rw [HY.out]
          kernel_rfl
        refine wpAnyH_all (rs := [18]) (by kernel_rfl) (by simp) (fun i hi => ?_)
        obtain rfl : i = 18 := by simpa using hi
        refine op_skip (w' := _) rfl (by kernel_rfl) ?_ ⟨HM8.out, wpAnyH_done (by kernel_rfl) ?_ _⟩
        · clear hK0 hcb
          simp only [Act.put, List.setIfInBounds_toArray, List.set_cons_zero, List.set_cons_succ, List.getElem_toArray, List.getElem_cons_zero, List.getElem_cons_succ]
          go_simp
        simp only [Act.put, List.setIfInBounds_toArray, List.set_cons_zero, List.set_cons_succ, List.getElem_toArray, List.getElem_cons_zero, List.getElem_cons_succ]
        go_wp2_with fail
        go_meet
        case rel => exact ⟨W.heap.size, rfl, HB8.out, HF8.out, by have := HbR.out.lt; omega⟩
      · obtain rfl : i = 17 := by simpa using hi
        refine op_value (v := .pointer (some ⟨W.heap.size, 0, none⟩)) (w' := Y) rfl (by kernel_rfl) ?_ ⟨HMY.out, ?_⟩
        · rw [HY.out]
          kernel_rfl
        refine wpAnyH_all (rs := [15]) (by kernel_rfl) (by simp) (fun i hi => ?_)
        obtain rfl : i = 15 := by simpa using hi
        refine op_enter (f := 37) (args := #[.pointer (some ⟨X, 0, none⟩)]) (w' := Y) rfl (by kernel_rfl) (by kernel_rfl) ?_
        refine (dead_any X _ s.d _ s.l _ HMY.out.blk hd8).mono ?_
        rw [Hdead.out]
        rintro e w' ⟨rfl, hw'⟩
        rw [hw']
        refine ⟨_, rfl, HMY.out, ?_⟩
        refine wpAnyH_take (i := 16) (v := .agg #[.int .i64 (zs.length : Int), .int .i64 (s.ts.length : Int), .int .i64 (s.sk.length : Int), .bool dead, .int .i64 0, .int .i64 0]) rfl (by kernel_rfl) (by kernel_rfl) (by kernel_rfl) (fun _ _ _ h => h) (.inl ⟨by kernel_rfl, fun w'' hS => by kernel_rfl⟩) HMY.out ?_
        refine wpAnyH_all (rs := [18]) (by kernel_rfl) (by simp) (fun i hi => ?_)
        obtain rfl : i = 18 := by simpa using hi
        refine op_skip (w' := _) rfl (by kernel_rfl) ?_ ⟨HM8.out, wpAnyH_done (by kernel_rfl) ?_ _⟩
        · clear hK0 hcb
          simp only [Act.put, List.setIfInBounds_toArray, List.set_cons_zero, List.set_cons_succ, List.getElem_toArray, List.getElem_cons_zero, List.getElem_cons_succ]
          go_simp
        simp only [Act.put, List.setIfInBounds_toArray, List.set_cons_zero, List.set_cons_succ, List.getElem_toArray, List.getElem_cons_zero, List.getElem_cons_succ]
        go_wp2_with fail
        go_meet
        case rel => exact ⟨W.heap.size, rfl, HB8.out, HF8.out, by have := HbR.out.lt; omega⟩
    · obtain rfl : i = 17 := by simpa using hi
      refine op_value (v := .pointer (some ⟨W.heap.size, 0, none⟩)) (w' := Y) rfl (by kernel_rfl) ?_ ⟨HMY.out, ?_⟩
      · rw [HY.out]
        kernel_rfl
      refine wpAnyH_all (rs := [13]) (by kernel_rfl) (by simp) (fun i hi => ?_)
      obtain rfl : i = 13 := by simpa using hi
      refine op_enter (f := 36) (args := #[.pointer (some ⟨X, 10, none⟩)]) (w' := Y) rfl (by kernel_rfl) (by kernel_rfl) ?_
      refine (level_any X so' s.sk.length sc _ ((HMY.out.blk.cell 11).trans ((workCells_starts _ _ _ _ hd8).trans (by rw [Hst.out])))).mono ?_
      rintro e w' ⟨rfl, hw'⟩
      rw [hw']
      refine ⟨_, rfl, HMY.out, ?_⟩
      refine wpAnyH_all (rs := [15]) (by kernel_rfl) (by simp) (fun i hi => ?_)
      obtain rfl : i = 15 := by simpa using hi
      refine op_enter (f := 37) (args := #[.pointer (some ⟨X, 0, none⟩)]) (w' := Y) rfl (by kernel_rfl) (by kernel_rfl) ?_
      refine (dead_any X _ s.d _ s.l _ HMY.out.blk hd8).mono ?_
      rw [Hdead.out]
      rintro e w' ⟨rfl, hw'⟩
      rw [hw']
      refine ⟨_, rfl, HMY.out, ?_⟩
      refine wpAnyH_take (i := 16) (v := .agg #[.int .i64 (zs.length : Int), .int .i64 (s.ts.length : Int), .int .i64 (s.sk.length : Int), .bool dead, .int .i64 0, .int .i64 0]) rfl (by kernel_rfl) (by kernel_rfl) (by kernel_rfl) (fun _ _ _ h => h) (.inl ⟨by kernel_rfl, fun w'' hS => by kernel_rfl⟩) HMY.out ?_
      refine wpAnyH_all (rs := [18]) (by kernel_rfl) (by simp) (fun i hi => ?_)
      obtain rfl : i = 18 := by simpa using hi
      refine op_skip (w' := _) rfl (by kernel_rfl) ?_ ⟨HM8.out, wpAnyH_done (by kernel_rfl) ?_ _⟩
      · clear hK0 hcb
        simp only [Act.put, List.setIfInBounds_toArray, List.set_cons_zero, List.set_cons_succ, List.getElem_toArray, List.getElem_cons_zero, List.getElem_cons_succ]
        go_simp
      simp only [Act.put, List.setIfInBounds_toArray, List.set_cons_zero, List.set_cons_succ, List.getElem_toArray, List.getElem_cons_zero, List.getElem_cons_succ]
      go_wp2_with fail
      go_meet
      case rel => exact ⟨W.heap.size, rfl, HB8.out, HF8.out, by have := HbR.out.lt; omega⟩
  case rest =>
    obtain ⟨L, rfl, HB, HF, hL⟩ := hcut
    have hMc := HM.out.nw HF.out
    obtain ⟨c0, c1, c2, c3, c4, c5, c6, c7⟩ := work8 hMc.blk Hdv.out
    have HMc := hd hMc
    have HRc := hd (HbR.out.nw HF.out)
    clear hMc hcb
    go_wp2_with fail
    rw [← Hdv.out]
    have hL0 : w.heap.size ≠ L := by omega
    clear c0 c1 c2 c3 c4 c5 c6 c7
    go_loopw [32] (fun i wr => ∃ k : Nat, k ≤ 8 ∧ i = .int .i64 k ∧ Hid (Blk wr L #[.int .i64 (zs.length : Int), .int .i64 (s.ts.length : Int), .int .i64 (s.sk.length : Int), .bool dead, .int .i64 (leftTo s.d k : Int), .int .i64 (fixTo s.d k : Int)] 40) ∧ Hid (Fr (fun k => k = L) wc wr)) (fun i _ => 8 - (intOf i).toNat)
    case atStart => exact ⟨0, by omega, rfl, HB.out, Fr.refl _ _⟩
    case round =>
      obtain ⟨k, hk, rfl, HBk, HFk⟩ := hrel
      by_cases hk8 : k < 8
      · have hx64 := HH.out.good.dm.lt k
        have hget := fun W => index8 s.d hd8 k hk8 W
        have hl1 := leftTo_le s.d k
        have hl2 := fixTo_le s.d k
        have hls := leftTo_succ s.d k
        have hfs := fixTo_succ s.d k
        have hp8 := pop_le8 (s.d.getD k 0)
        obtain ⟨x, hx⟩ : ∃ x, s.d.getD k 0 = x := ⟨_, rfl⟩
        rw [hx] at hx64 hget hls hfs hp8
        obtain ⟨lf, hlf⟩ : ∃ lf, leftTo s.d k = lf := ⟨_, rfl⟩
        obtain ⟨fx, hfx⟩ : ∃ fx, fixTo s.d k = fx := ⟨_, rfl⟩
        rw [hlf] at hl1 hls
        rw [hfx] at hl2 hfs
        have hb1 := HBk.out
        rw [hlf, hfx] at hb1
        have hc4 : wr.cell? ⟨L, 4, none⟩ = some (.int .i64 (lf : Int)) := hb1.cell 4
        have hfz := hb1.free
        have HB1 := hd hb1
        have Hls := hd hls
        have Hfs := hd hfs
        have Hx := hd hx
        clear hb1 hls hfs hx hlf hfx HBk
        obtain ⟨pn, hpn⟩ : ∃ pn, pop x = pn := ⟨_, rfl⟩
        have Hpn := hd hpn
        rw [hpn] at hp8
        clear hpn
        go_upto_region 7 with fail
        go_still_tail 6, (by kernel_rfl)
        refine still_call (f := 38) (args := #[.int .u8 (x : Int)]) (.int .i64 (pn : Int)) (by kernel_rfl) (by kernel_rfl) (by have := len_any x wr.drew (by omega); rw [Hpn.out] at this; exact this) ?_
        simp only [Act.put, List.setIfInBounds_toArray, List.set_cons_zero, List.set_cons_succ]
        repeat still_step
        refine wpStill_nil ?_
        rw [show ({ heap := wr.heap, tape := wr.tape, drawn := wr.drawn + 1, os := wr.os, output := wr.output } : World) = wr.drew from rfl]
        have hc5 : wr.cell? ⟨L, 5, none⟩ = some (.int .i64 (fx : Int)) := HB1.out.cell 5
        have hlast : Hid (leftTo s.d (k + 1) = lf + pn) := by show _ = _; rw [Hls.out, Hpn.out]
        clear hget
        by_cases h1 : pn = 1
        · have hfl : Hid (fixTo s.d (k + 1) = fx + 1) := by show _ = _; rw [Hfs.out, Hpn.out, if_pos h1]
          subst h1
          go_wp2_with (go_at_call 38; refine (len_any x _ (by omega)).mono ?_; rw [Hpn.out]; rintro e w' ⟨rfl, rfl⟩)
          refine ⟨⟨k + 1, by omega, by go_num, ?_, ?_⟩, by simp [intOf]; omega⟩
          · show Blk _ L _ _
            rw [hlast.out, hfl.out]
            exact (HB1.out.set 4 (.int .i64 ((lf : Int) + 1))).set 5 (.int .i64 ((fx : Int) + 1))
          · exact ((HFk.out.setCell ⟨L, 4, none⟩ (.int .i64 ((lf : Int) + 1)) (.inl rfl)).setCell ⟨L, 5, none⟩ (.int .i64 ((fx : Int) + 1)) (.inl rfl)).drew
        · have hfl : Hid (fixTo s.d (k + 1) = fx) := by show _ = _; rw [Hfs.out, Hpn.out, if_neg h1]; rfl
          have h1' : ((pn : Int) == 1) = false := by simp; omega
          go_wp2_with (go_at_call 38; refine (len_any x _ (by omega)).mono ?_; rw [Hpn.out]; rintro e w' ⟨rfl, rfl⟩)
          refine ⟨⟨k + 1, by omega, by go_num, ?_, ?_⟩, by simp [intOf]; omega⟩
          · show Blk _ L _ _
            rw [hlast.out, hfl.out]
            exact HB1.out.set 4 (.int .i64 ((lf : Int) + (pn : Int)))
          · exact (HFk.out.setCell ⟨L, 4, none⟩ (.int .i64 ((lf : Int) + (pn : Int))) (.inl rfl)).drew
      · obtain rfl : k = 8 := by omega
        obtain ⟨lf, hlf⟩ : ∃ lf, leftTo s.d 8 = lf := ⟨_, rfl⟩
        obtain ⟨fx, hfx⟩ : ∃ fx, fixTo s.d 8 = fx := ⟨_, rfl⟩
        have hb1 := HBk.out
        rw [hlf, hfx] at hb1
        have k0 : wr.cell? ⟨L, 0, none⟩ = some (.int .i64 (zs.length : Int)) := hb1.cell 0
        have k1 : wr.cell? ⟨L, 1, none⟩ = some (.int .i64 (s.ts.length : Int)) := hb1.cell 1
        have k2 : wr.cell? ⟨L, 2, none⟩ = some (.int .i64 (s.sk.length : Int)) := hb1.cell 2
        have k3 : wr.cell? ⟨L, 3, none⟩ = some (.bool dead) := hb1.cell 3
        have k4 : wr.cell? ⟨L, 4, none⟩ = some (.int .i64 (lf : Int)) := hb1.cell 4
        have k5 : wr.cell? ⟨L, 5, none⟩ = some (.int .i64 (fx : Int)) := hb1.cell 5
        have hR := HRc.out.fr HFk.out hL0
        have r0 : wr.cell? ⟨w.heap.size, 0, none⟩ = some (.int .i64 0) := hR.cell 0
        have r1 : wr.cell? ⟨w.heap.size, 1, none⟩ = some (.int .i64 0) := hR.cell 1
        have r2 : wr.cell? ⟨w.heap.size, 2, none⟩ = some (.int .i64 0) := hR.cell 2
        have r3 : wr.cell? ⟨w.heap.size, 3, none⟩ = some (.bool false) := hR.cell 3
        have r4 : wr.cell? ⟨w.heap.size, 4, none⟩ = some (.int .i64 0) := hR.cell 4
        have r5 : wr.cell? ⟨w.heap.size, 5, none⟩ = some (.int .i64 0) := hR.cell 5
        have hfR := hR.free
        have HR := hd hR
        have Hlf := hd hlf
        have Hfx := hd hfx
        clear hb1 hR hlf hfx
        go_wp2
        have hFW : Nw w wr := (HfW.out.trans HF.out (fun i h => h.elim)).trans HFk.out (fun i hi => .inr (by show w.heap.size ≤ i; have e : i = L := hi; omega))
        have hB := ((((((HR.out.set 0 (.int .i64 (zs.length : Int))).set 1 (.int .i64 (s.ts.length : Int))).set 2 (.int .i64 (s.sk.length : Int))).set 3 (.bool dead)).set 4 (.int .i64 (lf : Int))).set 5 (.int .i64 (fx : Int)))
        have z0 := hB.cell 0
        have z1 := hB.cell 1
        have z2 := hB.cell 2
        have z3 := hB.cell 3
        have z4 := hB.cell 4
        have z5 := hB.cell 5
        refine bodyPost_ret (v := .agg (lookV zs s)) ?_ rfl ⟨rfl, (((((hFW.setCell _ _ (.inr (Nat.le_refl _))).setCell _ _ (.inr (Nat.le_refl _))).setCell _ _ (.inr (Nat.le_refl _))).setCell _ _ (.inr (Nat.le_refl _))).setCell _ _ (.inr (Nat.le_refl _))).setCell _ _ (.inr (Nat.le_refl _))⟩
        simp only [lookV, Hdead.out, Hlf.out, Hfx.out]
        simp [results, Try.results17, go_sem, z0, z1, z2, z3, z4, z5, lookZ]
end Go.Proofs.Ytkjfpdfkcfgfkaa

/- The closure of fixed tables, reckoned out. -/
namespace Go.Proofs.Ytkjfpdfkcfgfkaa

def coversB (r : List Int) (l : List Nat) : Bool := (List.range l.length).all (fun i => bearsB (r.getD i 0) (l.getD i 0))
theorem coversB_iff (r : List Int) (l : List Nat) : coversB r l = true ↔ Covers r l := by
  simp only [coversB, List.all_eq_true, List.mem_range, Covers]
def allowB (rows : List (List Int)) (nt : Bool) (l : List Nat) : Bool := if nt then rows.all (fun r => !coversB r l) else rows.any (fun r => coversB r l)
theorem getD_rows {rows : List (List Int)} {j : Nat} (hj : j < rows.length) : rows.getD j [] ∈ rows := by
  have e : rows.getD j [] = rows[j] := by simp [List.getD, hj]
  rw [e]
  exact List.getElem_mem hj
theorem mem_rows {rows : List (List Int)} {r : List Int} (h : r ∈ rows) : ∃ j, j < rows.length ∧ rows.getD j [] = r := by
  obtain ⟨j, hj, e⟩ := List.getElem_of_mem h
  exact ⟨j, hj, by simp [List.getD, hj, e]⟩
theorem allowB_iff (rows : List (List Int)) (nt : Bool) (l : List Nat) : allowB rows nt l = true ↔ Allow rows nt l := by
  unfold allowB Allow
  cases nt with
  | true =>
    simp only [if_true, List.all_eq_true, Bool.not_eq_true']
    constructor
    · intro h j hj hc
      have := h _ (getD_rows hj)
      rw [(coversB_iff _ _).2 hc] at this
      cases this
    · intro h r hr
      obtain ⟨j, hj, rfl⟩ := mem_rows hr
      cases hx : coversB (rows.getD j []) l with
      | false => rfl
      | true => exact absurd ((coversB_iff _ _).1 hx) (h j hj)
  | false =>
    simp only [Bool.false_eq_true, if_false, List.any_eq_true]
    constructor
    · rintro ⟨r, hr, hc⟩
      obtain ⟨j, hj, rfl⟩ := mem_rows hr
      exact ⟨j, hj, (coversB_iff _ _).1 hc⟩
    · rintro ⟨j, hj, hc⟩
      exact ⟨_, getD_rows hj, (coversB_iff _ _).2 hc⟩
/-- All lists out of domains. -/
def outs : List Int → List Nat → List (List Nat)
  | [], _ => [[]]
  | v :: vs, d => (vals (d.getD v.toNat 0)).flatMap (fun x => (outs vs d).map (x :: ·))
theorem outs_iff {d : List Nat} (hd : ∀ q, d.getD q 0 < 64) : ∀ (vars : List Int) (l : List Nat), l ∈ outs vars d ↔ OutOf vars d l
  | [], l => by
    simp only [outs, List.mem_singleton, OutOf]
    constructor
    · rintro rfl
      exact ⟨rfl, fun i hi => by simp at hi⟩
    · rintro ⟨h, _⟩
      exact List.eq_nil_of_length_eq_zero h
  | v :: vs, l => by
    simp only [outs, List.mem_flatMap, List.mem_map]
    constructor
    · rintro ⟨x, hx, t, ht, rfl⟩
      obtain ⟨h1, h2⟩ := (outs_iff hd vs t).1 ht
      refine ⟨by simp [h1], fun i hi => ?_⟩
      cases i with
      | zero => exact (vals_mem (hd _)).1 hx
      | succ i => exact h2 i (by simpa using hi)
    · rintro ⟨h1, h2⟩
      cases l with
      | nil => simp at h1
      | cons x t =>
        refine ⟨x, (vals_mem (hd _)).2 (h2 0 (by simp)), t, (outs_iff hd vs t).2 ⟨by simpa using h1, fun i hi => h2 (i + 1) (by simpa using hi)⟩, rfl⟩
def supB (b : Tb) (d : List Nat) (i v : Nat) : Bool := (outs b.vars d).any (fun l => (l.getD i 0 == v) && allowB b.rows b.nt l)
theorem supB_iff {d : List Nat} (hd : ∀ q, d.getD q 0 < 64) (b : Tb) (i v : Nat) : supB b d i v = true ↔ Supp b.vars b.rows b.nt d i v := by
  simp only [supB, List.any_eq_true, Bool.and_eq_true, beq_iff_eq, Supp]
  constructor
  · rintro ⟨l, h1, h2, h3⟩
    exact ⟨l, (outs_iff hd _ _).1 h1, h2, (allowB_iff _ _ _).1 h3⟩
  · rintro ⟨l, h1, h2, h3⟩
    exact ⟨l, (outs_iff hd _ _).2 h1, h2, (allowB_iff _ _ _).2 h3⟩
def suppAllB (b : Tb) (d : List Nat) : Bool := (List.range b.vars.length).all (fun i => (vals (d.getD (b.vars.getD i 0).toNat 0)).all (fun v => supB b d i v))
theorem suppAllB_of {d : List Nat} (hd : ∀ q, d.getD q 0 < 64) {b : Tb} (h : suppAllB b d = true) : SuppAll b d := by
  intro i v hi hv
  simp only [suppAllB, List.all_eq_true, List.mem_range] at h
  exact (supB_iff hd b i v).1 (h i hi v ((vals_mem (hd _)).2 hv))
/-- A number of these bits. -/
def maskOf (p : Nat → Bool) : Nat := (if p 0 then 1 else 0) + (if p 1 then 2 else 0) + (if p 2 then 4 else 0) + (if p 3 then 8 else 0) + (if p 4 then 16 else 0) + (if p 5 then 32 else 0)
theorem maskOf_bit (p : Nat → Bool) (v : Nat) (hv : v < 6) : (maskOf p).testBit v = p v := by
  have hc : v = 0 ∨ v = 1 ∨ v = 2 ∨ v = 3 ∨ v = 4 ∨ v = 5 := by omega
  unfold maskOf
  rcases hc with rfl | rfl | rfl | rfl | rfl | rfl <;> cases p 0 <;> cases p 1 <;> cases p 2 <;> cases p 3 <;> cases p 4 <;> cases p 5 <;> rfl
theorem maskOf_lt (p : Nat → Bool) : maskOf p < 64 := by
  unfold maskOf
  cases p 0 <;> cases p 1 <;> cases p 2 <;> cases p 3 <;> cases p 4 <;> cases p 5 <;> decide
/-- What one table leaves. -/
def stepD (b : Tb) (d : List Nat) : List Nat := (List.range 8).map (fun q => maskOf (fun v => (d.getD q 0).testBit v && (List.range b.vars.length).all (fun i => (b.vars.getD i 0).toNat != q || supB b d i v)))
theorem stepD_get (b : Tb) (d : List Nat) (q : Nat) : (stepD b d).getD q 0 = if q < 8 then maskOf (fun v => (d.getD q 0).testBit v && (List.range b.vars.length).all (fun i => (b.vars.getD i 0).toNat != q || supB b d i v)) else 0 := by
  by_cases h : q < 8
  · rw [if_pos h]
    simp only [stepD, List.getD, List.getElem?_map, List.getElem?_range h, Option.map_some, Option.getD_some]
  · rw [if_neg h]
    have : (stepD b d).length ≤ q := by simp [stepD]; omega
    simp [List.getD, List.getElem?_eq_none this]
theorem stepD_dm (b : Tb) (d : List Nat) : Dm (stepD b d) := ⟨by simp [stepD], fun q => by
  rw [stepD_get]
  split
  · exact maskOf_lt _
  · decide⟩
theorem stepD_sub (b : Tb) (d : List Nat) : SubD (stepD b d) d := by
  intro q v h
  have hv := bit_lt6 ((stepD_dm b d).lt q) h
  rw [stepD_get] at h
  by_cases hq : q < 8
  · rw [if_pos hq, maskOf_bit _ _ hv] at h
    simp only [Bool.and_eq_true] at h
    exact h.1
  · rw [if_neg hq] at h
    simp at h
theorem stepD_most {b : Tb} {d e : List Nat} (hd : Dm d) (hs : SubD e d) (hb : SuppAll b e) : SubD e (stepD b d) := by
  intro q v h
  have h1 := hs q v h
  have hv := bit_lt6 (hd.lt q) h1
  have hq : q < 8 := by
    refine Classical.byContradiction fun hc => ?_
    have : d.length ≤ q := by rw [hd.len]; omega
    have h0 : d.getD q 0 = 0 := by simp [List.getD, List.getElem?_eq_none this]
    rw [h0] at h1
    simp at h1
  rw [stepD_get, if_pos hq, maskOf_bit _ _ hv]
  simp only [Bool.and_eq_true, List.all_eq_true, List.mem_range]
  refine ⟨h1, fun i hi => ?_⟩
  by_cases e1 : (b.vars.getD i 0).toNat = q
  · subst e1
    have := (hb i v hi h).mono hs
    rw [(supB_iff hd.lt b i v).2 this]
    simp
  · rw [show ((b.vars.getD i 0).toNat != q) = true from bne_iff_ne.2 e1]
    rfl
def passD (bs : List Tb) (d : List Nat) : List Nat := bs.foldl (fun d b => stepD b d) d
def cloTo (bs : List Tb) : Nat → List Nat → List Nat
  | 0, d => d
  | k + 1, d => cloTo bs k (passD bs d)
theorem passD_spec : ∀ (bs : List Tb) (d : List Nat), Dm d → Dm (passD bs d) ∧ SubD (passD bs d) d ∧ ∀ e, SubD e d → (∀ b ∈ bs, SuppAll b e) → SubD e (passD bs d)
  | [], d, h => ⟨h, SubD.refl _, fun _ h _ => h⟩
  | b :: bs, d, h => by
    obtain ⟨h1, h2, h3⟩ := passD_spec bs (stepD b d) (stepD_dm b d)
    exact ⟨h1, h2.trans (stepD_sub b d), fun e he hb => h3 e (stepD_most h he (hb b (List.mem_cons_self ..))) (fun c hc => hb c (List.mem_cons_of_mem _ hc))⟩
theorem cloTo_spec (bs : List Tb) : ∀ (k : Nat) (d : List Nat), Dm d → Dm (cloTo bs k d) ∧ SubD (cloTo bs k d) d ∧ ∀ e, SubD e d → (∀ b ∈ bs, SuppAll b e) → SubD e (cloTo bs k d)
  | 0, d, h => ⟨h, SubD.refl _, fun _ h _ => h⟩
  | k + 1, d, h => by
    obtain ⟨h1, h2, h3⟩ := passD_spec bs d h
    obtain ⟨k1, k2, k3⟩ := cloTo_spec bs k (passD bs d) h1
    exact ⟨k1, k2.trans h2, fun e he hb => k3 e (h3 e he hb) hb⟩
def fullB (n : Nat) (d : List Nat) : Bool := (List.range n).all (fun q => d.getD q 0 != 0)
theorem fullB_iff (n : Nat) (d : List Nat) : fullB n d = true ↔ Full n d := by
  simp [fullB, Full]
def dmB (d : List Nat) : Bool := d.length == 8 && d.all (fun x => decide (x < 64))
theorem dmB_of {d : List Nat} (h : dmB d = true) : Dm d := by
  simp only [dmB, Bool.and_eq_true, beq_iff_eq, List.all_eq_true, decide_eq_true_eq] at h
  refine ⟨h.1, fun q => ?_⟩
  by_cases hq : q < d.length
  · have := h.2 _ (List.getElem_mem hq)
    simpa [List.getD, hq] using this
  · simp [List.getD, hq]
/-- The closure, where it is not emptied. -/
theorem clo_live {n k : Nat} {bs : List Tb} {start r : List Nat} (hs : dmB start = true) (h : cloTo bs k start = r) (hf : fullB n r = true) (hb : bs.all (fun b => suppAllB b r) = true) : Closure n bs start r := by
  obtain ⟨h1, h2, h3⟩ := cloTo_spec bs k start (dmB_of hs)
  rw [h] at h1 h2 h3
  simp only [List.all_eq_true] at hb
  exact ⟨fun _ => ⟨h2, fun b hb' => suppAllB_of h1.lt (hb b hb'), h3⟩, fun hn => absurd ((fullB_iff n r).1 hf) hn⟩
/-- Where it is. -/
theorem clo_dead {n k : Nat} {bs : List Tb} {start : List Nat} (hn : 0 < n) (hs : dmB start = true) (hf : fullB n (cloTo bs k start) = false) : Closure n bs start zero8 := by
  obtain ⟨h1, h2, h3⟩ := cloTo_spec bs k start (dmB_of hs)
  refine ⟨fun hc => absurd (zero8_get 0) (hc 0 hn), fun _ => ⟨rfl, fun d hd hb hd2 => ?_⟩⟩
  have h4 := h3 d hd hb
  have h5 : Full n (cloTo bs k start) := fun q hq e => by
    obtain ⟨v, hv⟩ := ne_zero_bit (hd2 q hq)
    have := h4 q v hv
    rw [e] at this
    simp at this
  rw [(fullB_iff _ _).2 h5] at hf
  cases hf
end Go.Proofs.Ytkjfpdfkcfgfkaa

/- A new Work; what a call leaves alone. -/
namespace Go.Proofs.Ytkjfpdfkcfgfkaa
open Go.RowKit

def ws0 (zs : List Int) (szv : Value) : WS := ⟨szv, fullTo zs zs.length, none, 0, rest0, [], [], [], []⟩
theorem fullTo_get (zs : List Int) (_ : zs.length ≤ 8) (q : Nat) : (fullTo zs zs.length).getD q 0 = if q < zs.length then 2 ^ (zs.getD q 0).toNat - 1 else 0 := by
  simp only [fullTo, List.take_length]
  by_cases h : q < zs.length
  · rw [if_pos h]
    simp [List.getD, List.getElem?_append_left, h]
  · rw [if_neg h]
    simp only [List.getD]
    rw [List.getElem?_append_right (by simp; omega)]
    simp only [List.getElem?_replicate]
    split <;> rfl
theorem full_dm {zs : List Int} (h : okSizes zs = true) : Dm (fullTo zs zs.length) := by
  obtain ⟨h0, h8⟩ := okSizes_len h
  refine ⟨fullTo_length zs _ (Nat.le_refl _) h8, fun q => ?_⟩
  rw [fullTo_get zs h8]
  split
  · rename_i hq
    have := okSizes_get h q hq
    have hp : 2 ^ (zs.getD q 0).toNat ≤ 2 ^ 6 := Nat.pow_le_pow_right (by omega) (by omega)
    omega
  · omega
theorem full_full {zs : List Int} (h : okSizes zs = true) : Full zs.length (fullTo zs zs.length) := by
  obtain ⟨h0, h8⟩ := okSizes_len h
  intro q hq
  rw [fullTo_get zs h8, if_pos hq]
  have := okSizes_get h q hq
  have hp : 2 ^ 1 ≤ 2 ^ (zs.getD q 0).toNat := Nat.pow_le_pow_right (by omega) (by omega)
  omega
theorem new_wat {w : World} {X : Nat} {zs : List Int} {szv : Value} (hok : okSizes zs = true) (hB : Blk w X (workCells szv (fullTo zs zs.length) (.slice none 0 0) rest0) 82) (hr : Row w szv 3 (zs.map (Value.int .i64))) : WAt w X zs (ws0 zs szv) := by
  have hi : ∀ {p : Prop} {i : Nat}, i < ([] : List Tab).length → p := fun h => absurd h (Nat.not_lt_zero _)
  refine ⟨⟨hB, hr, hok, ⟨Row.nil _ _, fun i h => hi h, fun i h => hi h, fun i h => hi h⟩, fun i j h => hi h, Nat.zero_le _, ⟨rfl, fun k h => absurd h (Nat.not_lt_zero _)⟩, fun k h => absurd h (Nat.not_lt_zero _), ⟨Row.nil _ _, Row.nil _ _⟩, fun u hu => (by cases hu), fun k hk => (by cases hk)⟩,
    ⟨full_dm hok, SubD.refl _, .inr (full_full hok), fun b hb => (by cases hb), rfl, fun k h => absurd h (Nat.not_lt_zero _)⟩, ?_, rfl, Nat.zero_le _⟩
  show 0 + 900 * bitsOf (fullTo zs zs.length) ≤ 57600
  have := bits_max (fullTo zs zs.length)
  omega
theorem ws0_own {X k : Nat} {zs : List Int} {szv : Value} (h : (ws0 zs szv).own X k) : k = X ∨ szv.ownBlock = some k := by
  rcases h with h | h | h | ⟨i, hi, _⟩ | h | h | ⟨u, hu, _⟩
  · exact .inl h
  · exact .inr h
  · cases h
  · exact absurd hi (Nat.not_lt_zero _)
  · cases h
  · cases h
  · cases hu
/-- A block that is no Work's own stays as it is. -/
theorem WStep.blk {w w' : World} {X : Nat} {s s' : WS} (h : WStep w w' X s s') {g : Nat} {cur : Array Value} {e : TypeId} (hb : Blk w g cur e) (hn : ¬ s.own X g) : Blk w' g cur e ∧ ¬ s'.own X g :=
  ⟨hb.fr h.fr hn, fun hs => (h.grow g hs).elim hn (fun h' => absurd hb.lt (by omega))⟩
/-- Seen from a world in which nothing of the Work was there. -/
def Since (w0 : World) (X : Nat) (s : WS) : Prop := ∀ k, s.own X k → w0.heap.size ≤ k
theorem WStep.since {w0 w w' : World} {X : Nat} {s s' : WS} (h : WStep w w' X s s') (hs : Since w0 X s) (hf : Nw w0 w) : Since w0 X s' ∧ Nw w0 w' :=
  ⟨fun k hk => (h.grow k hk).elim (hs k) (fun h' => Nat.le_trans hf.size h'), hf.trans h.fr (fun i hi => .inr (hs i hi))⟩
end Go.Proofs.Ytkjfpdfkcfgfkaa

/- The answer of the statements' first line: New, Post, Domain, Remove, Domain at fixed numbers, in every world. -/
namespace Go.Proofs.Ytkjfpdfkcfgfkaa
open Go.RowKit

def rows0 : List (List Int) := [[0, 1], [1, 2]]
theorem n_br : brTo rows0 2 = brTo rows0 rows0.length := rfl
theorem n_dom1 : nDom (brTo rows0 rows0.length) (2 ^ rows0.length - 1) [0, 1] [7, 7, 0, 0, 0, 0, 0, 0] = [3, 6, 0, 0, 0, 0, 0, 0] := by decide
theorem n_live1 : nLive (brTo rows0 rows0.length) (2 ^ rows0.length - 1) [0, 1] [7, 7, 0, 0, 0, 0, 0, 0] = 3 := by decide
theorem n_dom2 : nDom (brTo rows0 rows0.length) 3 [0, 1] [3, 2, 0, 0, 0, 0, 0, 0] = [1, 2, 0, 0, 0, 0, 0, 0] := by decide
theorem n_full : fullTo [3, 3] [(3 : Int), 3].length = [7, 7, 0, 0, 0, 0, 0, 0] := by decide
theorem lt64_get (d : List Nat) (h : ∀ x ∈ d, x < 64) (q : Nat) : d.getD q 0 < 64 := by
  by_cases hq : q < d.length
  · have := h _ (List.getElem_mem hq)
    simpa [List.getD, hq] using this
  · simp [List.getD, hq]

set_option maxHeartbeats 3200000 in
set_option maxRecDepth 1000000 in
theorem first_ok : FirstOk := by
  intro w
  go_enter Try.func9, Try.ntmps9
  go_wp2_with fail
  have hb0 : Blk (w.alloc (.cells #[.int .i64 3, .int .i64 3] 3)) w.heap.size #[.int .i64 3, .int .i64 3] 3 := Blk.new _ _ _
  have hf0 : Nw w (w.alloc (.cells #[.int .i64 3, .int .i64 3] 3)) := (Fr.refl _ w).alloc _
  refine (new_any w.heap.size 0 2 [3, 3] _ (by decide) (by decide) (IntsAt.of_blk hb0 0 _ (fun i hi => by
    match i, hi with
    | 0, _ => rfl
    | 1, _ => rfl))).mono ?_
  rintro e w1 ⟨hf1, hcase⟩
  rcases hcase with ⟨_, X, szv, rfl, hX1, hs1, hXl, hsl⟩ | ⟨hno, _⟩
  · rw [n_full] at hX1
    have HX1 := hd hX1
    have Hs1 := hd hs1
    have Hf1 : Hid (Nw w w1) := hf0.trans hf1 (fun i h => h.elim)
    simp at hXl hsl
    have hXw : w.heap.size < X := by omega
    have Hsl := hd hsl
    clear hb0 hf0 hf1 hX1 hs1 hsl hXl
    go_wp2_with fail
    obtain ⟨V, hV⟩ : ∃ V, V = (((w1.alloc (.cells #[.int .i64 0, .int .i64 1] 3)).alloc (.cells #[.int .i64 0, .int .i64 1] 3)).alloc (.cells #[.int .i64 1, .int .i64 2] 3)).alloc (.cells #[.slice (some ⟨w1.heap.size + 1, 0, none⟩) 2 2, .slice (some ⟨w1.heap.size + 1 + 1, 0, none⟩) 2 2] 22) := ⟨_, rfl⟩
    have hfV : Nw w1 V := by rw [hV]; exact ((((Fr.refl _ w1).alloc _).alloc _).alloc _).alloc _
    have k0 : Blk V w1.heap.size #[.int .i64 0, .int .i64 1] 3 := by rw [hV]; exact (((Blk.new _ _ _).alloc _).alloc _).alloc _
    have k1 : Blk V (w1.heap.size + 1) #[.int .i64 0, .int .i64 1] 3 := by
      rw [hV]
      have := ((Blk.new (w1.alloc (.cells #[.int .i64 0, .int .i64 1] 3)) #[.int .i64 0, .int .i64 1] 3).alloc (.cells #[.int .i64 1, .int .i64 2] 3)).alloc (.cells #[.slice (some ⟨w1.heap.size + 1, 0, none⟩) 2 2, .slice (some ⟨w1.heap.size + 1 + 1, 0, none⟩) 2 2] 22)
      simpa using this
    have k2 : Blk V (w1.heap.size + 1 + 1) #[.int .i64 1, .int .i64 2] 3 := by
      rw [hV]
      have := (Blk.new ((w1.alloc (.cells #[.int .i64 0, .int .i64 1] 3)).alloc (.cells #[.int .i64 0, .int .i64 1] 3)) #[.int .i64 1, .int .i64 2] 3).alloc (.cells #[.slice (some ⟨w1.heap.size + 1, 0, none⟩) 2 2, .slice (some ⟨w1.heap.size + 1 + 1, 0, none⟩) 2 2] 22)
      simpa using this
    have k3 : Blk V (w1.heap.size + 1 + 1 + 1) #[.slice (some ⟨w1.heap.size + 1, 0, none⟩) 2 2, .slice (some ⟨w1.heap.size + 1 + 1, 0, none⟩) 2 2] 22 := by
      rw [hV]
      have := Blk.new (((w1.alloc (.cells #[.int .i64 0, .int .i64 1] 3)).alloc (.cells #[.int .i64 0, .int .i64 1] 3)).alloc (.cells #[.int .i64 1, .int .i64 2] 3)) #[.slice (some ⟨w1.heap.size + 1, 0, none⟩) 2 2, .slice (some ⟨w1.heap.size + 1 + 1, 0, none⟩) 2 2] 22
      simpa using this
    rw [← hV]
    have hvs : IntsAt V (some ⟨w1.heap.size, 0, none⟩) [0, 1] := IntsAt.of_blk k0 0 _ (fun i hi => by
      match i, hi with
      | 0, _ => rfl
      | 1, _ => rfl)
    have hr1 : IntsAt V (some ⟨w1.heap.size + 1, 0, none⟩) [0, 1] := IntsAt.of_blk k1 0 _ (fun i hi => by
      match i, hi with
      | 0, _ => rfl
      | 1, _ => rfl)
    have hr2 : IntsAt V (some ⟨w1.heap.size + 1 + 1, 0, none⟩) [1, 2] := IntsAt.of_blk k2 0 _ (fun i hi => by
      match i, hi with
      | 0, _ => rfl
      | 1, _ => rfl)
    have hrs : RowsAt V (some ⟨w1.heap.size + 1 + 1 + 1, 0, none⟩) rows0 := fun i hi => by
      match i, hi with
      | 0, _ => exact ⟨_, 0, _, 2, rfl, k3.lt, k3.cell 0, hr1⟩
      | 1, _ => exact ⟨_, 0, _, 2, rfl, k3.lt, k3.cell 1, hr2⟩
    refine (post_one X w1.heap.size 0 (some ⟨w1.heap.size + 1 + 1 + 1, 0, none⟩) 2 2 szv [3, 3] [7, 7, 0, 0, 0, 0, 0, 0] rest0 none 0 [0, 1] rows0 V (HX1.out.nw hfV) (Hs1.out.nw hfV) (by decide) rfl rfl (by decide) rfl rfl (by decide) hvs hrs (by decide) (by decide) (by decide) (by decide) (by decide)
      (by decide) (lt64_get _ (by decide)) (by rw [n_dom1]; rintro _ rfl; decide) (by decide) (by rw [n_dom1]; decide)).mono ?_
    rw [n_dom1, n_live1]
    rintro e w2 ⟨rfl, tb, tcap, G, g, cap, hGl, hf2, hX2, ht2, hG2, hv2⟩
    have hF2 : Nw w w2 := (Hf1.out.trans hfV (fun i h => h.elim)).trans hf2 (fun i h => .inr (by omega))
    have hsX2 : ∀ k, szv.ownBlock = some k → k ≠ X := fun k hk e => by subst e; exact Hs1.out.ne HX1.out (by decide) hk
    have hs2 := (Hs1.out.nw hfV).fr hf2 (fun k hk e => hsX2 k hk e)
    have hGw : w.heap.size < w2.heap.size := by have := hX2.lt; omega
    have HX2 := hd hX2
    have Ht2 := hd ht2
    have HG2 := hd hG2
    have Hv2 := hd hv2
    have Hs2 := hd hs2
    have HF2 := hd hF2
    have HGl : Hid (w.heap.size ≤ G) := by
      have := hfV.size
      have := Hf1.out.size
      show w.heap.size ≤ G
      omega
    clear hV hfV k0 k1 k2 k3 hvs hr1 hr2 hrs hX2 ht2 hG2 hv2 hs2 hF2 hf2 HX1 Hs1 Hf1
    go_wp2_with fail
    refine (domain_ok X szv _ _ rest0 [3, 3] 1 w2 HX2.out Hs2.out (by decide) (by decide) rfl (by decide) rfl).mono ?_
    rw [show vals ([3, 6, 0, 0, 0, 0, 0, 0].getD 1 0) = [1, 2] by decide]
    rintro e w3 ⟨rfl, hf3, hl3⟩
    have HX3 := hd (HX2.out.nw hf3)
    have Ht3 := hd (Ht2.out.nw hf3)
    have HG3 := hd (HG2.out.nw hf3)
    have Hv3 := hd (Hv2.out.nw hf3)
    have Hs3 := hd (Hs2.out.nw hf3)
    have HF3 : Hid (Nw w w3) := HF2.out.trans hf3 (fun i h => h.elim)
    have Hl3 := hd hl3
    have hG3l : w.heap.size ≤ G := HGl.out
    have hG3w : G < w2.heap.size := HG2.out.lt
    have hX3w : X < w2.heap.size := HX2.out.lt
    clear HX2 Ht2 HG2 Hv2 Hs2 HF2 hf3 hl3
    go_wp2_with fail
    refine (remove_one X tb tcap G g cap szv [3, 3] [3, 6, 0, 0, 0, 0, 0, 0] rest0 none 0 (brTo rows0 rows0.length) 3 [0, 1] 1 2 2 w3 HX3.out Hs3.out (by decide) rfl rfl (by decide) Ht3.out HG3.out Hv3.out (by decide) (by decide) (by decide) rfl (by decide) (brTo_length _ _)
      (fun j => Nat.lt_of_lt_of_le (brTo_lt rows0 rows0.length j) (by decide)) (by decide) (by decide) (by decide) (lt64_get _ (by decide)) (by decide) (by rw [show [3, 6, 0, 0, 0, 0, 0, 0].set 1 2 = [3, 2, 0, 0, 0, 0, 0, 0] from rfl, n_dom2]; rintro _ rfl; decide) (by decide) (by rw [show [3, 6, 0, 0, 0, 0, 0, 0].set 1 2 = [3, 2, 0, 0, 0, 0, 0, 0] from rfl, n_dom2]; decide)).mono ?_
    rw [show [3, 6, 0, 0, 0, 0, 0, 0].set 1 2 = [3, 2, 0, 0, 0, 0, 0, 0] from rfl, n_dom2]
    rintro e w4 ⟨rfl, hf4, hX4, _⟩
    have hl4 := Hl3.out.fr hf4 (by omega)
    have hs4 := Hs3.out.fr hf4 (fun k hk e => by
      rcases e with e | e
      · exact hsX2 k hk e
      · subst e; exact Hs3.out.ne HG3.out (by decide) hk)
    have HF4 : Hid (Nw w w4) := HF3.out.trans hf4 (fun i h => .inr (by omega))
    have HX4 := hd hX4
    have Hs4 := hd hs4
    have Hl4 := hd hl4
    clear HX3 Ht3 HG3 Hv3 Hs3 HF3 Hl3 hf4 hX4 hl4 hs4
    go_wp2_with fail
    refine (domain_ok X szv _ _ rest0 [3, 3] 0 w4 HX4.out Hs4.out (by decide) (by decide) rfl (by decide) rfl).mono ?_
    rw [show vals ([1, 2, 0, 0, 0, 0, 0, 0].getD 0 0) = [0] by decide]
    rintro e w5 ⟨rfl, hf5, hl5⟩
    have hF5 : Nw w w5 := HF4.out.trans hf5 (fun i h => h.elim)
    have hl1 := Hl4.out.nw hf5
    have p0 : w5.cell? ⟨w2.heap.size, 0, none⟩ = some (.int .i64 1) := hl1.cell 0
    have p1 : w5.cell? ⟨w2.heap.size, 1, none⟩ = some (.int .i64 2) := hl1.cell 1
    have p2 : w5.cell? ⟨w4.heap.size, 0, none⟩ = some (.int .i64 0) := hl5.cell 0
    have HF5 := hd hF5
    clear hF5 hl1 hl5 hf5 HF4 HX4 Hs4 Hl4
    go_wp2
    go_ret
    exact ⟨rfl, HF5.out⟩
  · exact absurd hno (by decide)
end Go.Proofs.Ytkjfpdfkcfgfkaa

/- The head of the statements without the document's answer: sure. -/
namespace Go.Proofs.Ytkjfpdfkcfgfkaa
open Go.RowKit

def rowsS : List (List Int) := [[0, 0], [1, 1]]
def tbS (a b : Int) : Tb := ⟨[a, b], rowsS, true⟩
def d3 : List Nat := [3, 3, 3, 0, 0, 0, 0, 0]
theorem n_full3 : fullTo [2, 2, 2] [(2 : Int), 2, 2].length = d3 := by decide
theorem clo1 : Closure 3 [tbS 0 1] d3 d3 := clo_live (k := 0) (by decide +kernel) rfl (by decide +kernel) (by decide +kernel)
theorem clo2 : Closure 3 [tbS 0 1, tbS 1 2] d3 d3 := clo_live (k := 0) (by decide +kernel) rfl (by decide +kernel) (by decide +kernel)
theorem clo3 : Closure 3 [tbS 0 1, tbS 1 2, tbS 0 2] d3 d3 := clo_live (k := 0) (by decide +kernel) rfl (by decide +kernel) (by decide +kernel)
theorem clo4 : Closure 3 [tbS 0 1, tbS 1 2, tbS 0 2] [1, 3, 3, 0, 0, 0, 0, 0] zero8 := clo_dead (k := 2) (by decide) (by decide +kernel) (by decide +kernel)
theorem d3_dm : Dm d3 := dmB_of (by decide)
/-- The rows that all three tables share. -/
structure SameAt (w : World) (g : Nat) : Prop where
  k1 : Blk w g #[.int .i64 0, .int .i64 0] 3
  k2 : Blk w (g + 1) #[.int .i64 1, .int .i64 1] 3
  k3 : Blk w (g + 2) #[.slice (some ⟨g, 0, none⟩) 2 2, .slice (some ⟨g + 1, 0, none⟩) 2 2] 22
theorem ints2 {w : World} {g : Nat} {a b : Int} (h : Blk w g #[.int .i64 a, .int .i64 b] 3) : IntsAt w (some ⟨g, 0, none⟩) [a, b] := IntsAt.of_blk h 0 _ (fun i hi => by
  match i, hi with
  | 0, _ => rfl
  | 1, _ => rfl)
theorem SameAt.rows {w : World} {g : Nat} (h : SameAt w g) : RowsAt w (some ⟨g + 2, 0, none⟩) rowsS := fun i hi => by
  match i, hi with
  | 0, _ => exact ⟨_, 0, _, 2, rfl, h.k3.lt, h.k3.cell 0, ints2 h.k1⟩
  | 1, _ => exact ⟨_, 0, _, 2, rfl, h.k3.lt, h.k3.cell 1, ints2 h.k2⟩
theorem SameAt.nw {w w' : World} {g : Nat} (h : SameAt w g) (f : Nw w w') : SameAt w' g := ⟨h.k1.nw f, h.k2.nw f, h.k3.nw f⟩
theorem SameAt.step {w w' : World} {g X : Nat} {s s' : WS} (h : SameAt w g) (k : WStep w w' X s s') (hn : ∀ i, i ≤ 2 → ¬ s.own X (g + i)) : SameAt w' g ∧ ∀ i, i ≤ 2 → ¬ s'.own X (g + i) := by
  obtain ⟨a1, b1⟩ := k.blk h.k1 (hn 0 (by omega))
  obtain ⟨a2, b2⟩ := k.blk h.k2 (hn 1 (by omega))
  obtain ⟨a3, b3⟩ := k.blk h.k3 (hn 2 (by omega))
  refine ⟨⟨a1, a2, a3⟩, fun i hi => ?_⟩
  have hc : i = 0 ∨ i = 1 ∨ i = 2 := by omega
  rcases hc with rfl | rfl | rfl
  · exact b1
  · exact b2
  · exact b3

/-- Post, where the closure is known. -/
theorem post_clo {X : Nat} {vo ro : Option Addr} {vcap rcap : Nat} {zs : List Int} {s : WS} {vars : List Int} {rows : List (List Int)} {nt : Bool} {way : Int} {w : World} (h : WAt w X zs s) (hbz : s.l.busy = false)
    (hvcap : vars.length ≤ vcap) (hvs : IntsAt w vo vars) (hrs : RowsAt w ro rows) (hyes : postOf zs s vars rows way = 0) {r : List Nat} (hr : Dm r) (hc : Closure zs.length (s.bs ++ [⟨vars, rows, nt⟩]) s.d r) :
    Calls Try.prog 31 #[.pointer (some ⟨X, 0, none⟩), .agg #[.slice vo vars.length vcap, .slice ro rows.length rcap, .bool nt, .int .i64 way]] w fun e w' => e = .returned (.int .i64 0) ∧ ∃ s', WAt w' X zs s' ∧ WStep w w' X s s' ∧ s'.d = r ∧ s'.bs = s.bs ++ [⟨vars, rows, nt⟩] ∧ s'.sk = s.sk ∧ s'.l.busy = false ∧ s'.ts.length = s.ts.length + 1 := by
  refine (post_yes X vo ro vcap rcap zs s vars rows nt way w h hbz hvcap hvs hrs hyes).mono ?_
  rintro e w' ⟨rfl, so, tcap, x, d', bv, ts, us, h1, h2, h3, h4⟩
  refine ⟨rfl, _, h3, h4, h1.one h2 hr hc, rfl, rfl, hbz, ?_⟩
  have := h3.mem.fits.1
  have e2 := h.mem.fits.1
  rw [this]
  simp [WS.set, WS.more, e2]
/-- Fix, where the closure is known. -/
theorem fix_clo {X : Nat} {zs : List Int} {s : WS} {v value : Nat} {w : World} (h : WAt w X zs s) (hbz : s.l.busy = false) (hf : faultOf zs s.d v value = 0) {r : List Nat} (hr : Dm r) (hc : Closure zs.length s.bs (s.d.set v (fixV (s.d.getD v 0) value)) r) :
    Calls Try.prog 18 #[.pointer (some ⟨X, 0, none⟩), .int .i64 v, .int .i64 value] w fun e w' => e = .returned (.int .i64 0) ∧ ∃ s', WAt w' X zs s' ∧ WStep w w' X s s' ∧ s'.d = r ∧ s'.bs = s.bs ∧ s'.sk = s.sk ∧ s'.l.busy = false := by
  refine (fix_yes X zs s v value w h hbz hf).mono ?_
  rintro e w' ⟨rfl, d', bv, ts, us, h1, h2, h3, h4⟩
  exact ⟨rfl, _, h3, h4, h1.one h2 hr hc, rfl, rfl, hbz⟩
theorem remove_clo {X : Nat} {zs : List Int} {s : WS} {v value : Nat} {w : World} (h : WAt w X zs s) (hbz : s.l.busy = false) (hf : faultOf zs s.d v value = 0) {r : List Nat} (hr : Dm r) (hc : Closure zs.length s.bs (s.d.set v (remV (s.d.getD v 0) value)) r) :
    Calls Try.prog 19 #[.pointer (some ⟨X, 0, none⟩), .int .i64 v, .int .i64 value] w fun e w' => e = .returned (.int .i64 0) ∧ ∃ s', WAt w' X zs s' ∧ WStep w w' X s s' ∧ s'.d = r ∧ s'.bs = s.bs ∧ s'.sk = s.sk ∧ s'.l.busy = false := by
  refine (remove_yes X zs s v value w h hbz hf).mono ?_
  rintro e w' ⟨rfl, d', bv, ts, us, h1, h2, h3, h4⟩
  exact ⟨rfl, _, h3, h4, h1.one h2 hr hc, rfl, rfl, hbz⟩
theorem push_ws {X : Nat} {zs : List Int} {s : WS} {w : World} (h : WAt w X zs s) (hbz : s.l.busy = false) (h20 : s.sk.length < 20) :
    Calls Try.prog 21 #[.pointer (some ⟨X, 0, none⟩)] w fun e w' => e = .returned (.int .i64 0) ∧ ∃ s', WAt w' X zs s' ∧ WStep w w' X s s' ∧ s'.d = s.d ∧ s'.bs = s.bs ∧ (∃ n ts, s'.sk = (n, s.d, ts) :: s.sk) ∧ s'.l.busy = false := by
  refine (wpush_yes X zs s w h hbz h20).mono ?_
  rintro e w' ⟨rfl, sv, h1, h2⟩
  exact ⟨rfl, _, h1, h2, rfl, rfl, ⟨_, _, rfl⟩, hbz⟩
theorem pop_ws {X : Nat} {zs : List Int} {s : WS} {n : Nat} {d : List Nat} {t : List TS} {r : List (Nat × List Nat × List TS)} {w : World} (h : WAt w X zs s) (hbz : s.l.busy = false) (hsk : s.sk = (n, d, t) :: r) :
    Calls Try.prog 22 #[.pointer (some ⟨X, 0, none⟩)] w fun e w' => e = .returned (.int .i64 0) ∧ ∃ s', WAt w' X zs s' ∧ WStep w w' X s s' ∧ s'.d = d ∧ s'.bs = s.bs ∧ s'.sk = r ∧ s'.l.busy = false := by
  refine (wpop_yes X zs s n (d, t) r w h hbz hsk).mono ?_
  rintro e w' ⟨rfl, ts, bv, sv, h1, h2, h3, h4⟩
  exact ⟨rfl, _, h3, h4, rfl, rfl, rfl, hbz⟩
theorem look_ws {X : Nat} {zs : List Int} {s : WS} {w : World} (h : WAt w X zs s) (hbz : s.l.busy = false) (_ b : Bool) (n : Nat) (ha : (s.d.getD 0 0 == 0) = b) (hn : leftTo s.d 8 = n) :
    Calls Try.prog 17 #[.pointer (some ⟨X, 0, none⟩)] w fun e w' => ∃ f : Nat, e = .returned (.agg #[.int .i64 (zs.length : Int), .int .i64 (s.ts.length : Int), .int .i64 (s.sk.length : Int), .bool b, .int .i64 (n : Int), .int .i64 (f : Int)]) ∧ Nw w w' := by
  refine (look_any X zs s w h hbz).mono ?_
  rintro e w' ⟨rfl, hf⟩
  exact ⟨fixTo s.d 8, by rw [← ha, ← hn]; rfl, hf⟩

set_option maxHeartbeats 3200000 in
set_option maxRecDepth 1000000 in
theorem sure_ok (w : World) : Calls Try.prog 12 #[] w fun e w' => e = .returned (.bool true) ∧ Nw w w' := by
  go_enter Try.func12, Try.ntmps12
  go_wp2_with fail
  have hb0 : Blk (w.alloc (.cells #[.int .i64 2, .int .i64 2, .int .i64 2] 3)) w.heap.size #[.int .i64 2, .int .i64 2, .int .i64 2] 3 := Blk.new _ _ _
  have hf0 : Nw w (w.alloc (.cells #[.int .i64 2, .int .i64 2, .int .i64 2] 3)) := (Fr.refl _ w).alloc _
  refine (new_any w.heap.size 0 3 [2, 2, 2] _ (by decide) (by decide) (IntsAt.of_blk hb0 0 _ (fun i hi => by
    match i, hi with
    | 0, _ => rfl
    | 1, _ => rfl
    | 2, _ => rfl))).mono ?_
  rintro e w1 ⟨hf1, hcase⟩
  rcases hcase with ⟨hok, X, szv, rfl, hX1, hs1, hXl, hsl⟩ | ⟨hno, _⟩
  · have hA := new_wat hok hX1 hs1
    have hsi : Since w X (ws0 [2, 2, 2] szv) := fun k hk => by
      simp at hXl hsl
      rcases ws0_own hk with rfl | hk
      · omega
      · have := hsl k hk
        omega
    have hf1' : Nw w w1 := hf0.trans hf1 (fun i h => h.elim)
    have hds : (ws0 [2, 2, 2] szv).d = d3 := n_full3
    obtain ⟨s, hs⟩ : ∃ s, ws0 [2, 2, 2] szv = s := ⟨_, rfl⟩
    have hbs : s.bs = [] := by rw [← hs]; rfl
    have hsk : s.sk = [] := by rw [← hs]; rfl
    have htl : s.ts.length = 0 := by rw [← hs]; rfl
    have hbz : s.l.busy = false := by rw [← hs]; rfl
    rw [hs] at hA hsi hds
    have HA := hd hA
    have Hsi := hd hsi
    have Hf := hd hf1'
    clear hb0 hf0 hf1 hX1 hs1 hXl hsl hA hsi hf1' hs
    go_wp2_with fail
    obtain ⟨U, hU⟩ : ∃ U, U = ((w1.alloc (.cells #[.int .i64 0, .int .i64 0] 3)).alloc (.cells #[.int .i64 1, .int .i64 1] 3)).alloc (.cells #[.slice (some ⟨w1.heap.size, 0, none⟩) 2 2, .slice (some ⟨w1.heap.size + 1, 0, none⟩) 2 2] 22) := ⟨_, rfl⟩
    have hfU : Nw w1 U := by rw [hU]; exact (((Fr.refl _ w1).alloc _).alloc _).alloc _
    have hk1 : Blk U w1.heap.size #[.int .i64 0, .int .i64 0] 3 := by rw [hU]; exact ((Blk.new _ _ _).alloc _).alloc _
    have hk2 : Blk U (w1.heap.size + 1) #[.int .i64 1, .int .i64 1] 3 := by
      rw [hU]
      have := (Blk.new (w1.alloc (.cells #[.int .i64 0, .int .i64 0] 3)) #[.int .i64 1, .int .i64 1] 3).alloc (.cells #[.slice (some ⟨w1.heap.size, 0, none⟩) 2 2, .slice (some ⟨w1.heap.size + 1, 0, none⟩) 2 2] 22)
      simpa using this
    have hk3 : Blk U (w1.heap.size + 2) #[.slice (some ⟨w1.heap.size, 0, none⟩) 2 2, .slice (some ⟨w1.heap.size + 1, 0, none⟩) 2 2] 22 := by
      rw [hU]
      have := Blk.new ((w1.alloc (.cells #[.int .i64 0, .int .i64 0] 3)).alloc (.cells #[.int .i64 1, .int .i64 1] 3)) #[.slice (some ⟨w1.heap.size, 0, none⟩) 2 2, .slice (some ⟨w1.heap.size + 1, 0, none⟩) 2 2] 22
      simpa using this
    have hUs : U.heap.size = w1.heap.size + 1 + 1 + 1 := by rw [hU]; simp
    rw [← hUs]
    rw [← hU]
    have HN : Hid (∀ i, i ≤ 2 → ¬ s.own X (w1.heap.size + i)) := fun i _ hs => by
      have := HA.out.mem.lt hs
      omega
    have HS : Hid (SameAt U w1.heap.size) := ⟨hk1, hk2, hk3⟩
    have hA0 := HA.out.nw hfU
    have hf0 := Hf.out.trans hfU (fun i h => h.elim)
    clear HA Hf hU hfU hk1 hk2 hk3 hUs
    have HA := hd hA0
    have Hf := hd hf0
    clear hA0 hf0
    obtain ⟨V1, hV1⟩ : ∃ V, V = U.alloc (.cells #[.int .i64 0, .int .i64 1] 3) := ⟨_, rfl⟩
    have hfV1 : Nw U V1 := by rw [hV1]; exact (Fr.refl _ U).alloc _
    have hv1 : Blk V1 U.heap.size #[.int .i64 0, .int .i64 1] 3 := by rw [hV1]; exact Blk.new _ _ _
    rw [← hV1]
    have hA1 := HA.out.nw hfV1
    have hS1 := HS.out.nw hfV1
    refine (post_clo (zs := [2, 2, 2]) (s := s) (vars := [0, 1]) (rows := rowsS) (nt := true) (way := 1) hA1 hbz (by decide) (ints2 hv1) hS1.rows (by unfold postOf; rw [htl, hsk, hds]; decide) (r := d3) d3_dm (by rw [hbs, hds]; exact clo1)).mono ?_
    rintro e x1 ⟨rfl, s1, hA', hst, hds', hbs', hsk', hbz', htl'⟩
    obtain ⟨hS', hN'⟩ := hS1.step hst HN.out
    obtain ⟨hsi', hf'⟩ := hst.since Hsi.out (Hf.out.trans hfV1 (fun i h => h.elim))
    rw [hbs] at hbs'
    rw [htl] at htl'
    rw [hsk] at hsk'
    clear HA HS HN Hsi Hf hV1 hfV1 hv1 hA1 hS1 hst hbs hsk htl hbz hds
    have HA := hd hA'
    have HS := hd hS'
    have HN := hd hN'
    have Hsi := hd hsi'
    have Hf := hd hf'
    have hbs := hbs'
    have hsk := hsk'
    have htl := htl'
    have hbz := hbz'
    have hds := hds'
    clear hbs' hsk' htl' hbz' hds' hA' hS' hN' hsi' hf'
    go_wp2_with fail
    obtain ⟨V2, hV2⟩ : ∃ V, V = x1.alloc (.cells #[.int .i64 1, .int .i64 2] 3) := ⟨_, rfl⟩
    have hfV2 : Nw x1 V2 := by rw [hV2]; exact (Fr.refl _ x1).alloc _
    have hv2 : Blk V2 x1.heap.size #[.int .i64 1, .int .i64 2] 3 := by rw [hV2]; exact Blk.new _ _ _
    rw [← hV2]
    have hA2 := HA.out.nw hfV2
    have hS2 := HS.out.nw hfV2
    refine (post_clo (zs := [2, 2, 2]) (s := s1) (vars := [1, 2]) (rows := rowsS) (nt := true) (way := 2) hA2 hbz (by decide) (ints2 hv2) hS2.rows (by unfold postOf; rw [htl, hsk, hds]; decide) (r := d3) d3_dm (by rw [hbs, hds]; exact clo2)).mono ?_
    rintro e x2 ⟨rfl, s2, hA', hst, hds', hbs', hsk', hbz', htl'⟩
    obtain ⟨hS', hN'⟩ := hS2.step hst HN.out
    obtain ⟨hsi', hf'⟩ := hst.since Hsi.out (Hf.out.trans hfV2 (fun i h => h.elim))
    rw [hbs] at hbs'
    rw [htl] at htl'
    rw [hsk] at hsk'
    clear HA HS HN Hsi Hf hV2 hfV2 hv2 hA2 hS2 hst hbs hsk htl hbz hds
    have HA := hd hA'
    have HS := hd hS'
    have HN := hd hN'
    have Hsi := hd hsi'
    have Hf := hd hf'
    have hbs := hbs'
    have hsk := hsk'
    have htl := htl'
    have hbz := hbz'
    have hds := hds'
    clear hbs' hsk' htl' hbz' hds' hA' hS' hN' hsi' hf'
    go_wp2_with fail
    obtain ⟨V3, hV3⟩ : ∃ V, V = x2.alloc (.cells #[.int .i64 0, .int .i64 2] 3) := ⟨_, rfl⟩
    have hfV3 : Nw x2 V3 := by rw [hV3]; exact (Fr.refl _ x2).alloc _
    have hv3 : Blk V3 x2.heap.size #[.int .i64 0, .int .i64 2] 3 := by rw [hV3]; exact Blk.new _ _ _
    rw [← hV3]
    have hA3 := HA.out.nw hfV3
    have hS3 := HS.out.nw hfV3
    refine (post_clo (zs := [2, 2, 2]) (s := s2) (vars := [0, 2]) (rows := rowsS) (nt := true) (way := 1) hA3 hbz (by decide) (ints2 hv3) hS3.rows (by unfold postOf; rw [htl, hsk, hds]; decide) (r := d3) d3_dm (by rw [hbs, hds]; exact clo3)).mono ?_
    rintro e x3 ⟨rfl, s3, hA', hst, hds', hbs', hsk', hbz', htl'⟩
    obtain ⟨hS', hN'⟩ := hS3.step hst HN.out
    obtain ⟨hsi', hf'⟩ := hst.since Hsi.out (Hf.out.trans hfV3 (fun i h => h.elim))
    rw [hbs] at hbs'
    rw [htl] at htl'
    rw [hsk] at hsk'
    clear HA HS HN Hsi Hf hV3 hfV3 hv3 hA3 hS3 hst hbs hsk htl hbz hds
    have HA := hd hA'
    have HS := hd hS'
    have HN := hd hN'
    have Hsi := hd hsi'
    have Hf := hd hf'
    have hbs := hbs'
    have hsk := hsk'
    have htl := htl'
    have hbz := hbz'
    have hds := hds'
    clear hbs' hsk' htl' hbz' hds' hA' hS' hN' hsi' hf'
    go_wp2_with fail
    obtain ⟨tn, htn⟩ : ∃ tn : Int, ((s3.ts.length : Nat) : Int) = tn := ⟨_, rfl⟩
    have hlk1 := look_ws (zs := [2, 2, 2]) (s := s3) HA.out hbz false false 6 (by rw [hds]; decide) (by rw [hds]; decide)
    rw [hsk, htn] at hlk1
    refine hlk1.mono ?_
    clear hlk1
    rintro e y1 ⟨f1, rfl, hfl⟩
    have hA' := HA.out.nw hfl
    have hf' := Hf.out.trans hfl (fun i h => h.elim)
    clear HA Hf HS HN hfl
    have HA := hd hA'
    have Hf := hd hf'
    clear hA' hf'
    go_wp2_with fail
    obtain ⟨V1, hV1⟩ : ∃ V, V = y1.alloc (.cells #[.int .i64 3, .int .i64 tn, .int .i64 0, .bool false, .int .i64 6, .int .i64 (f1 : Int)] 40) := ⟨_, rfl⟩
    have hfV1 : Nw y1 V1 := by rw [hV1]; exact (Fr.refl _ y1).alloc _
    have hB1 : Blk V1 y1.heap.size #[.int .i64 3, .int .i64 tn, .int .i64 0, .bool false, .int .i64 6, .int .i64 (f1 : Int)] 40 := by rw [hV1]; exact Blk.new _ _ _
    rw [← hV1]
    have hA' := HA.out.nw hfV1
    have hf' := Hf.out.trans hfV1 (fun i h => h.elim)
    have HB1 := hd hB1
    have HM1 : Hid (¬ s3.own X y1.heap.size) := fun hs => Nat.lt_irrefl _ (HA.out.mem.lt hs)
    clear HA Hf hV1 hfV1 hB1
    have HA := hd hA'
    have Hf := hd hf'
    clear hA' hf'
    refine (push_ws (zs := [2, 2, 2]) (s := s3) HA.out hbz (by rw [hsk]; decide)).mono ?_
    rintro e x4 ⟨rfl, s4, hA', hst, hds', hbs', hsk', hbz'⟩
    obtain ⟨hsi', hf'⟩ := hst.since Hsi.out Hf.out
    obtain ⟨hB', hM'⟩ := hst.blk HB1.out HM1.out
    clear HB1 HM1
    have HB1 := hd hB'
    have HM1 := hd hM'
    clear hB' hM'
    obtain ⟨n4, t4, hsk'⟩ := hsk'
    rw [hsk, hds] at hsk'
    rw [hbs] at hbs'
    rw [hds] at hds'
    clear HA Hsi Hf hst hbs hsk hbz hds
    have HA := hd hA'
    have Hsi := hd hsi'
    have Hf := hd hf'
    have hbs := hbs'
    have hsk := hsk'
    have hbz := hbz'
    have hds := hds'
    clear hbs' hsk' hbz' hds' hA' hsi' hf'
    go_wp2_with fail
    refine (fix_clo (zs := [2, 2, 2]) (s := s4) (v := 0) (value := 0) HA.out hbz (by rw [hds]; decide) (r := zero8) zero8_dm (by rw [hbs, hds]; exact clo4)).mono ?_
    rintro e x5 ⟨rfl, s5, hA', hst, hds', hbs', hsk', hbz'⟩
    obtain ⟨hsi', hf'⟩ := hst.since Hsi.out Hf.out
    obtain ⟨hB', hM'⟩ := hst.blk HB1.out HM1.out
    clear HB1 HM1
    have HB1 := hd hB'
    have HM1 := hd hM'
    clear hB' hM'
    rw [hsk] at hsk'
    rw [hbs] at hbs'
    clear HA Hsi Hf hst hbs hsk hbz hds
    have HA := hd hA'
    have Hsi := hd hsi'
    have Hf := hd hf'
    have hbs := hbs'
    have hsk := hsk'
    have hbz := hbz'
    have hds := hds'
    clear hbs' hsk' hbz' hds' hA' hsi' hf'
    go_wp2_with fail
    obtain ⟨tm, htm⟩ : ∃ tn : Int, ((s5.ts.length : Nat) : Int) = tn := ⟨_, rfl⟩
    have hlk := look_ws (zs := [2, 2, 2]) (s := s5) HA.out hbz false true 0 (by rw [hds]; decide) (by rw [hds]; decide)
    rw [hsk, htm] at hlk
    refine hlk.mono ?_
    clear hlk
    rintro e y2 ⟨f2, rfl, hfl⟩
    have hA' := HA.out.nw hfl
    have hf' := Hf.out.trans hfl (fun i h => h.elim)
    have hB' := HB1.out.nw hfl
    clear HB1
    have HB1 := hd hB'
    clear hB'
    clear HA Hf hfl
    have HA := hd hA'
    have Hf := hd hf'
    clear hA' hf'
    go_wp2_with fail
    obtain ⟨V2, hV2⟩ : ∃ V, V = y2.alloc (.cells #[.int .i64 3, .int .i64 tm, .int .i64 1, .bool true, .int .i64 0, .int .i64 (f2 : Int)] 40) := ⟨_, rfl⟩
    have hfV2 : Nw y2 V2 := by rw [hV2]; exact (Fr.refl _ y2).alloc _
    have hB2 : Blk V2 y2.heap.size #[.int .i64 3, .int .i64 tm, .int .i64 1, .bool true, .int .i64 0, .int .i64 (f2 : Int)] 40 := by rw [hV2]; exact Blk.new _ _ _
    rw [← hV2]
    have hA' := HA.out.nw hfV2
    have hf' := Hf.out.trans hfV2 (fun i h => h.elim)
    have HB2 := hd hB2
    have HM2 : Hid (¬ s5.own X y2.heap.size) := fun hs => Nat.lt_irrefl _ (HA.out.mem.lt hs)
    have hB1' := HB1.out.nw hfV2
    clear HB1
    have HB1 := hd hB1'
    clear hB1'
    clear HA Hf hV2 hfV2 hB2
    have HA := hd hA'
    have Hf := hd hf'
    clear hA' hf'
    refine (pop_ws (zs := [2, 2, 2]) (s := s5) HA.out hbz hsk).mono ?_
    rintro e x6 ⟨rfl, s6, hA', hst, hds', hbs', hsk', hbz'⟩
    obtain ⟨hsi', hf'⟩ := hst.since Hsi.out Hf.out
    obtain ⟨hB', hM'⟩ := hst.blk HB1.out HM1.out
    clear HB1 HM1
    have HB1 := hd hB'
    have HM1 := hd hM'
    clear hB' hM'
    obtain ⟨hB', hM'⟩ := hst.blk HB2.out HM2.out
    clear HB2 HM2
    have HB2 := hd hB'
    have HM2 := hd hM'
    clear hB' hM'
    clear HA Hsi Hf hst hbs hsk hbz hds
    have HA := hd hA'
    have Hf := hd hf'
    have hsk := hsk'
    have hbz := hbz'
    have hds := hds'
    clear hbs' hsk' hbz' hds' hA' hsi' hf'
    go_wp2_with fail
    obtain ⟨tq, htq⟩ : ∃ tn : Int, ((s6.ts.length : Nat) : Int) = tn := ⟨_, rfl⟩
    have hlk := look_ws (zs := [2, 2, 2]) (s := s6) HA.out hbz false false 6 (by rw [hds]; decide) (by rw [hds]; decide)
    rw [hsk, htq] at hlk
    refine hlk.mono ?_
    clear hlk
    rintro e y3 ⟨f3, rfl, hfl⟩
    have hA' := HA.out.nw hfl
    have hf' := Hf.out.trans hfl (fun i h => h.elim)
    have hB' := HB1.out.nw hfl
    clear HB1
    have HB1 := hd hB'
    clear hB'
    have hB' := HB2.out.nw hfl
    clear HB2
    have HB2 := hd hB'
    clear hB'
    clear HA Hf hfl
    have HA := hd hA'
    have Hf := hd hf'
    clear hA' hf'
    have p1 : y3.cell? ⟨y1.heap.size, 4, none⟩ = some (.int .i64 6) := HB1.out.cell 4
    have p2 : y3.cell? ⟨y1.heap.size, 3, none⟩ = some (.bool false) := HB1.out.cell 3
    have p3 : y3.cell? ⟨y2.heap.size, 4, none⟩ = some (.int .i64 0) := HB2.out.cell 4
    have p4 : y3.cell? ⟨y2.heap.size, 3, none⟩ = some (.bool true) := HB2.out.cell 3
    have q1 : y1.heap.size < y3.heap.size := HB1.out.lt
    have q2 : y2.heap.size < y3.heap.size := HB2.out.lt
    go_wp2
    go_ret
    exact ⟨rfl, Hf.out.alloc _⟩
  · exact absurd hno (by decide)
end Go.Proofs.Ytkjfpdfkcfgfkaa

/- Parts of the statements without the document's answer: pick, fit. -/
namespace Go.Proofs.Ytkjfpdfkcfgfkaa
open Go.RowKit

/-- A number of the machine. -/
def In64 (c : Int) : Prop := -9223372036854775808 ≤ c ∧ c < 9223372036854775808
def pickOf (c n : Int) : Int := (if c < 0 then -(c + 1) else c) % n
theorem pickOf_range (c n : Int) (hn : 0 < n) : 0 ≤ pickOf c n ∧ pickOf c n < n := by
  unfold pickOf
  exact ⟨Int.emod_nonneg _ (by omega), Int.emod_lt_of_pos _ hn⟩

set_option maxHeartbeats 400000 in
theorem pick_any (c n : Int) (hc : In64 c) (hn : 0 < n) (hn2 : n < 1000) (w : World) :
    Calls Try.prog 16 #[.int .i64 c, .int .i64 n] w fun e w' => e = .returned (.int .i64 (pickOf c n)) ∧ w' = w := by
  unfold In64 at hc
  have hr := pickOf_range c n hn
  by_cases h0 : c < 0
  · have e1 : (-(c + 1)).tmod n = pickOf c n := by
      unfold pickOf
      rw [if_pos h0]
      exact Int.tmod_eq_emod_of_nonneg (by omega)
    go_enter Try.func16, Try.ntmps16
    go_wp2
    go_ret
    exact ⟨rfl, rfl⟩
  · have e1 : c.tmod n = pickOf c n := by
      unfold pickOf
      rw [if_neg h0]
      exact Int.tmod_eq_emod_of_nonneg (by omega)
    go_enter Try.func16, Try.ntmps16
    go_wp2
    go_ret
    exact ⟨rfl, rfl⟩

/-- A list of a call's own that grows: seen from the world w0 in which it was not there. -/
structure Own (w0 w : World) (v : Value) (e : TypeId) (xs : List Value) : Prop where
  row : Row w v e xs
  nw : Nw w0 w
  since : ∀ q, v.ownBlock = some q → w0.heap.size ≤ q
theorem Own.nil (w : World) (e : TypeId) : Own w w (.slice none 0 0) e [] := ⟨Row.nil _ _, Fr.refl _ _, fun q hq => (by cases hq)⟩
theorem Own.nil' {w0 w : World} (h : Nw w0 w) (e : TypeId) : Own w0 w (.slice none 0 0) e [] := ⟨Row.nil _ _, h, fun q hq => (by cases hq)⟩
theorem Own.more {w0 w w2 : World} {v v' : Value} {e : TypeId} {xs ys : List Value} {g : Nat} (h : Own w0 w v e xs) (hr : Row w2 v' e ys) (hf : Fr (fun k => v.ownBlock = some k) w w2) (hv : v'.ownBlock = some g) (ha : v.ownBlock = some g ∨ w.heap.size ≤ g) : Own w0 w2 v' e ys :=
  ⟨hr, h.nw.trans hf (fun i hi => .inr (h.since i hi)), fun q hq => by
    rw [hv] at hq
    cases hq
    rcases ha with ha | ha
    · exact h.since _ ha
    · exact Nat.le_trans h.nw.size ha⟩
theorem Own.step {w0 w w2 : World} {v : Value} {e : TypeId} {xs : List Value} (h : Own w0 w v e xs) (f : Nw w w2) : Own w0 w2 v e xs := ⟨h.row.nw f, h.nw.trans f (fun _ x => x.elim), h.since⟩
theorem Row.made (w : World) (e : TypeId) (xs : List Value) (h : xs.length ≤ 1000) : Row (w.alloc (.cells xs.toArray e)) (.slice (some ⟨w.heap.size, 0, none⟩) xs.length xs.length) e xs :=
  ⟨by simp, .inr ⟨w.heap.size, xs.length, xs.toArray, rfl, Nat.zero_le _, heap_alloc_new w _, Nat.le_refl _, by unfold maxLen; omega, by simp, by simp⟩⟩
theorem Own.fr {w0 w w2 : World} {v : Value} {e : TypeId} {xs : List Value} {S : Nat → Prop} (h : Own w0 w v e xs) (f : Fr S w w2) (hn : ∀ k, v.ownBlock = some k → ¬ S k) (hs : ∀ k, S k → w0.heap.size ≤ k) : Own w0 w2 v e xs := ⟨h.row.fr f hn, h.nw.trans f (fun i hi => .inr (hs i hi)), h.since⟩

/-- Sizes by raw numbers. -/
def fitTo (raw : List Int) (k : Nat) : List Int := (raw.take k).map (fun c => 1 + pickOf c 4)
def fitL (raw : List Int) (most : Nat) : List Int := if (raw.take most).length = 0 then [2] else fitTo raw (min raw.length most)
theorem fitTo_succ (raw : List Int) (k : Nat) (hk : k < raw.length) : fitTo raw (k + 1) = fitTo raw k ++ [1 + pickOf (raw.getD k 0) 4] := by
  unfold fitTo
  rw [List.take_succ_eq_append_getElem hk, List.map_append]
  simp [List.getD, hk]
theorem fitTo_len (raw : List Int) (k : Nat) (hk : k ≤ raw.length) : (fitTo raw k).length = k := by simp [fitTo]; omega

theorem fitL_len (raw : List Int) (most : Nat) (hm : 1 ≤ most) : 1 ≤ (fitL raw most).length ∧ (fitL raw most).length ≤ most := by
  unfold fitL
  split
  · exact ⟨Nat.le_refl _, hm⟩
  · rename_i h
    rw [fitTo_len _ _ (Nat.min_le_left _ _)]
    rw [List.length_take] at h
    omega
theorem fitL_ok (raw : List Int) (most : Nat)  : ∀ z ∈ fitL raw most, 1 ≤ z ∧ z ≤ 4 := by
  intro z hz
  unfold fitL at hz
  split at hz
  · simp at hz; omega
  · unfold fitTo at hz
    obtain ⟨c, _, rfl⟩ := List.mem_map.1 hz
    have := pickOf_range c 4 (by omega)
    omega

set_option maxHeartbeats 1600000 in
set_option maxRecDepth 1000000 in
theorem fit_any (ao : Option Addr) (cap : Nat) (raw : List Int) (most : Nat) (w : World) (hm : 1 ≤ most ∧ most ≤ 8) (hl : raw.length * 8 ≤ 140737488355328) (hr : IntsAt w ao raw) (hin : ∀ c ∈ raw, In64 c) :
    Calls Try.prog 13 #[.slice ao raw.length cap, .int .i64 (most : Int)] w fun e w' => ∃ sv, e = .returned sv ∧ Own w w' sv 3 ((fitL raw most).map (Value.int .i64)) := by
  obtain ⟨i0, hi0, hz0, hz1, hz2⟩ := info_parts Try.infoInt
  go_enter Try.func13, Try.ntmps13
  go_wp2_with fail
  go_loopw [5, 6] (fun l i wr => ∃ k : Nat, k ≤ raw.length ∧ k ≤ most ∧ i = .int .i64 k ∧ Hid (Own w wr l 3 ((fitTo raw k).map (Value.int .i64)))) (fun _ i _ => most - (intOf i).toNat)
  case atStart => exact ⟨0, by omega, by omega, rfl, Own.nil _ _⟩
  case round =>
    obtain ⟨k, hk1, hk2, rfl, HR⟩ := hrel
    obtain ⟨lo, lcap, hform, _⟩ := HR.out.row.form
    simp only [List.length_map] at hform
    have hln := fitTo_len raw k hk1
    rw [hln] at hform
    subst hform
    by_cases hlt : k < raw.length ∧ k < most
    · obtain ⟨hlt1, hlt2⟩ := hlt
      obtain ⟨b, o, rfl, hbl, hc⟩ := (hr.nw HR.out.nw) k hlt1
      obtain ⟨c, hcv⟩ : ∃ c, raw.getD k 0 = c := ⟨_, rfl⟩
      rw [hcv] at hc
      have hcin : In64 c := hin c (by rw [← hcv]; simp [List.getD, hlt1])
      have hpr := pickOf_range c 4 (by omega)
      have hsucc := fitTo_succ raw k hlt1
      rw [hcv] at hsucc
      have Hsucc := hd hsucc
      obtain ⟨p, hp⟩ : ∃ p, pickOf c 4 = p := ⟨_, rfl⟩
      have Hp := hd hp
      rw [hp] at hpr
      obtain ⟨xs, hxs⟩ : ∃ xs, (fitTo raw k).map (Value.int .i64) = xs := ⟨_, rfl⟩
      have hxl : xs.length = k := by rw [← hxs, List.length_map]; exact hln
      rw [hxs] at HR
      have Hxs := hd hxs
      clear hsucc hcv hp hxs hln
      subst hxl
      have hd1 : (xs.length : Int) < (raw.length : Int) := by omega
      have hd2 : (xs.length : Int) < (most : Int) := by omega
      go_wp2_with (first
        | (go_at_call 16; refine (pick_any c 4 hcin (by omega) (by omega) _).mono ?_; rw [Hp.out]; rintro e w' ⟨rfl, rfl⟩)
        | (at_builtin; refine wpList_append_own_at _ rfl _ _ 22 rfl 0 3 i0 (.int .i64 0) 1 8 Try.underlying22 hi0 hz0 hz1 hz2 rfl (by decide) _ _ _ rfl (Row.alloc HR.out.row _) ⟨_, 0, none⟩ 1 1 [.int .i64 (1 + p)] rfl rfl (cell_one_new _ _ _) (by simp [Value.oneCell']) (by unfold maxLen; omega) (by omega) (Nat.zero_le _) ?_; intro v' w2 hown' hgrow _ hat; obtain ⟨g', cap', rfl, hr3, hf3, ha3, hlt3⟩ := app1 hown' hgrow hat))
      refine ⟨⟨xs.length + 1, by omega, by omega, by simp, ?_⟩, by simp [intOf]; omega⟩
      refine HR.out.more (g := g') ?_ hf3 rfl (ha3.imp (fun h => h) (fun h => by omega))
      have := hr3
      rw [Hsucc.out, Hp.out, List.map_append, Hxs.out]
      exact this
    · have hmin : k = min raw.length most := by omega
      have hfit : k ≠ 0 → fitL raw most = fitTo raw k := fun h0 => by
        unfold fitL
        rw [if_neg (by rw [List.length_take]; omega), ← hmin]
      have hfit0 : k = 0 → fitL raw most = [2] := fun h0 => by
        unfold fitL
        rw [if_pos (by rw [List.length_take]; omega)]
      have Hfit := hd hfit
      have Hfit0 := hd hfit0
      by_cases h1 : k < raw.length
      · have hd1 : (k : Int) < (raw.length : Int) := by omega
        have hd2 : ¬ ((k : Int) < (most : Int)) := by omega
        have hk0 : k ≠ 0 := by omega
        have hd3 : ((k : Int) == 0) = false := by simp; omega
        clear hmin hlt hfit hfit0
        go_wp2_with fail
        go_ret
        refine ⟨_, rfl, ?_⟩
        rw [Hfit.out hk0]
        exact HR.out
      · have hd1 : ¬ ((k : Int) < (raw.length : Int)) := by omega
        by_cases hk0 : k = 0
        · clear hmin hlt hfit hfit0
          subst hk0
          go_wp2_with fail
          go_ret
          refine ⟨_, rfl, ?_⟩
          rw [Hfit0.out trivial]
          exact ⟨Row.made wr _ [.int .i64 2] (by decide), HR.out.nw.alloc _, fun q hq => by cases hq; exact HR.out.nw.size⟩
        · have hd3 : ((k : Int) == 0) = false := by simp; omega
          clear hmin hlt hfit hfit0
          go_wp2_with fail
          go_ret
          refine ⟨_, rfl, ?_⟩
          rw [Hfit.out hk0]
          exact HR.out
end Go.Proofs.Ytkjfpdfkcfgfkaa

/- Reads within a region that draws its order: what an operation yields. -/
namespace Go.Proofs.Ytkjfpdfkcfgfkaa
open Go.RowKit

/-- The operations of region n of a piece of code. -/
def findOps (n : Nat) : Code → Option (Array Oper)
  | .region id ops _ => if id == n then some ops else none
  | .seq a b => match findOps n a with
    | some x => some x
    | none => findOps n b
  | .cond _ a b => match findOps n a with
    | some x => some x
    | none => findOps n b
  | .block _ c => findOps n c
  | .loop c => findOps n c
  | .rangeFunc _ _ c d => match findOps n c with
    | some x => some x
    | none => findOps n d
  | .scope c => findOps n c
  | _ => none
def regOps (f : Func) (n : Nat) : Array Oper := match f.body with
  | some c => (findOps n c).getD #[]
  | none => #[]
def opAt (ops : Array Oper) (i : Nat) : Oper := ops[i]?.getD default
section
variable {P : Program} {Q : Exit → Act → World → Prop} {S : World → Prop} {ops : Array Oper}
/-- A region by the name of its operations. -/
theorem region_H {ops' : Array Oper} {id : Nat} {a : Act} {w : World} (ops : Array Oper) (n : Nat) (S : World → Prop) (ho : ops' = ops) (hn : ops.size = n) (hm : P.follows .mixedOrders = true)
    (h : wpAnyH P .any ops Q S n (Array.replicate n false) a w.drew) : (Code.region id ops' true).wp P Q a w := by
  subst ho
  subst hn
  exact wp_region_held hm h
def takeB (ops : Array Oper) (listed : Array Bool) (i : Nat) (d : Option Tmp) : Bool := Region.noSelect ops && Region.free .any ops listed i && (Region.ready .any ops listed).contains i && decide (i < ops.size) && decide ((opAt ops i).dst = d)
theorem opAt_of {i : Nat} (h : i < ops.size) : ops[i]? = some (opAt ops i) := by simp [opAt, h]
/-- Operation i is taken first: it reads. -/
theorem take_at {i : Nat} {d : Option Tmp} {v : Value} {fuel : Nat} {listed : Array Bool} {a : Act} {w : World} (hB : takeB ops listed i d = true) (hw : Region.wanted (opAt ops i) (yielded ops a.tmps) = true)
    (hQ : ∀ c a w, Q (.panic c) (a.put d v) w → Q (.panic c) a w) (hy : ∀ w, S w → (execOp a.eval (opAt ops i)).run P w = .ok (.value v) w) (hS : S w)
    (h : wpAnyH P .any ops Q S fuel (listed.setIfInBounds i true) (a.put d v) w) : wpAnyH P .any ops Q S (fuel + 1) listed a w := by
  simp only [takeB, Bool.and_eq_true, decide_eq_true_eq] at hB
  obtain ⟨⟨⟨⟨h1, h2⟩, h3⟩, h4⟩, h5⟩ := hB
  subst h5
  exact wpAnyH_take (i := i) (oi := opAt ops i) (v := v) (opAt_of h4) h1 h2 h3 hQ (.inl ⟨hw, hy⟩) hS h
/-- Operation i is taken first: its guard bars it. -/
theorem pass_at {i : Nat} {d : Option Tmp} {fuel : Nat} {listed : Array Bool} {a : Act} {w : World} (hB : takeB ops listed i d = true) (hw : Region.wanted (opAt ops i) (yielded ops a.tmps) = false)
    (hQ : ∀ c a w, Q (.panic c) (a.put d undef) w → Q (.panic c) a w) (hS : S w)
    (h : wpAnyH P .any ops Q S fuel (listed.setIfInBounds i true) (a.put d undef) w) : wpAnyH P .any ops Q S (fuel + 1) listed a w := by
  simp only [takeB, Bool.and_eq_true, decide_eq_true_eq] at hB
  obtain ⟨⟨⟨⟨h1, h2⟩, h3⟩, h4⟩, h5⟩ := hB
  subst h5
  exact wpAnyH_take (i := i) (oi := opAt ops i) (v := undef) (opAt_of h4) h1 h2 h3 hQ (.inr ⟨hw, rfl⟩) hS h
def oneB (ops : Array Oper) (listed : Array Bool) (i : Nat) (d : Option Tmp) : Bool := decide (Region.ready .any ops listed = [i]) && decide (i < ops.size) && decide ((opAt ops i).dst = d)
/-- Nothing else can come up: a call. -/
theorem enter_at {i : Nat} {d : Option Tmp} {fuel : Nat} {listed : Array Bool} {a : Act} {w w' : World} {f : FuncId} {args : Array Value} (hB : oneB ops listed i d = true) (hw : Region.wanted (opAt ops i) (yielded ops a.tmps) = true)
    (hr : (execOp a.eval (opAt ops i)).run P w = .ok (.enter f args) w')
    (h : Calls P f args w' (fun e w'' => ∃ v, e = .returned v ∧ S w'' ∧ wpAnyH P .any ops Q S fuel (listed.setIfInBounds i true) (a.put d v) w'')) : wpAnyH P .any ops Q S (fuel + 1) listed a w := by
  simp only [oneB, Bool.and_eq_true, decide_eq_true_eq] at hB
  obtain ⟨⟨h3, h4⟩, h5⟩ := hB
  subst h5
  refine wpAnyH_all h3 (by simp) (fun j hj => ?_)
  obtain rfl : j = i := by simpa using hj
  exact op_enter (opAt_of h4) hw hr h
/-- Nothing else can come up: a value. -/
theorem value_at {i : Nat} {d : Option Tmp} {fuel : Nat} {listed : Array Bool} {a : Act} {w w' : World} {v : Value} (hB : oneB ops listed i d = true) (hw : Region.wanted (opAt ops i) (yielded ops a.tmps) = true)
    (hr : (execOp a.eval (opAt ops i)).run P w = .ok (.value v) w') (hS : S w') (h : wpAnyH P .any ops Q S fuel (listed.setIfInBounds i true) (a.put d v) w') : wpAnyH P .any ops Q S (fuel + 1) listed a w := by
  simp only [oneB, Bool.and_eq_true, decide_eq_true_eq] at hB
  obtain ⟨⟨h3, h4⟩, h5⟩ := hB
  subst h5
  refine wpAnyH_all h3 (by simp) (fun j hj => ?_)
  obtain rfl : j = i := by simpa using hj
  exact op_value (opAt_of h4) hw hr ⟨hS, h⟩
/-- Nothing else can come up: a store. -/
theorem skip_at {i : Nat} {d : Option Tmp} {fuel : Nat} {listed : Array Bool} {a : Act} {w w' : World} (hB : oneB ops listed i d = true) (hw : Region.wanted (opAt ops i) (yielded ops a.tmps) = true)
    (hr : (execOp a.eval (opAt ops i)).run P w = .ok .skip w') (hS : S w') (h : wpAnyH P .any ops Q S fuel (listed.setIfInBounds i true) (a.put d undef) w') : wpAnyH P .any ops Q S (fuel + 1) listed a w := by
  simp only [oneB, Bool.and_eq_true, decide_eq_true_eq] at hB
  obtain ⟨⟨h3, h4⟩, h5⟩ := hB
  subst h5
  refine wpAnyH_all h3 (by simp) (fun j hj => ?_)
  obtain rfl : j = i := by simpa using hj
  exact op_skip (opAt_of h4) hw hr ⟨hS, h⟩
end
/-- A load of one cell. -/
theorem exec_load {ev : Operand → Value} {o : Oper} {w : World} {b off : Nat} {v : Value} (t : TypeId) (x : Operand) (ho : o.op = .load t x) (hx : ev x = .pointer (some ⟨b, off, none⟩)) (hag : (isAgg t).run Try.prog w = .ok false w) (hc : w.cell? ⟨b, off, none⟩ = some v) :
    (execOp ev o).run Try.prog w = .ok (.value v) w := by
  unfold execOp
  have hl : (Sem.load Mode.plain (⟨b, off, none⟩ : Addr) Sem.pure).run Try.prog w = .ok v w := by
    unfold Sem.run
    rw [hc]
    rfl
  simp [ho, hx, Instr.loadAt, Instr.sureAddr, loadVar, hag, hl, Result.andThen, load]
/-- The place of an element, of one cell each. -/
theorem exec_index {ev : Operand → Value} {o : Oper} {w : World} {b off n cap i : Nat} (t e : TypeId) (x y : Operand) (ho : o.op = .indexAddr t x y) (hx : ev x = .slice (some ⟨b, off, none⟩) n cap) (hy : ev y = .int .i64 (i : Int)) (hi : i < n)
    (ht : (underlying t).run Try.prog w = .ok (.slice e) w) (he : (sizeOf e).run Try.prog w = .ok 1 w) :
    (execOp ev o).run Try.prog w = .ok (.value (.pointer (some ⟨b, off + i, none⟩))) w := by
  unfold execOp
  simp [ho, hx, hy, Instr.indexAt, asIntOf, ht, he, Result.andThen, go_sem, hi]
/-- A sum that stays among the machine's numbers. -/
theorem exec_add {ev : Operand → Value} {o : Oper} {w : World} (a b : Int) (r : Int) (x y : Operand) (ho : o.op = .binOp .add 3 x y 3) (hx : ev x = .int .i64 a) (hy : ev y = .int .i64 b) (hr : r = a + b) (hb : -9223372036854775808 ≤ r ∧ r < 9223372036854775808) :
    (execOp ev o).run Try.prog w = .ok (.value (.int .i64 r)) w := by
  have h1 : IntKind.i64.wrap (a + b) = r := by rw [IntKind.wrap_i64] <;> omega
  have h2 : (eqGuard .add 3 x y (.int .i64 a) (.int .i64 b)).run Try.prog w = .ok () w := by kernel_rfl
  have h3 : (binOp .add 3 (.int .i64 a) (.int .i64 b)).run Try.prog w = .ok (.int .i64 (IntKind.i64.wrap (a + b))) w := by kernel_rfl
  unfold execOp
  simp [ho, hx, hy, h2, h3, h1, Result.andThen]
theorem exec_sub {ev : Operand → Value} {o : Oper} {w : World} (a b : Int) (r : Int) (x y : Operand) (ho : o.op = .binOp .sub 3 x y 3) (hx : ev x = .int .i64 a) (hy : ev y = .int .i64 b) (hr : r = a - b) (hb : -9223372036854775808 ≤ r ∧ r < 9223372036854775808) :
    (execOp ev o).run Try.prog w = .ok (.value (.int .i64 r)) w := by
  have h1 : IntKind.i64.wrap (a - b) = r := by rw [IntKind.wrap_i64] <;> omega
  have h2 : (eqGuard .sub 3 x y (.int .i64 a) (.int .i64 b)).run Try.prog w = .ok () w := by kernel_rfl
  have h3 : (binOp .sub 3 (.int .i64 a) (.int .i64 b)).run Try.prog w = .ok (.int .i64 (IntKind.i64.wrap (a - b))) w := by kernel_rfl
  unfold execOp
  simp [ho, hx, hy, h2, h3, h1, Result.andThen]
/-- append of one element, of one cell. -/
theorem exec_append1 {ev : Operand → Value} {o : Oper} {w : World} {v x : Value} {xs : List Value} {g c : Nat} {e : TypeId} {i0 : TypeInfo} {z : Value} (by_ : Nat) (s y : Operand) (t : TypeId) (ho : o.op = .call { callee := .builtin .append, args := #[s, y], argTypes := #[t, t] }) (hs : ev s = v) (hy : ev y = .slice (some ⟨g, 0, none⟩) 1 c)
    (ht : Try.prog.underlying t = some (.slice e)) (hi : Try.prog.info? e = some i0) (hz : i0.zero = some z) (h1 : i0.size = 1) (hb : i0.bytes = by_) (hzc : z.cells.size = 1)
    (hr : Row w v e xs) (hc : w.cell? ⟨g, 0, none⟩ = some x) (hx : x.oneCell' = true) (h63 : xs.length + 1 ≤ maxLen) (hl : (xs.length + 1) * by_ ≤ 140737488355328) :
    ∃ v' w', (execOp ev o).run Try.prog w = .ok (.value v') w' ∧ w'.ownsRow 0 e 1 v' (xs.length + 1) (xs ++ [x]) ∧ w.grownBy w' v.ownBlock ∧ (v'.ownBlock = v.ownBlock ∨ v'.ownBlock = some w.heap.size) := by
  obtain ⟨v', w', hr', h2, h3, _, h5⟩ := run_append_own_at (P := Try.prog) w 0 t o.type e i0 z 1 by_ ht hi hz h1 hb hzc (by decide) v xs.length xs hr ⟨g, 0, none⟩ 1 c [x] rfl (fun j u hj => by
    match j with
    | 0 =>
      simp at hj
      subst hj
      simpa [Addr.add] using hc
    | j + 1 => simp at hj) (by simpa using hx) h63 hl (Nat.zero_le _)
  refine ⟨v', w', ?_, h2, h3, h5⟩
  unfold execOp
  simp only [ho, resolve, invoke, builtin, Sem.run_bind, Sem.run_pure, Result.andThen_ok, List.map_toArray, List.map_cons, List.map_nil, hs, hy, hr']
/-- What an append of one element leaves: the element lies in block g. -/
theorem app1' {w w1 : World} {e : TypeId} {v v' x : Value} {xs : List Value} (h1 : w1.ownsRow 0 e 1 v' (xs.length + 1) (xs ++ [x]))
    (hg : w.grownBy w1 v.ownBlock) (hat : v'.ownBlock = v.ownBlock ∨ v'.ownBlock = some w.heap.size) :
    ∃ g cap, v' = .slice (some ⟨g, 0, none⟩) (xs.length + 1) cap ∧ Row w1 v' e (xs ++ [x]) ∧ Fr (fun k => v.ownBlock = some k) w w1 ∧ (v.ownBlock = some g ∨ w.heap.size ≤ g) ∧ g < w1.heap.size := by
  have hr : Row w1 v' e (xs ++ [x]) := by unfold Row; simpa using h1
  have hfr : Fr (fun k => v.ownBlock = some k) w w1 := (Fr.refl (fun k => v.ownBlock = some k) w).grown hg (fun k hk => .inl hk)
  rcases h1.2 with ⟨_, hn⟩ | ⟨g, cap, cur, rfl, _, hgg, _⟩
  · omega
  · refine ⟨g, cap, rfl, hr, hfr, ?_, lt_of_block hgg⟩
    rcases hat with hat | hat
    · exact .inl hat.symm
    · right
      have : g = w.heap.size := by simpa [Value.ownBlock] using hat
      omega
/-- Only the two operands of a call of append matter. -/
theorem exec_same {ev ev' : Operand → Value} {o : Oper} {s y : Operand} {t : TypeId} {w : World} (ho : o.op = .call { callee := .builtin .append, args := #[s, y], argTypes := #[t, t] }) (h1 : (ev s, ev y) = (ev' s, ev' y)) : (execOp ev o).run Try.prog w = (execOp ev' o).run Try.prog w := by
  simp only [Prod.mk.injEq] at h1
  unfold execOp
  simp only [ho, resolve, List.map_toArray, List.map_cons, List.map_nil, h1.1, h1.2]
end Go.Proofs.Ytkjfpdfkcfgfkaa

/- Parts of the statements without the document's answer: a table by raw numbers. -/
namespace Go.Proofs.Ytkjfpdfkcfgfkaa
open Go.RowKit

def addVar (n : Nat) (acc : List Int) (c : Int) : List Int := if acc.any (fun x => x == pickOf c n) then acc else acc ++ [pickOf c n]
def varsTo (rv : List Int) (n k : Nat) : List Int := (rv.take k).foldl (addVar n) []
def tVars (rv : List Int) (n : Nat) : List Int := if varsTo rv n 4 = [] then [0] else varsTo rv n 4
def rowOf (vars zs es : List Int) (at_ m : Nat) : List Int := (List.range m).map (fun i => pickOf (es.getD (at_ + i) 0) (zs.getD (vars.getD i 0).toNat 0 + 1) - 1)
def rowsTo (vars zs es : List Int) (j : Nat) : List (List Int) := (List.range j).map (fun q => rowOf vars zs es (q * vars.length) vars.length)
def tRows (vars zs es : List Int) : List (List Int) := rowsTo vars zs es (min (es.length / vars.length) 20)
theorem varsTo_succ (rv : List Int) (n k : Nat) (hk : k < rv.length) : varsTo rv n (k + 1) = addVar n (varsTo rv n k) (rv.getD k 0) := by
  unfold varsTo
  rw [List.take_succ_eq_append_getElem hk, List.foldl_append]
  simp [List.getD, hk]
theorem addVar_len (n : Nat) (acc : List Int) (c : Int) : (addVar n acc c).length ≤ acc.length + 1 := by
  unfold addVar
  split <;> simp
theorem varsTo_len (rv : List Int) (n : Nat) : ∀ k, (varsTo rv n k).length ≤ k
  | 0 => by simp [varsTo]
  | k + 1 => by
    by_cases hk : k < rv.length
    · rw [varsTo_succ rv n k hk]
      have := addVar_len n (varsTo rv n k) (rv.getD k 0)
      have := varsTo_len rv n k
      omega
    · have h1 := varsTo_len rv n k
      have : varsTo rv n (k + 1) = varsTo rv n k := by
        unfold varsTo
        rw [List.take_of_length_le (by omega), List.take_of_length_le (by omega)]
      rw [this]
      omega
theorem varsTo_in (rv : List Int) (n : Nat) (hn : 0 < n) : ∀ k, ∀ x ∈ varsTo rv n k, 0 ≤ x ∧ x < n
  | 0 => by simp [varsTo]
  | k + 1 => by
    intro x hx
    by_cases hk : k < rv.length
    · rw [varsTo_succ rv n k hk] at hx
      unfold addVar at hx
      split at hx
      · exact varsTo_in rv n hn k x hx
      · rcases List.mem_append.1 hx with h | h
        · exact varsTo_in rv n hn k x h
        · simp at h
          subst h
          exact pickOf_range _ _ (by omega)
    · have e : varsTo rv n (k + 1) = varsTo rv n k := by
        unfold varsTo
        rw [List.take_of_length_le (by omega), List.take_of_length_le (by omega)]
      rw [e] at hx
      exact varsTo_in rv n hn k x hx
/-- Is one of the first k numbers v? -/
def anyTo (l : List Int) (v : Int) (k : Nat) : Bool := (l.take k).any (fun x => x == v)
theorem anyTo_succ (l : List Int) (v : Int) (k : Nat) (hk : k < l.length) : anyTo l v (k + 1) = (anyTo l v k || l.getD k 0 == v) := by
  unfold anyTo
  rw [List.take_succ_eq_append_getElem hk, List.any_append]
  simp [List.getD, hk]
theorem tVars_ok (rv : List Int) (n : Nat) (hn : 0 < n) : 1 ≤ (tVars rv n).length ∧ (tVars rv n).length ≤ 4 ∧ ∀ x ∈ tVars rv n, 0 ≤ x ∧ x < n := by
  unfold tVars
  split
  · exact ⟨Nat.le_refl _, by decide, fun x hx => by simp at hx; omega⟩
  · rename_i h
    refine ⟨?_, varsTo_len rv n 4, varsTo_in rv n hn 4⟩
    cases h2 : varsTo rv n 4 with
    | nil => exact absurd h2 h
    | cons x r => simp
theorem rowsTo_len (vars zs es : List Int) (j : Nat) : (rowsTo vars zs es j).length = j := by simp [rowsTo]
theorem rowsTo_succ (vars zs es : List Int) (j : Nat) : rowsTo vars zs es (j + 1) = rowsTo vars zs es j ++ [rowOf vars zs es (j * vars.length) vars.length] := by simp [rowsTo, List.range_succ]
theorem rowOf_succ (vars zs es : List Int) (a i : Nat) : rowOf vars zs es a (i + 1) = rowOf vars zs es a i ++ [pickOf (es.getD (a + i) 0) (zs.getD (vars.getD i 0).toNat 0 + 1) - 1] := by simp [rowOf, List.range_succ]
theorem rowOf_len (vars zs es : List Int) (a i : Nat) : (rowOf vars zs es a i).length = i := by simp [rowOf]
/-- Rows of a call's own. -/
structure RowsOwn (W w : World) (v : Value) (rl : List Value) (rows : List (List Int)) : Prop where
  own : Own W w v 22 rl
  len : rl.length = rows.length
  each : ∀ i, i < rows.length → Own W w (rl.getD i undef) 3 ((rows.getD i []).map (Value.int .i64))
theorem RowsOwn.fr {W w w2 : World} {v : Value} {rl : List Value} {rows : List (List Int)} {S : Nat → Prop} (h : RowsOwn W w v rl rows) (f : Fr S w w2) (hs : ∀ k, S k → W.heap.size ≤ k) (hn : ∀ k cur e, S k → Blk w k cur e → e ≠ 3 ∧ e ≠ 22) : RowsOwn W w2 v rl rows :=
  ⟨h.own.fr f (fun k hk hS => by
    obtain ⟨cur, hb, _⟩ := h.own.row.blk hk
    exact (hn k cur _ hS hb).2 rfl) hs, h.len, fun i hi => (h.each i hi).fr f (fun k hk hS => by
    obtain ⟨cur, hb, _⟩ := (h.each i hi).row.blk hk
    exact (hn k cur _ hS hb).1 rfl) hs⟩
theorem Own.lower {w0 W w : World} {v : Value} {e : TypeId} {xs : List Value} (h : Own W w v e xs) (f : Nw w0 W) : Own w0 w v e xs := ⟨h.row, f.trans h.nw (fun _ x => x.elim), fun q hq => Nat.le_trans f.size (h.since q hq)⟩
theorem RowsOwn.lower {w0 W w : World} {v : Value} {rl : List Value} {rows : List (List Int)} (h : RowsOwn W w v rl rows) (f : Nw w0 W) : RowsOwn w0 w v rl rows := ⟨h.own.lower f, h.len, fun i hi => (h.each i hi).lower f⟩

noncomputable def tblReg : Array Oper := regOps Try.f35 23
def tblEv (x y : Value) : Operand → Value
  | .tmp 95 => x
  | .tmp _ => y
  | _ => undef
/-- Rows in memory. -/
structure RowsT (w : World) (v : Value) (rl : List Value) (rows : List (List Int)) : Prop where
  row : Row w v 22 rl
  len : rl.length = rows.length
  each : ∀ i, i < rows.length → Row w (rl.getD i undef) 3 ((rows.getD i []).map (Value.int .i64))
theorem RowsOwn.toT {W w : World} {v : Value} {rl : List Value} {rows : List (List Int)} (h : RowsOwn W w v rl rows) : RowsT w v rl rows := ⟨h.own.row, h.len, fun i hi => (h.each i hi).row⟩
theorem RowsT.rows {w : World} {ao : Option Addr} {n cap : Nat} {rl : List Value} {rows : List (List Int)} (h : RowsT w (.slice ao n cap) rl rows) : RowsAt w ao rows := by
  intro i hi
  obtain ⟨g, c, he, hb, hc, _⟩ := h.row.cell i (by rw [h.len]; exact hi)
  obtain ⟨ro, rc, hf, _⟩ := (h.each i hi).form
  simp only [List.length_map] at hf
  have h1 : rl[i]'(by rw [h.len]; exact hi) = .slice ro (rows.getD i []).length rc := by
    rw [← hf]
    simp [List.getD, h.len, hi]
  rw [h1] at hc
  simp only [Value.slice.injEq] at he
  obtain ⟨rfl, _⟩ := he
  refine ⟨g, 0, ro, rc, rfl, h.row.lt hb, by simpa using hc, ?_⟩
  have h2 := h.each i hi
  rw [hf] at h2
  exact h2.ints'
/-- A table's value in memory. -/
structure TblAt (w : World) (tv : Value) (vars : List Int) (rows : List (List Int)) (nt : Bool) (way : Int) : Prop where
  form : ∃ vo vcap ro rcap rl, tv = .agg #[.slice vo vars.length vcap, .slice ro rows.length rcap, .bool nt, .int .i64 way] ∧ Row w (.slice vo vars.length vcap) 3 (vars.map (Value.int .i64)) ∧ RowsT w (.slice ro rows.length rcap) rl rows
theorem TblAt.fr {S : Nat → Prop} {w w' : World} {tv : Value} {vars : List Int} {rows : List (List Int)} {nt : Bool} {way : Int} (h : TblAt w tv vars rows nt way) (f : Fr S w w') (hn : ∀ k cur e, S k → Blk w k cur e → e ≠ 3 ∧ e ≠ 22) : TblAt w' tv vars rows nt way := by
  obtain ⟨vo, vcap, ro, rcap, rl, h1, h2, h3⟩ := h.form
  have key : ∀ (v : Value) (xs : List Value) (e : TypeId), e = 3 ∨ e = 22 → Row w v e xs → Row w' v e xs := fun v xs e he hr => hr.fr f (fun k hk hS => by
    obtain ⟨cur, hb, _⟩ := hr.blk hk
    rcases he with rfl | rfl
    · exact (hn k cur _ hS hb).1 rfl
    · exact (hn k cur _ hS hb).2 rfl)
  exact ⟨vo, vcap, ro, rcap, rl, h1, key _ _ _ (.inl rfl) h2, ⟨key _ _ _ (.inr rfl) h3.row, h3.len, fun i hi => key _ _ _ (.inl rfl) (h3.each i hi)⟩⟩
theorem TblAt.nw {w w' : World} {tv : Value} {vars : List Int} {rows : List (List Int)} {nt : Bool} {way : Int} (h : TblAt w tv vars rows nt way) (f : Nw w w') : TblAt w' tv vars rows nt way := h.fr f (fun _ _ _ h => h.elim)
/-- What Post asks of a table. -/
theorem TblAt.parts {w : World} {tv : Value} {vars : List Int} {rows : List (List Int)} {nt : Bool} {way : Int} (h : TblAt w tv vars rows nt way) : ∃ vo vcap ro rcap, tv = .agg #[.slice vo vars.length vcap, .slice ro rows.length rcap, .bool nt, .int .i64 way] ∧ vars.length ≤ vcap ∧ IntsAt w vo vars ∧ RowsAt w ro rows := by
  obtain ⟨vo, vcap, ro, rcap, rl, h1, h2, h3⟩ := h.form
  have hc := h2.capG
  rw [List.length_map] at hc
  exact ⟨vo, vcap, ro, rcap, h1, hc, h2.ints', h3.rows⟩

set_option maxHeartbeats 1600000 in
set_option maxRecDepth 1000000 in
theorem table_any (rvo reo so : Option Addr) (rvc rec sc : Nat) (rv es zs : List Int) (nt : Bool) (way : Int) (w : World) (hz : 1 ≤ zs.length ∧ zs.length ≤ 8) (hzs : ∀ i, i < zs.length → 1 ≤ zs.getD i 0 ∧ zs.getD i 0 ≤ 6)
    (hl1 : rv.length * 8 ≤ 140737488355328) (hl2 : es.length * 8 ≤ 140737488355328) (hr1 : IntsAt w rvo rv) (hr2 : IntsAt w reo es) (hr3 : IntsAt w so zs) (hi1 : ∀ c ∈ rv, In64 c) (hi2 : ∀ c ∈ es, In64 c) (hi3 : In64 way) :
    Calls Try.prog 35 #[.agg #[.slice rvo rv.length rvc, .slice reo es.length rec, .bool nt, .int .i64 way], .slice so zs.length sc] w fun e w' => ∃ tv, e = .returned tv ∧ Nw w w' ∧
      TblAt w' tv (tVars rv zs.length) (tRows (tVars rv zs.length) zs es) nt (1 + pickOf way 2) := by
  obtain ⟨i0, hi0, hz0, hz1, hz2⟩ := info_parts Try.infoInt
  obtain ⟨i1, hi1', hz1a, hz1b, hz1c⟩ := info_parts Try.infoInts
  have hpw := pickOf_range way 2 (by omega)
  obtain ⟨pw, hpw2⟩ : ∃ pw, pickOf way 2 = pw := ⟨_, rfl⟩
  have Hpw := hd hpw2
  rw [hpw2] at hpw
  obtain ⟨B, hB⟩ : ∃ B, B = w.heap.size := ⟨_, rfl⟩
  obtain ⟨W, hW⟩ : ∃ W, W = (w.alloc (.cells #[.slice rvo rv.length rvc, .slice reo es.length rec, .bool nt, .int .i64 way] 73)).alloc (.cells #[.slice none 0 0, .slice none 0 0, .bool false, .int .i64 0] 58) := ⟨_, rfl⟩
  have hfW : Nw w W := by rw [hW]; exact ((Fr.refl _ w).alloc _).alloc _
  have hbB : Blk W B #[.slice rvo rv.length rvc, .slice reo es.length rec, .bool nt, .int .i64 way] 73 := by rw [hW, hB]; exact (Blk.new _ _ _).alloc _
  have hbR : Blk W (B + 1) #[.slice none 0 0, .slice none 0 0, .bool false, .int .i64 0] 58 := by
    rw [hW, hB]
    have := Blk.new (w.alloc (.cells #[.slice rvo rv.length rvc, .slice reo es.length rec, .bool nt, .int .i64 way] 73)) #[.slice none 0 0, .slice none 0 0, .bool false, .int .i64 0] 58
    simpa using this
  have hc0 : W.cell? ⟨B, 0, none⟩ = some (.slice rvo rv.length rvc) := hbB.cell 0
  have hc2 : W.cell? ⟨B, 2, none⟩ = some (.bool nt) := hbB.cell 2
  have hc3 : W.cell? ⟨B, 3, none⟩ = some (.int .i64 way) := hbB.cell 3
  go_enter Try.func35, Try.ntmps35
  go_upto_region 1 with fail
  rw [← hW, ← hB]
  have Hwr : Hid (IntKind.i64.wrap (1 + pw) = 1 + pw) := by
    have : pw = 0 ∨ pw = 1 := by omega
    rcases this with rfl | rfl <;> exact hd (by decide)
  have HB := hd hB
  have hBl := hbB.lt
  have hRl := hbR.lt
  clear hW hpw2 hB
  have Hr1 := hd (hr1.nw hfW)
  have Hr2 := hd (hr2.nw hfW)
  have Hr3 := hd (hr3.nw hfW)
  clear hr1 hr2 hr3
  go_cut [5] (fun p wx => ∃ T, p = .pointer (some ⟨T, 0, none⟩) ∧ Nw W wx ∧ Hid (Blk wx T #[.slice none 0 0, .slice none 0 0, .bool nt, .int .i64 (1 + pw)] 58) ∧ W.heap.size ≤ T)
  case first =>
    go_region_held3 (fun w' => w'.cell? ⟨B, 2, none⟩ = some (.bool nt) ∧ w'.cell? ⟨B, 3, none⟩ = some (.int .i64 way))
      (first | (go_keep; done))
      (first | (go_at_call 16; refine (pick_any way 2 hi3 (by omega) (by omega) _).mono ?_; rw [Hpw.out]; rintro e w' ⟨rfl, rfl⟩))
    all_goals
      go_wp2
      go_meet
      rw [Hwr.out]
      exact ⟨W.heap.size, rfl, ((Fr.refl _ W).alloc _).drew, (Blk.new _ _ _).drew, Nat.le_refl _⟩
  case rest =>
    obtain ⟨T, rfl, hfx, HT, hTW⟩ := hcut
    have HBW := hd hbB
    have HRW := hd hbR
    have hxl := hfx.size
    have HfW := hd hfW
    have Hfx := hd hfx
    clear hbB hbR hc0 hc2 hc3 hfW hfx
    go_upto_block 0 with fail
    go_cut [6, 7, 8, 9] (fun _ _ _ _ wx => ∃ (vv : Value), Hid (Own W wx vv 3 ((varsTo rv zs.length 4).map (Value.int .i64))) ∧ Hid (Blk wx T #[vv, .slice none 0 0, .bool nt, .int .i64 (1 + pw)] 58))
    case first =>
      go_wp2_with fail
      go_loopw [6, 7, 8, 9] (fun i _ _ _ wr => ∃ (q : Nat) (vv : Value), i = .int .i64 (q : Int) ∧ q ≤ rv.length ∧ q ≤ 4 ∧ Hid (Own W wr vv 3 ((varsTo rv zs.length q).map (Value.int .i64))) ∧ Hid (Blk wr T #[vv, .slice none 0 0, .bool nt, .int .i64 (1 + pw)] 58)) (fun i _ _ _ _ => 4 - (intOf i).toNat)
      case atStart => exact ⟨0, _, rfl, by omega, by omega, Own.nil' Hfx.out _, HT⟩
      case round =>
        obtain ⟨q, vv, rfl, hq1, hq2, HO, HTr⟩ := hrel
        obtain ⟨vo, vcap, hform, _⟩ := HO.out.row.form
        simp only [List.length_map] at hform
        subst hform
        have hvl := varsTo_len rv zs.length q
        have hcB0 : wr.cell? ⟨B, 0, none⟩ = some (.slice rvo rv.length rvc) := (HBW.out.nw HO.out.nw).cell 0
        have hcT0 : wr.cell? ⟨T, 0, none⟩ = some (.slice vo (varsTo rv zs.length q).length vcap) := HTr.out.cell 0
        have hTl := HTr.out.lt
        have hBl2 : B < wr.heap.size := (HBW.out.nw HO.out.nw).lt
        by_cases hlt : q < rv.length ∧ q < 4
        · obtain ⟨hlt1, hlt2⟩ := hlt
          obtain ⟨b, o, rfl, hbl, hc⟩ := (Hr1.out.nw HO.out.nw) q hlt1
          obtain ⟨c, hcv⟩ : ∃ c, rv.getD q 0 = c := ⟨_, rfl⟩
          rw [hcv] at hc
          have hcin : In64 c := hi1 c (by rw [← hcv]; simp [List.getD, hlt1])
          have hpr := pickOf_range c zs.length (by omega)
          have Hsucc := hd (varsTo_succ rv zs.length q hlt1)
          rw [hcv] at Hsucc
          obtain ⟨p, hp⟩ : ∃ p, pickOf c zs.length = p := ⟨_, rfl⟩
          have Hp := hd hp
          rw [hp] at hpr
          obtain ⟨vs, hvs⟩ : ∃ vs, varsTo rv zs.length q = vs := ⟨_, rfl⟩
          have Hvs := hd hvs
          rw [hvs] at HO HTr Hsucc hvl hcT0
          have hd1 : (q : Int) < (rv.length : Int) := by omega
          have hd2 : (q : Int) < 4 := by omega
          clear hcv hp hvs
          go_wp2_with (go_at_call 16; refine (pick_any c zs.length hcin (by omega) (by omega) _).mono ?_; rw [Hp.out]; rintro e w' ⟨rfl, rfl⟩)
          go_loopw [8, 9] (fun tw k w1 => w1 = w' ∧ ∃ j : Nat, j ≤ vs.length ∧ k = .int .i64 (j : Int) ∧ tw = .bool (anyTo vs p j)) (fun _ k _ => vs.length - (intOf k).toNat)
          case atStart => exact ⟨rfl, 0, by omega, rfl, rfl⟩
          case round =>
            obtain ⟨rfl, j, hj, rfl, rfl⟩ := hrel
            by_cases hjl : j < vs.length
            · have hdj : (j : Int) < (vs.length : Int) := by omega
              have Hany := hd (anyTo_succ vs p j hjl)
              obtain ⟨g, gcap, hgv, hgo, hgc, _⟩ := HO.out.row.cell j (by simpa using hjl)
              simp only [List.length_map, Value.slice.injEq] at hgv
              obtain ⟨rfl, _, rfl⟩ := hgv
              have hgl : g < wr.heap.size := HO.out.row.lt hgo
              simp only [List.getElem_map] at hgc
              have hgd : vs.getD j 0 = vs[j] := by simp [List.getD, hjl]
              obtain ⟨x, hx⟩ : ∃ x, vs[j] = x := ⟨_, rfl⟩
              rw [hx] at hgc hgd
              rw [hgd] at Hany
              clear hx hgd
              cases hany : anyTo vs p j with
              | true =>
                rw [hany] at Hany
                go_wp2_with fail
                refine ⟨⟨trivial, j + 1, by omega, by simp, ?_⟩, by simp [intOf]; omega⟩
                rw [Hany.out]; simp
              | false =>
                rw [hany] at Hany
                go_wp2_with fail
                refine ⟨⟨trivial, j + 1, by omega, by simp, ?_⟩, by simp [intOf]; omega⟩
                rw [Hany.out]; simp
            · obtain rfl : j = vs.length := by omega
              have hdj : ¬ ((vs.length : Int) < (vs.length : Int)) := by omega
              have hall : anyTo vs p vs.length = vs.any (fun x => x == p) := by simp [anyTo]
              have hadd : addVar zs.length vs c = if anyTo vs p vs.length then vs else vs ++ [p] := by
                rw [hall]
                unfold addVar
                rw [Hp.out]
              cases hany : anyTo vs p vs.length with
              | true =>
                rw [hany, if_pos rfl] at hadd
                have Hadd := hd hadd
                clear hadd hall
                go_wp2_with fail
                refine ⟨⟨q + 1, _, by simp, by omega, by omega, ?_, HTr⟩, by simp [intOf]; omega⟩
                rw [Hsucc.out, Hadd.out]
                exact HO
              | false =>
                rw [hany, if_neg (by simp)] at hadd
                have Hadd := hd hadd
                clear hadd hall
                have HneT : Hid (¬ (Value.slice vo vs.length vcap).ownBlock = some T) := fun h => HO.out.row.ne HTr.out (by decide) h
                have HO2 : Hid (Row wr (.slice vo (vs.map (Value.int .i64)).length vcap) 3 (vs.map (Value.int .i64))) := by rw [List.length_map]; exact HO.out.row
                obtain ⟨xs, hxs⟩ : ∃ xs, vs.map (Value.int .i64) = xs := ⟨_, rfl⟩
                have hxl : xs.length = vs.length := by rw [← hxs, List.length_map]
                have Hxs := hd hxs
                rw [hxs, hxl] at HO2
                clear hxs
                go_wp2_with (at_builtin; refine wpList_append_own_at _ rfl _ _ 22 rfl 0 3 i0 (.int .i64 0) 1 8 Try.underlying22 hi0 hz0 hz1 hz2 rfl (by decide) _ _ _ rfl (Row.alloc HO2.out _) ⟨_, 0, none⟩ 1 1 [.int .i64 p] rfl rfl (cell_one_new _ _ _) (by simp [Value.oneCell']) (by unfold maxLen; omega) (by omega) (Nat.zero_le _) ?_; intro v' w2 hown' hgrow _ hat; obtain ⟨g', cap', rfl, hr3, hf3, ha3, hlt3⟩ := app1 hown' hgrow hat; have hT2 := HTr.out.fr hf3 (fun h => HneT.out h); have hcT2 : w2.cell? ⟨T, 0, none⟩ = some (.slice vo vs.length vcap) := hT2.cell 0; have hfT2 := hT2.free 0; have hlT2 := hT2.lt)
                have hs3 := hf3.size
                refine ⟨⟨q + 1, _, by simp, by omega, by omega, ?_, hT2.set 0 _⟩, by simp [intOf]; omega⟩
                rw [hxl] at hr3
                have hO3 := HO.out.more (g := g') hr3 hf3 rfl (ha3.imp (fun h => h) (fun h => by omega))
                rw [Hsucc.out, Hadd.out, List.map_append, Hxs.out]
                exact hO3.fr ((Fr.refl (fun k => k = T) _).setCell ⟨T, 0, none⟩ _ (.inl rfl)) (fun k hk e => by subst e; exact hO3.row.ne hT2 (by decide) hk) (fun k hk => by omega)
        · have hq4 : varsTo rv zs.length q = varsTo rv zs.length 4 := by
            unfold varsTo
            by_cases h4 : q = 4
            · rw [h4]
            · rw [List.take_of_length_le (by omega), List.take_of_length_le (by omega)]
          rw [hq4] at HO HTr hcT0
          clear hq4 hvl
          by_cases h1 : q < rv.length
          · have hd1 : (q : Int) < (rv.length : Int) := by omega
            have hd2 : ¬ ((q : Int) < 4) := by omega
            go_wp2_with fail
            go_meet
            exact ⟨_, HO, HTr⟩
          · have hd1 : ¬ ((q : Int) < (rv.length : Int)) := by omega
            go_wp2_with fail
            go_meet
            exact ⟨_, HO, HTr⟩
    case rest =>
      obtain ⟨vv, HO, HTr⟩ := hcut
      obtain ⟨vo, vcap, hform, _⟩ := HO.out.row.form
      simp only [List.length_map] at hform
      subst hform
      have hvl := varsTo_len rv zs.length 4
      have hvin := varsTo_in rv zs.length (by omega) 4
      obtain ⟨vs, hvs⟩ : ∃ vs, varsTo rv zs.length 4 = vs := ⟨_, rfl⟩
      have htv : tVars rv zs.length = if vs = [] then [0] else vs := by rw [← hvs]; rfl
      rw [hvs] at HO HTr hvl hvin
      have hcT0 : wc.cell? ⟨T, 0, none⟩ = some (.slice vo vs.length vcap) := HTr.out.cell 0
      have hfT0 := HTr.out.free 0
      have hTl := HTr.out.lt
      have Htv := hd htv
      clear hvs htv
      go_upto_if 68 with fail
      go_cut [] (fun wx => ∃ (vv : Value), Hid (Own W wx vv 3 ((tVars rv zs.length).map (Value.int .i64))) ∧ Hid (Blk wx T #[vv, .slice none 0 0, .bool nt, .int .i64 (1 + pw)] 58))
      case first =>
        by_cases hv0 : vs = []
        · subst hv0
          go_wp2_with fail
          go_meet
          refine ⟨_, ?_, (HTr.out.set 0 _).alloc _⟩
          rw [Htv.out]
          have hm := Row.made (wc.setCell ⟨T, 0, none⟩ (.slice (some ⟨wc.heap.size, 0, none⟩) 1 1)) 3 [.int .i64 0] (by decide)
          rw [show (wc.setCell ⟨T, 0, none⟩ (.slice (some ⟨wc.heap.size, 0, none⟩) 1 1)).heap.size = wc.heap.size by simp [World.setCell]] at hm
          exact ⟨hm, (HO.out.nw.setCell ⟨T, 0, none⟩ _ (.inr hTW)).alloc _, fun q hq => by cases hq; exact HO.out.nw.size⟩
        · have hvn : ((vs.length : Int) == 0) = false := by
            cases vs with
            | nil => exact absurd rfl hv0
            | cons x r => simp; omega
          rw [if_neg hv0] at Htv
          go_wp2_with fail
          go_meet
          refine ⟨_, ?_, HTr⟩
          rw [Htv.out]
          exact HO
      case rest =>
        obtain ⟨vv, HO, HTr⟩ := hcut
        clear HT Hfx hxl
        obtain ⟨hv1, hv4, hvin⟩ := tVars_ok rv zs.length (by omega)
        obtain ⟨vs, hvs⟩ : ∃ vs, tVars rv zs.length = vs := ⟨_, rfl⟩
        obtain ⟨vo, vcap, hform, _⟩ := HO.out.row.form
        simp only [List.length_map] at hform
        subst hform
        rw [hvs] at HO HTr hv1 hv4 hvin
        have Hvs := hd hvs
        have hcT0 : wc.cell? ⟨T, 0, none⟩ = some (.slice vo vs.length vcap) := HTr.out.cell 0
        have hTl := HTr.out.lt
        clear hvs
        go_wp2_with fail
        go_loopw [11, 12, 13] (fun a _ _ wr => ∃ (j : Nat) (rvv : Value) (rl : List Value), a = .int .i64 ((j * vs.length : Nat) : Int) ∧ j ≤ 20 ∧ j * vs.length ≤ es.length ∧ Hid (RowsOwn W wr rvv rl (rowsTo vs zs es j)) ∧ Hid (Own W wr (.slice vo vs.length vcap) 3 (vs.map (Value.int .i64))) ∧
          Hid (Blk wr T #[.slice vo vs.length vcap, rvv, .bool nt, .int .i64 (1 + pw)] 58)) (fun a _ _ _ => es.length - (intOf a).toNat)
        case atStart => exact ⟨0, _, [], by simp, by omega, by omega, ⟨Own.nil' HO.out.nw _, rfl, fun i hi => absurd hi (Nat.not_lt_zero _)⟩, HO, HTr⟩
        case round =>
          obtain ⟨j, rvv, rl, rfl, hj20, hje, HRo, HO, HTr⟩ := hrel
          obtain ⟨ro, rcap, hform, _⟩ := HRo.out.own.row.form
          have hrlen : rl.length = j := by rw [HRo.out.len, rowsTo_len]
          rw [hrlen] at hform
          subst hform
          have hcT0 : wr.cell? ⟨T, 0, none⟩ = some (.slice vo vs.length vcap) := HTr.out.cell 0
          have hcT1 : wr.cell? ⟨T, 1, none⟩ = some (.slice ro j rcap) := HTr.out.cell 1
          have hTl := HTr.out.lt
          have hcB1 : wr.cell? ⟨B, 1, none⟩ = some (.slice reo es.length rec) := (HBW.out.nw HO.out.nw).cell 1
          have hBl2 : B < wr.heap.size := (HBW.out.nw HO.out.nw).lt
          have hjn : j * vs.length ≤ 80 := Nat.le_trans (Nat.mul_le_mul hj20 hv4) (by decide)
          obtain ⟨a0, ha0⟩ : ∃ a0, j * vs.length = a0 := ⟨_, rfl⟩
          rw [ha0] at hje hjn ⊢
          have Ha0 := hd ha0
          clear ha0
          by_cases hlt : a0 + vs.length ≤ es.length ∧ j < 20
          · obtain ⟨hlt1, hlt2⟩ := hlt
            have hd1 : (a0 : Int) + (vs.length : Int) ≤ (es.length : Int) := by omega
            have hd2 : (j : Int) < 20 := by omega
            go_wp2_with fail
            have Hsuc := hd (rowsTo_succ vs zs es j)
            rw [Ha0.out] at Hsuc
            go_loopw [12, 13] (fun l i w1 => ∃ q : Nat, i = .int .i64 (q : Int) ∧ q ≤ vs.length ∧ Hid (Own wr w1 l 3 ((rowOf vs zs es a0 q).map (Value.int .i64)))) (fun _ i _ => vs.length - (intOf i).toNat)
            case atStart => exact ⟨0, rfl, by omega, Own.nil _ _⟩
            case round =>
              rename World => w1
              obtain ⟨i, rfl, hin, HL⟩ := hrel
              obtain ⟨lo, lcap, hform, _⟩ := HL.out.row.form
              rw [List.length_map, rowOf_len] at hform
              subst hform
              by_cases hil : i < vs.length
              · have hdi : (i : Int) < (vs.length : Int) := by omega
                obtain ⟨eb, eo, hre, hebl, hec⟩ := (Hr2.out.nw HO.out.nw) (a0 + i) (by omega)
                obtain ⟨vg, vg2, hvf, hvgo, hvc, _⟩ := HO.out.row.cell i (by simpa using hil)
                simp only [List.length_map, Value.slice.injEq] at hvf
                obtain ⟨hvf, _, rfl⟩ := hvf
                have hvgl := HO.out.row.lt hvgo
                have hvmem := hvin vs[i] (List.getElem_mem hil)
                have hvgd : vs.getD i 0 = vs[i] := by simp [List.getD, hil]
                obtain ⟨u, hu⟩ : ∃ u : Nat, vs[i] = (u : Int) := ⟨vs[i].toNat, by omega⟩
                simp only [List.getElem_map] at hvc
                rw [hu] at hvc hvmem hvgd
                have huz : u < zs.length := by omega
                obtain ⟨zb, zo, hze, hzbl, hzc⟩ := (Hr3.out.nw HO.out.nw) u huz
                have hzr := hzs u huz
                obtain ⟨z, hzv⟩ : ∃ z, zs.getD u 0 = z := ⟨_, rfl⟩
                obtain ⟨c, hcv⟩ : ∃ c, es.getD (a0 + i) 0 = c := ⟨_, rfl⟩
                have hcin : In64 c := hi2 c (by rw [← hcv]; simp [List.getD, show a0 + i < es.length by omega])
                have hsucc := rowOf_succ vs zs es a0 i
                rw [hvgd, Int.toNat_natCast, hzv, hcv] at hsucc
                rw [hzv] at hzc hzr
                rw [hcv] at hec
                have hpr := pickOf_range c (z + 1) (by omega)
                obtain ⟨p, hp⟩ : ∃ p, pickOf c (z + 1) = p := ⟨_, rfl⟩
                rw [hp] at hsucc hpr
                have Hsucc := hd hsucc
                have Hp := hd hp
                obtain ⟨xs, hxs⟩ : ∃ xs, (rowOf vs zs es a0 i).map (Value.int .i64) = xs := ⟨_, rfl⟩
                have hxl : xs.length = i := by rw [← hxs, List.length_map, rowOf_len]
                have Hxs := hd hxs
                rw [hxs] at HL
                subst hre
                subst hvf
                subst hze
                clear hsucc hp hxs hvgd hu hzv hcv hvmem
                have hvc0 : wr.cell? ⟨vg, 0 + i, none⟩ = some (.int .i64 (u : Int)) := by rw [Nat.zero_add]; exact hvc
                go_upto_region 23 with fail
                have hK0 : Nw wr w1.drew := HL.out.nw.drew
                refine region_H tblReg 22 (fun w'' => Nw wr w'') (by kernel_rfl) (by kernel_rfl) (by kernel_rfl) ?_
                refine take_at (i := 0) (d := some 95) (v := .slice lo i lcap) (by kernel_rfl) (by kernel_rfl) (fun _ _ _ h => h) (fun w'' hS => by kernel_rfl) hK0 ?_
                refine take_at (i := 1) (d := some 96) (v := .pointer (some ⟨B, 1, none⟩)) (by kernel_rfl) (by kernel_rfl) (fun _ _ _ h => h) (fun w'' hS => by kernel_rfl) hK0 ?_
                refine take_at (i := 2) (d := some 97) (v := .slice (some ⟨eb, eo, none⟩) es.length rec) (by kernel_rfl) (by kernel_rfl) (fun _ _ _ h => h) (fun w'' hS => exec_load 22 (.tmp 96) (by kernel_rfl) (by kernel_rfl) (by kernel_rfl) ((hS.cell hBl2 (fun x => x)).trans hcB1)) hK0 ?_
                refine take_at (i := 3) (d := some 98) (v := .int .i64 (a0 : Int)) (by kernel_rfl) (by kernel_rfl) (fun _ _ _ h => h) (fun w'' hS => by kernel_rfl) hK0 ?_
                refine take_at (i := 4) (d := some 99) (v := .int .i64 (i : Int)) (by kernel_rfl) (by kernel_rfl) (fun _ _ _ h => h) (fun w'' hS => by kernel_rfl) hK0 ?_
                refine take_at (i := 5) (d := some 100) (v := .int .i64 ((a0 + i : Nat) : Int)) (by kernel_rfl) (by kernel_rfl) (fun _ _ _ h => h) (fun w'' hS => exec_add (a0 : Int) (i : Int) _ (.tmp 98) (.tmp 99) (by kernel_rfl) (by kernel_rfl) (by kernel_rfl) (by omega) (by omega)) hK0 ?_
                refine take_at (i := 6) (d := some 101) (v := .pointer (some ⟨eb, eo + (a0 + i), none⟩)) (by kernel_rfl) (by kernel_rfl) (fun _ _ _ h => h) (fun w'' hS => exec_index (i := a0 + i) (n := es.length) (cap := rec) 22 3 (.tmp 97) (.tmp 100) (by kernel_rfl) (by kernel_rfl) (by kernel_rfl) (by omega) (by kernel_rfl) (by kernel_rfl)) hK0 ?_
                refine take_at (i := 7) (d := some 102) (v := .int .i64 c) (by kernel_rfl) (by kernel_rfl) (fun _ _ _ h => h) (fun w'' hS => exec_load 3 (.tmp 101) (by kernel_rfl) (by kernel_rfl) (by kernel_rfl) ((hS.cell hebl (fun x => x)).trans hec)) hK0 ?_
                refine take_at (i := 8) (d := some 103) (v := .slice (some ⟨zb, zo, none⟩) zs.length sc) (by kernel_rfl) (by kernel_rfl) (fun _ _ _ h => h) (fun w'' hS => by kernel_rfl) hK0 ?_
                refine take_at (i := 9) (d := some 104) (v := .pointer (some ⟨T, 0, none⟩)) (by kernel_rfl) (by kernel_rfl) (fun _ _ _ h => h) (fun w'' hS => by kernel_rfl) hK0 ?_
                refine take_at (i := 10) (d := some 105) (v := .slice (some ⟨vg, 0, none⟩) vs.length vcap) (by kernel_rfl) (by kernel_rfl) (fun _ _ _ h => h) (fun w'' hS => exec_load 22 (.tmp 104) (by kernel_rfl) (by kernel_rfl) (by kernel_rfl) ((hS.cell hTl (fun x => x)).trans hcT0)) hK0 ?_
                refine take_at (i := 11) (d := some 106) (v := .int .i64 (i : Int)) (by kernel_rfl) (by kernel_rfl) (fun _ _ _ h => h) (fun w'' hS => by kernel_rfl) hK0 ?_
                refine take_at (i := 12) (d := some 107) (v := .pointer (some ⟨vg, 0 + i, none⟩)) (by kernel_rfl) (by kernel_rfl) (fun _ _ _ h => h) (fun w'' hS => exec_index (i := i) (n := vs.length) (cap := vcap) 22 3 (.tmp 105) (.tmp 106) (by kernel_rfl) (by kernel_rfl) (by kernel_rfl) (by omega) (by kernel_rfl) (by kernel_rfl)) hK0 ?_
                refine take_at (i := 13) (d := some 108) (v := .int .i64 (u : Int)) (by kernel_rfl) (by kernel_rfl) (fun _ _ _ h => h) (fun w'' hS => exec_load 3 (.tmp 107) (by kernel_rfl) (by kernel_rfl) (by kernel_rfl) ((hS.cell hvgl (fun x => x)).trans hvc0)) hK0 ?_
                refine take_at (i := 14) (d := some 109) (v := .pointer (some ⟨zb, zo + u, none⟩)) (by kernel_rfl) (by kernel_rfl) (fun _ _ _ h => h) (fun w'' hS => exec_index (i := u) (n := zs.length) (cap := sc) 22 3 (.tmp 103) (.tmp 108) (by kernel_rfl) (by kernel_rfl) (by kernel_rfl) (by omega) (by kernel_rfl) (by kernel_rfl)) hK0 ?_
                refine take_at (i := 15) (d := some 110) (v := .int .i64 z) (by kernel_rfl) (by kernel_rfl) (fun _ _ _ h => h) (fun w'' hS => exec_load 3 (.tmp 109) (by kernel_rfl) (by kernel_rfl) (by kernel_rfl) ((hS.cell hzbl (fun x => x)).trans hzc)) hK0 ?_
                refine take_at (i := 16) (d := some 111) (v := .int .i64 (z + 1)) (by kernel_rfl) (by kernel_rfl) (fun _ _ _ h => h) (fun w'' hS => exec_add z 1 _ (.tmp 110) (.const (.int .i64 1)) (by kernel_rfl) (by kernel_rfl) (by kernel_rfl) (by omega) (by omega)) hK0 ?_
                refine enter_at (i := 17) (d := some 112) (f := 16) (args := #[.int .i64 c, .int .i64 (z + 1)]) (w' := w1.drew) (by kernel_rfl) (by kernel_rfl) (by kernel_rfl) ?_
                refine (pick_any c (z + 1) hcin (by omega) (by omega) _).mono ?_
                rw [Hp.out]
                rintro e w2 ⟨rfl, rfl⟩
                refine ⟨_, rfl, hK0, ?_⟩
                refine take_at (i := 18) (d := some 113) (v := .int .i64 (p - 1)) (by kernel_rfl) (by kernel_rfl) (fun _ _ _ h => h) (fun w'' hS => exec_sub p 1 _ (.tmp 112) (.const (.int .i64 1)) (by kernel_rfl) (by kernel_rfl) (by kernel_rfl) (by omega) (by omega)) hK0 ?_
                refine value_at (i := 19) (d := some 114) (v := .slice (some ⟨w1.heap.size, 0, none⟩) 1 1) (w' := w1.drew.alloc (.cells #[.int .i64 (p - 1)] 3)) (by kernel_rfl) (by kernel_rfl) (by kernel_rfl) (hK0.alloc _) ?_
                have hrA : Row (w1.drew.alloc (.cells #[.int .i64 (p - 1)] 3)) (.slice lo i lcap) 3 xs := (HL.out.row.drew).alloc _
                obtain ⟨v', w3, hrun, hA1, hA2, hA3⟩ := exec_append1 (c := 1) (ev := tblEv (.slice lo i lcap) (.slice (some ⟨w1.heap.size, 0, none⟩) 1 1)) (o := opAt tblReg 20) (w := w1.drew.alloc (.cells #[.int .i64 (p - 1)] 3)) 8 (.tmp 95) (.tmp 114) 22 (by kernel_rfl) (by kernel_rfl) (by kernel_rfl) Try.underlying22 hi0 hz0 hz1 hz2 rfl hrA (cell_one_new w1.drew (.int .i64 (p - 1)) 3 0 _ rfl) rfl (by unfold maxLen; omega) (by omega)
                obtain ⟨g', cap', rfl, hr3, hf3, ha3, hlt3⟩ := app1' hA1 hA2 hA3
                have hL3 := (HL.out.step (((Fr.refl _ w1).drew).alloc _)).more (g := g') hr3 hf3 rfl ha3
                refine value_at (i := 20) (d := some 115) (v := .slice (some ⟨g', 0, none⟩) (xs.length + 1) cap') (w' := w3) (by kernel_rfl) (by kernel_rfl) (Eq.trans (exec_same (s := .tmp 95) (y := .tmp 114) (t := 22) (by kernel_rfl) (by kernel_rfl)) hrun) hL3.nw ?_
                refine value_at (i := 21) (d := some 12) (v := .slice (some ⟨g', 0, none⟩) (xs.length + 1) cap') (w' := w3) (by kernel_rfl) (by kernel_rfl) (by kernel_rfl) hL3.nw ?_
                refine wpAnyH_done (by kernel_rfl) ?_ _
                simp only [Act.put, List.setIfInBounds_toArray, List.set_cons_zero, List.set_cons_succ]
                go_wp2_with fail
                refine ⟨⟨i + 1, by simp, by omega, ?_⟩, by simp [intOf]; omega⟩
                rw [Hsucc.out, List.map_append, Hxs.out]
                exact hL3
              · obtain rfl : i = vs.length := by omega
                have hdi : ¬ ((vs.length : Int) < (vs.length : Int)) := by omega
                have hs1 := HL.out.nw.size
                have hT1 := HTr.out.nw HL.out.nw
                have hcT1' : w1.cell? ⟨T, 1, none⟩ = some (.slice ro j rcap) := hT1.cell 1
                have hTl1 := hT1.lt
                have hRo1 : RowsOwn W w1 (.slice ro j rcap) rl (rowsTo vs zs es j) := ⟨HRo.out.own.step HL.out.nw, HRo.out.len, fun i hi => (HRo.out.each i hi).step HL.out.nw⟩
                have HRo1 := hd hRo1
                have HT1 := hd hT1
                have hneT : ¬ (Value.slice ro j rcap).ownBlock = some T := fun h => hRo1.own.row.ne hT1 (by decide) h
                have HneT := hd hneT
                clear hT1 hRo1 hneT hcT1
                go_wp2_with (at_builtin; refine wpList_append_own_at _ rfl _ _ 25 rfl 0 22 i1 (.slice none 0 0) 1 24 Try.underlying25 hi1' hz1a hz1b hz1c rfl (by decide) _ _ _ rfl (Row.alloc HRo1.out.own.row _) ⟨_, 0, none⟩ 1 1 [.slice lo vs.length lcap] rfl rfl (cell_one_new _ _ _) (by simp [Value.oneCell']) (by unfold maxLen; omega) (by omega) (Nat.zero_le _) ?_; intro v' w2 hown' hgrow _ hat; obtain ⟨g', cap', rfl, hr3, hf3, ha3, hlt3⟩ := app1 hown' hgrow hat; have hT2 := HT1.out.fr hf3 (fun h => HneT.out h); have hcT2 : w2.cell? ⟨T, 1, none⟩ = some (.slice ro j rcap) := hT2.cell 1; have hfT2 := hT2.free 1; have hlT2 := hT2.lt)
                rw [hrlen] at hr3
                have hs3 := hf3.size
                have hjs : (j + 1) * vs.length = a0 + vs.length := by rw [Nat.add_mul, Nat.one_mul, Ha0.out]
                have hO4 := HRo1.out.own.more (g := g') hr3 hf3 rfl (ha3.imp (fun h => h) (fun h => by omega))
                have hneI : ∀ k cur, Blk w1 k cur 3 → ¬ (Value.slice ro j rcap).ownBlock = some k := fun k cur hb h => HRo1.out.own.row.ne hb (by decide) h
                have hsW : ∀ k, (Value.slice ro j rcap).ownBlock = some k → W.heap.size ≤ k := HRo1.out.own.since
                have hLW : Own W w1 (.slice lo vs.length lcap) 3 ((rowOf vs zs es a0 vs.length).map (Value.int .i64)) := ⟨HL.out.row, HO.out.nw.trans HL.out.nw (fun i h => h.elim), fun q hq => Nat.le_trans HO.out.nw.size (HL.out.since q hq)⟩
                have fI : ∀ (v : Value) (xs : List Value), Own W w1 v 3 xs → Own W w2 v 3 xs := fun v xs h => h.fr hf3 (fun k hk => by
                  obtain ⟨cur, hb, _⟩ := h.row.blk hk
                  exact hneI k cur hb) hsW
                have hRo4 : RowsOwn W w2 (.slice (some ⟨g', 0, none⟩) (j + 1) cap') (rl ++ [.slice lo vs.length lcap]) (rowsTo vs zs es (j + 1)) := by
                  refine ⟨hO4, by rw [List.length_append, hrlen, rowsTo_len]; rfl, fun i hi => ?_⟩
                  rw [rowsTo_len] at hi
                  rw [Hsuc.out]
                  by_cases hij : i < j
                  · have e1 : (rl ++ [Value.slice lo vs.length lcap]).getD i undef = rl.getD i undef := by simp only [List.getD]; rw [List.getElem?_append_left (by omega)]
                    have e2 : (rowsTo vs zs es j ++ [rowOf vs zs es a0 vs.length]).getD i [] = (rowsTo vs zs es j).getD i [] := by simp only [List.getD]; rw [List.getElem?_append_left (by rw [rowsTo_len]; exact hij)]
                    rw [e1, e2]
                    exact fI _ _ (HRo1.out.each i (by rw [rowsTo_len]; exact hij))
                  · obtain rfl : i = j := by omega
                    have e1 : (rl ++ [Value.slice lo vs.length lcap]).getD i undef = .slice lo vs.length lcap := by simp only [List.getD]; rw [List.getElem?_append_right (by omega), hrlen]; simp
                    have e2 : (rowsTo vs zs es i ++ [rowOf vs zs es a0 vs.length]).getD i [] = rowOf vs zs es a0 vs.length := by simp only [List.getD]; rw [List.getElem?_append_right (by rw [rowsTo_len]; omega), rowsTo_len]; simp
                    rw [e1, e2]
                    exact fI _ _ hLW
                have fT : Fr (fun k => k = T) w2 (w2.setCell ⟨T, 1, none⟩ (.slice (some ⟨g', 0, none⟩) (j + 1) cap')) := (Fr.refl _ w2).setCell _ _ (.inl rfl)
                have hTt : ∀ k cur e, k = T → Blk w2 k cur e → e ≠ 3 ∧ e ≠ 22 := fun k cur e hk hb => by
                  subst hk
                  rw [(hb.inj hT2).2]
                  decide
                refine ⟨⟨j + 1, _, _, by rw [hjs]; simp, by omega, by rw [hjs]; exact hlt1, hRo4.fr fT (fun k hk => by omega) hTt, ?_, hT2.set 1 _⟩, by simp [intOf]; omega⟩
                have hO5 := fI _ _ (HO.out.step HL.out.nw)
                exact hO5.fr fT (fun k hk e => by subst e; exact hO5.row.ne hT2 (by decide) hk) (fun k hk => by omega)
          · have hend : j = min (es.length / vs.length) 20 := by
              by_cases h20 : j < 20
              · have h1 : es.length < a0 + vs.length := by omega
                have h2 : es.length / vs.length = j := by
                  rw [← Ha0.out] at h1 hje
                  have e1 : es.length < (j + 1) * vs.length := by rw [Nat.add_mul, Nat.one_mul]; exact h1
                  have e2 := (Nat.div_lt_iff_lt_mul (by omega)).2 e1
                  have e3 := (Nat.le_div_iff_mul_le (by omega : 0 < vs.length)).2 hje
                  omega
                omega
              · have h2 : 20 ≤ es.length / vs.length := (Nat.le_div_iff_mul_le (by omega)).2 (by rw [show 20 = j by omega, Ha0.out]; exact hje)
                omega
            have Hend := hd hend
            clear hend
            have hcT2 : wr.cell? ⟨T, 2, none⟩ = some (.bool nt) := HTr.out.cell 2
            have hcT3 : wr.cell? ⟨T, 3, none⟩ = some (.int .i64 (1 + pw)) := HTr.out.cell 3
            have hR := HRW.out.nw HO.out.nw
            have hcR0 : wr.cell? ⟨B + 1, 0, none⟩ = some (.slice none 0 0) := hR.cell 0
            have hcR1 : wr.cell? ⟨B + 1, 1, none⟩ = some (.slice none 0 0) := hR.cell 1
            have hcR2 : wr.cell? ⟨B + 1, 2, none⟩ = some (.bool false) := hR.cell 2
            have hcR3 : wr.cell? ⟨B + 1, 3, none⟩ = some (.int .i64 0) := hR.cell 3
            have hfR0 := hR.free 0
            have hfR1 := hR.free 1
            have hfR2 := hR.free 2
            have hfR3 := hR.free 3
            have hRl := hR.lt
            clear hR
            have hfin : ∀ w5, Fr (fun k => k = B + 1) wr w5 → Nw w w5 ∧ TblAt w5 (.agg #[.slice vo vs.length vcap, .slice ro j rcap, .bool nt, .int .i64 (1 + pw)]) (tVars rv zs.length) (tRows (tVars rv zs.length) zs es) nt (1 + pickOf way 2) := fun w5 hf5 => by
              have hR := HRW.out.nw HO.out.nw
              have hBB := HB.out
              have hO5 : Own w w5 (.slice vo vs.length vcap) 3 (vs.map (Value.int .i64)) := (HO.out.lower HfW.out).fr hf5 (fun k hk e => by subst e; exact HO.out.row.ne hR (by decide) hk) (fun k hk => by omega)
              have hR5 : RowsOwn w w5 (.slice ro j rcap) rl (rowsTo vs zs es j) := (HRo.out.lower HfW.out).fr hf5 (fun k hk => by omega) (fun k cur e hk hb => by
                subst hk
                rw [(hb.inj hR).2]
                decide)
              refine ⟨hO5.nw, ?_⟩
              rw [Hvs.out, Hpw.out]
              have e6 : tRows vs zs es = rowsTo vs zs es j := by rw [Hend.out]; rfl
              rw [e6]
              have e7 : (rowsTo vs zs es j).length = j := rowsTo_len _ _ _ _
              have e9 := hR5.toT
              rw [← e7] at e9
              exact ⟨vo, vcap, ro, rcap, rl, by rw [e7], hO5.row, by simpa only [e7] using e9⟩
            have Hfin := hd hfin
            clear hfin
            by_cases h1 : a0 + vs.length ≤ es.length
            · have hd1 : (a0 : Int) + (vs.length : Int) ≤ (es.length : Int) := by omega
              have hd2 : ¬ ((j : Int) < 20) := by omega
              go_wp2_with fail
              have hR := HRW.out.nw HO.out.nw
              have hB := ((((hR.set 0 (.slice vo vs.length vcap)).set 1 (.slice ro j rcap)).set 2 (.bool nt)).set 3 (.int .i64 (1 + pw)))
              have z0 := hB.cell 0
              have z1 := hB.cell 1
              have z2 := hB.cell 2
              have z3 := hB.cell 3
              have hf5 : Fr (fun k => k = B + 1) wr ((((wr.setCell ⟨B + 1, 0, none⟩ (.slice vo vs.length vcap)).setCell ⟨B + 1, 1, none⟩ (.slice ro j rcap)).setCell ⟨B + 1, 2, none⟩ (.bool nt)).setCell ⟨B + 1, 3, none⟩ (.int .i64 (1 + pw))) :=
                ((((Fr.refl (fun k => k = B + 1) wr).setCell ⟨B + 1, 0, none⟩ _ (.inl rfl)).setCell ⟨B + 1, 1, none⟩ _ (.inl rfl)).setCell ⟨B + 1, 2, none⟩ _ (.inl rfl)).setCell ⟨B + 1, 3, none⟩ _ (.inl rfl)
              refine bodyPost_ret (v := .agg #[.slice vo vs.length vcap, .slice ro j rcap, .bool nt, .int .i64 (1 + pw)]) ?_ rfl ⟨_, rfl, Hfin.out _ hf5⟩
              simp [results, Try.results35, go_sem, z0, z1, z2, z3]
            · have hd1 : ¬ ((a0 : Int) + (vs.length : Int) ≤ (es.length : Int)) := by omega
              go_wp2_with fail
              have hR := HRW.out.nw HO.out.nw
              have hB := ((((hR.set 0 (.slice vo vs.length vcap)).set 1 (.slice ro j rcap)).set 2 (.bool nt)).set 3 (.int .i64 (1 + pw)))
              have z0 := hB.cell 0
              have z1 := hB.cell 1
              have z2 := hB.cell 2
              have z3 := hB.cell 3
              have hf5 : Fr (fun k => k = B + 1) wr ((((wr.setCell ⟨B + 1, 0, none⟩ (.slice vo vs.length vcap)).setCell ⟨B + 1, 1, none⟩ (.slice ro j rcap)).setCell ⟨B + 1, 2, none⟩ (.bool nt)).setCell ⟨B + 1, 3, none⟩ (.int .i64 (1 + pw))) :=
                ((((Fr.refl (fun k => k = B + 1) wr).setCell ⟨B + 1, 0, none⟩ _ (.inl rfl)).setCell ⟨B + 1, 1, none⟩ _ (.inl rfl)).setCell ⟨B + 1, 2, none⟩ _ (.inl rfl)).setCell ⟨B + 1, 3, none⟩ _ (.inl rfl)
              refine bodyPost_ret (v := .agg #[.slice vo vs.length vcap, .slice ro j rcap, .bool nt, .int .i64 (1 + pw)]) ?_ rfl ⟨_, rfl, Hfin.out _ hf5⟩
              simp [results, Try.results35, go_sem, z0, z1, z2, z3]
end Go.Proofs.Ytkjfpdfkcfgfkaa
