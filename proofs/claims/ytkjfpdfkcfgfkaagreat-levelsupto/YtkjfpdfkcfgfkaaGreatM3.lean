/- Parts of the proof, number 3: contracts of the functions that the statement calls. -/
import Derived.Test.YtkjfpdfkcfgfkaaGreatM2
import Derived.Deep.MidRow
import Derived.Test.YtkjfpdfkcfgfkaaGreatM1

/- Contract of diagram.Narrow and diagram.State. -/
namespace Go.Proofs.YtkjfpdfkcfgfkaaGreat
open Go.RowKit Go.Maps

theorem exec_store {P : Program} {ev : Operand → Value} {op : Oper} {w : World} (ty : TypeId) (x y : Operand) (ho : op.op = .store ty x y) (b o : Nat) (cells : Array Value) (hx : ev x = .pointer (some ⟨b, o, none⟩)) (hy : ev y = .agg cells)
    (ht : w.there b o cells.size) (hi : (P.info? ty).map (·.size) = some cells.size) (h1 : cells.all (·.oneCell') = true) : (execOp ev op).run P w = .ok .skip (w.setCells b o cells.toList) := by
  unfold execOp
  simp only [ho, hx, hy, Instr.storeAt, Instr.sureAddr, Sem.run_bind, Sem.run_pure, Result.andThen_ok, run_storeVar_mid w b o ty cells ht hi h1]
theorem Fr.setCells {S : Nat → Prop} {a : World} (C : Nat) (hC : S C ∨ a.heap.size ≤ C) : ∀ (vs : List Value) (o : Nat) (b : World), Fr S a b → Fr S a (b.setCells C o vs)
  | [], _, _, h => h
  | v :: r, o, _, h => Fr.setCells C hC r (o + 1) _ (h.setCell ⟨C, o, none⟩ v hC)
def setFrom : Array Value → Nat → List Value → Array Value
  | cur, _, [] => cur
  | cur, o, v :: r => setFrom (cur.setIfInBounds o v) (o + 1) r
theorem Blk.setCells {C : Nat} {e : TypeId} : ∀ (vs : List Value) (o : Nat) (w : World) (cur : Array Value), Blk w C cur e → Blk (w.setCells C o vs) C (setFrom cur o vs) e
  | [], _, _, _, h => h
  | v :: r, o, _, _, h => Blk.setCells r (o + 1) _ _ (h.set o v)
theorem setFrom_list : ∀ (vs : List Value) (cur : Array Value) (o : Nat), o + vs.length ≤ cur.size → (setFrom cur o vs).toList = cur.toList.take o ++ (vs ++ cur.toList.drop (o + vs.length))
  | [], cur, o, _ => by simp [setFrom]
  | v :: r, cur, o, h => by
    simp only [List.length_cons] at h
    rw [setFrom, setFrom_list r (cur.setIfInBounds o v) (o + 1) (by simp; omega)]
    have h1 : (cur.setIfInBounds o v).toList = cur.toList.set o v := by simp
    rw [h1, List.take_succ_eq_append_getElem (by simp; omega)]
    simp only [List.getElem_set_self, List.length_cons, List.append_assoc, List.cons_append, List.nil_append]
    rw [List.take_set_of_le (Nat.le_refl _), List.drop_set_of_lt (by omega), show o + 1 + r.length = o + (r.length + 1) by omega]
theorem Blk.fill {w : World} {C : Nat} {e : TypeId} {cur : Array Value} (h : Blk w C cur e) (vs : List Value) (hl : cur.size = vs.length) : Blk (w.setCells C 0 vs) C vs.toArray e := by
  have h1 := Blk.setCells vs 0 w cur h
  have h2 : setFrom cur 0 vs = vs.toArray := by
    apply Array.ext'
    rw [setFrom_list vs cur 0 (by omega)]
    simp [hl]
  rw [h2] at h1
  exact h1
theorem Blk.there {w : World} {C : Nat} {e : TypeId} {cur : Array Value} (h : Blk w C cur e) : w.there C 0 cur.size := fun j hj => by
  rw [Nat.zero_add]
  exact ⟨by rw [h.cell]; simp [hj], h.free j⟩
theorem cutCells_one (b G : Nat) (dn sp : List Nat) (Mv : Nat) : (cutCells b G dn sp Mv).all (·.oneCell') = true := all_oneCell_toArray (fun v hv => by
  simp only [List.mem_cons, List.mem_append, List.mem_map, List.not_mem_nil, or_false] at hv
  rcases hv with rfl | rfl | ⟨_, _, rfl⟩ | ⟨_, _, rfl⟩ | rfl <;> rfl)
theorem Blk.put8' {b : World} {g : Nat} {e : TypeId} {n : List Nat} {v0 v1 v2 v3 v4 v5 v6 v7 : Value} (h : Blk b g (domV zero8) e) (hn : domV n = #[v0, v1, v2, v3, v4, v5, v6, v7]) :
    Blk ((((((((b.setCell ⟨g, 0, none⟩ v0).setCell ⟨g, 1, none⟩ v1).setCell ⟨g, 2, none⟩ v2).setCell ⟨g, 3, none⟩ v3).setCell ⟨g, 4, none⟩ v4).setCell ⟨g, 5, none⟩ v5).setCell ⟨g, 6, none⟩ v6).setCell ⟨g, 7, none⟩ v7) g (domV n) e := by
  have h1 := Blk.set8 (cur := #[Value.int .u8 0, Value.int .u8 0, Value.int .u8 0, Value.int .u8 0, Value.int .u8 0, Value.int .u8 0, Value.int .u8 0, Value.int .u8 0]) h 0 1 2 3 4 5 6 7 v0 v1 v2 v3 v4 v5 v6 v7
  rw [arr8] at h1
  rw [hn]
  exact h1
/-- The cells of a cutter that holds nothing. -/
def zero19 : Array Value := #[.pointer none, .pointer none, .int .u8 0, .int .u8 0, .int .u8 0, .int .u8 0, .int .u8 0, .int .u8 0, .int .u8 0, .int .u8 0, .int .u8 0, .int .u8 0, .int .u8 0, .int .u8 0, .int .u8 0, .int .u8 0, .int .u8 0, .int .u8 0, .map none]

def s0 : CS := ⟨[zero6, zero6], zero8, fun _ => none, 0⟩
/-- What a diagram makes of domains: the cutter behind it, its new root; and the domains. -/
def dCut (os : List (List Nat)) (root : Nat) (vars : List Int) (dn : List Nat) : CS × Nat := cutTo os vars dn vars.length 0 root s0
def dDom (os : List (List Nat)) (root : Nat) (vars : List Int) (dn : List Nat) : List Nat := replTo vars dn (dCut os root vars dn).1.sp vars.length

set_option maxHeartbeats 6400000 in
set_option maxRecDepth 1000000 in
theorem dNarrow_any (G g cap : Nat) (onv : Value) (vars : List Int) (os : List (List Nat)) (root : Nat) (dn : List Nat) (w : World) (hD : DAt w G g cap onv vars os root) (h8 : dn.length = 8) (h4 : vars.length ≤ 4) (hv : ∀ i, i < vars.length → 0 ≤ vars.getD i 0 ∧ vars.getD i 0 < 8)
    (hd64 : ∀ q, dn.getD q 0 < 64) (hol : os.length ≤ 100000) (hlev : levOk os vars.length root) :
    Calls Tryz.prog 118 #[.pointer (some ⟨G, 0, none⟩), .agg (domV dn)] w fun e w' => e = .returned (.agg (domV (dDom os root vars dn))) ∧ Fr (fun k => k = G) w w' ∧
      ∃ nv', DAt w' G g cap nv' vars (dCut os root vars dn).1.ns (dCut os root vars dn).2 ∧ (∀ k, nv'.ownBlock = some k → w.heap.size ≤ k) := by
  obtain ⟨v0, v1, v2, v3, v4, v5, v6, v7, hdv⟩ := domV8 h8
  obtain ⟨⟨x0, rfl⟩, ⟨x1, rfl⟩, ⟨x2, rfl⟩, ⟨x3, rfl⟩, ⟨x4, rfl⟩, ⟨x5, rfl⟩, ⟨x6, rfl⟩, ⟨x7, rfl⟩⟩ := domV_one dn hdv
  have hGlt := hD.blk.lt
  obtain ⟨W, hW⟩ : ∃ W, W = (w.alloc (.cells (domV dn) 60)).alloc (.cells (domV zero8) 60) := ⟨_, rfl⟩
  have hfW : Nw w W := by rw [hW]; exact ((Fr.refl _ w).alloc _).alloc _
  have hbD : Blk W w.heap.size (domV dn) 60 := by rw [hW]; exact (Blk.new _ _ _).alloc _
  have hbR : Blk W (w.heap.size + 1) (domV zero8) 60 := by
    rw [hW]
    have := Blk.new (w.alloc (.cells (domV dn) 60)) (domV zero8) 60
    rw [alsz] at this
    exact this
  have hsW : W.heap.size = w.heap.size + 2 := by rw [hW]; simp
  have HW := hd hW
  have HbD := hd hbD
  have HbR := hd hbR
  have HsW := hd hsW
  have Hdv := hd hdv
  have HD := hd hD
  clear hW hbD hbR hsW hdv hD
  go_enter Tryz.func118, Tryz.ntmps118
  go_upto_region 1 with fail
  rw [show (w.alloc (Obj.cells (domV dn) 60)).alloc (Obj.cells #[Value.int .u8 0, .int .u8 0, .int .u8 0, .int .u8 0, .int .u8 0, .int .u8 0, .int .u8 0, .int .u8 0] 60) = W from HW.out.symm]
  clear HW
  go_cut [5] (fun p wx => ∃ C b M Mv nv, p = .pointer (some ⟨C, 0, none⟩) ∧ Hid (CutAt wx C b M Mv G nv dn s0) ∧ Nw W wx ∧ ∀ k, FC C b M Mv nv k → W.heap.size ≤ k)
  case first =>
    have hK0 : Blk W.drew w.heap.size (domV dn) 60 := HbD.out.drew
    refine wp_region_held (S := fun w'' => Blk w'' w.heap.size (domV dn) 60) (by kernel_rfl) ?_
    refine wpAnyH_take (i := 1) (v := .pointer (some ⟨G, 0, none⟩)) rfl (by kernel_rfl) (by kernel_rfl) (by kernel_rfl) (fun _ _ _ h => h) (.inl ⟨by kernel_rfl, fun w'' hS => by kernel_rfl⟩) hK0 ?_
    refine wpAnyH_take (i := 2) (v := .agg (domV dn)) rfl (by kernel_rfl) (by kernel_rfl) (by kernel_rfl) (fun _ _ _ h => h) (.inl ⟨by kernel_rfl, fun w'' hS => ?_⟩) hK0 ?_
    · obtain ⟨q0, q1, q2, q3, q4, q5, q6, q7⟩ := cells8 (Hdv.out ▸ hS)
      clear hS hK0 hv hd64
      rw [Hdv.out]
      simp only [Act.put, List.setIfInBounds_toArray, List.set_cons_zero, List.set_cons_succ, List.getElem_toArray, List.getElem_cons_zero, List.getElem_cons_succ]
      go_simp
    have hX0 : Nw W W.drew := (Fr.refl _ W).drew
    have hTl : w.heap.size < W.heap.size := HbD.out.lt
    have hfinal : ∀ (X : World) (b M Mv C : Nat) (nv1 : Value), Nw W X → Bld X b M nv1 [zero6, zero6] → NumMap X 3 Mv 0 (fun _ => none) → Mv ≠ M → Blk X C zero19 185 → W.heap.size ≤ C → W.heap.size ≤ b → W.heap.size ≤ M → W.heap.size ≤ Mv → (∀ k, nv1.ownBlock = some k → W.heap.size ≤ k) →
        CutAt (X.setCells C 0 (cutCells b G dn zero8 Mv).toList) C b M Mv G nv1 dn s0 ∧ Nw W (X.setCells C 0 (cutCells b G dn zero8 Mv).toList) ∧ (∀ k, FC C b M Mv nv1 k → W.heap.size ≤ k) ∧ Blk (X.setCells C 0 (cutCells b G dn zero8 Mv).toList) w.heap.size (domV dn) 60 := fun X b M Mv C nv1 hX hB hm hne hC hCl hbl hMl hMvl hnl => by
      have hf := Fr.setCells (S := fun k => k = C) (a := X) C (.inl rfl) (cutCells b G dn zero8 Mv).toList 0 X (Fr.refl _ X)
      have hfill := hC.fill (cutCells b G dn zero8 Mv).toList (by simp [zero19, cutCells, h8, zero8])
      refine ⟨⟨by show Blk _ C (cutCells b G dn zero8 Mv) _; simpa using hfill, hB.fr hf (fun e => ?_) (fun e => ?_) (fun k hk e => ?_), ⟨_, hm.fr hf (fun e => hm.ne hC e.symm), fun _ _ => rfl⟩, hne⟩, Fr.setCells C (.inr hCl) _ 0 X hX, ?_, (HbD.out.nw hX).fr hf (by omega)⟩
      · exact hB.other hC (by decide) (by decide) (.inl e.symm)
      · exact hB.other hC (by decide) (by decide) (.inr (.inl e.symm))
      · exact hB.other hC (by decide) (by decide) (.inr (.inr (by rw [← e]; exact hk)))
      · rintro k (rfl | rfl | rfl | rfl | h)
        · exact hCl
        · exact hMvl
        · exact hbl
        · exact hMl
        · exact hnl k h
    refine wpAnyH_all (rs := [0, 3, 5]) (by kernel_rfl) (by simp) (fun j hj => ?_)
    have hj' : j = 0 ∨ j = 3 ∨ j = 5 := by simpa using hj
    rcases hj' with rfl | rfl | rfl
    · refine op_enter (f := 66) (args := #[]) (w' := W.drew) rfl (by kernel_rfl) (by kernel_rfl) ?_
      refine (newBuilder_any W.drew).mono ?_
      rintro e X1 ⟨b, M, nv1, rfl, hB, hst, hbl, hMl, hnl⟩
      have hw0 : Nw W X1 := hX0.trans hst (fun i h => h.elim)
      have hz0 : W.heap.size ≤ (W.drew).heap.size := hX0.size
      refine ⟨_, rfl, HbD.out.nw hw0, ?_⟩
      refine wpAnyH_all (rs := [3, 5]) (by kernel_rfl) (by simp) (fun j hj => ?_)
      have hj' : j = 3 ∨ j = 5 := by simpa using hj
      rcases hj' with rfl | rfl
      · obtain ⟨X2, hX2⟩ : ∃ X, X = (X1).alloc (.map #[] 0) := ⟨_, rfl⟩
        have hst : Nw (X1) X2 := by rw [hX2]; exact (Fr.refl _ _).alloc _
        have hm : NumMap X2 3 (X1).heap.size 0 (fun _ => none) := by rw [hX2]; exact NumMap.made _ _
        have hw1 : Nw W X2 := hw0.trans hst (fun i h => h.elim)
        have hz1 : W.heap.size ≤ (X1).heap.size := hw0.size
        have hMlt : M < (X1).heap.size := hB.lt (.inr (.inl rfl))
        have hB := hB.nw hst
        refine op_value (v := .map (some (X1).heap.size)) (w' := X2) rfl (by kernel_rfl) (by rw [hX2]; kernel_rfl) ⟨HbD.out.nw hw1, ?_⟩
        clear hX2
        refine wpAnyH_take (i := 4) (v := .agg (cutCells b G dn zero8 ((X1).heap.size))) rfl (by kernel_rfl) (by kernel_rfl) (by kernel_rfl) (fun _ _ _ h => h) (.inl ⟨by kernel_rfl, fun w'' hS => ?_⟩) (HbD.out.nw hw1) ?_
        · obtain ⟨e0, e1, e2, e3, e4, e5, e6, e7, hde⟩ := list8 h8
          rw [hde]
          kernel_rfl
        refine wpAnyH_all (rs := [5]) (by kernel_rfl) (by simp) (fun j hj => ?_)
        obtain rfl : j = 5 := by simpa using hj
        obtain ⟨X3, hX3⟩ : ∃ X, X = (X2).alloc (.cells zero19 185) := ⟨_, rfl⟩
        have hst : Nw (X2) X3 := by rw [hX3]; exact (Fr.refl _ _).alloc _
        have hC : Blk X3 (X2).heap.size zero19 185 := by rw [hX3]; exact Blk.new _ _ _
        have hw2 : Nw W X3 := hw1.trans hst (fun i h => h.elim)
        have hz2 : W.heap.size ≤ (X2).heap.size := hw1.size
        have hB := hB.nw hst
        have hm := hm.nw hst
        refine op_value (v := .pointer (some ⟨(X2).heap.size, 0, none⟩)) (w' := X3) rfl (by kernel_rfl) (by rw [hX3]; kernel_rfl) ⟨HbD.out.nw hw2, ?_⟩
        clear hX3
        have hne : (X1).heap.size ≠ M := by
          have h1 : M < (X1).heap.size := hMlt
          omega
        refine wpAnyH_all (rs := [6]) (by kernel_rfl) (by simp) (fun j hj => ?_)
        obtain rfl : j = 6 := by simpa using hj
        obtain ⟨hcut, hnw, hfc, hT⟩ := hfinal X3 b M ((X1).heap.size) ((X2).heap.size) nv1 hw2 hB hm hne hC (by omega) (by omega) (by omega) (by omega) (fun k hk => by have := hnl k hk; omega)
        refine op_skip (w' := (X3).setCells ((X2).heap.size) 0 (cutCells b G dn zero8 ((X1).heap.size)).toList) rfl (by kernel_rfl) ?_ ⟨hT, wpAnyH_done (by kernel_rfl) ?_ _⟩
        · simp only [Act.put, List.setIfInBounds_toArray, List.set_cons_zero, List.set_cons_succ, List.getElem_toArray, List.getElem_cons_zero, List.getElem_cons_succ]
          exact exec_store 185 (.tmp 5) (.tmp 11) rfl ((X2).heap.size) 0 (cutCells b G dn zero8 ((X1).heap.size)) rfl rfl (by rw [cutCells_size _ _ _ _ _ h8 rfl]; exact hC.there) (by rw [cutCells_size _ _ _ _ _ h8 rfl]; kernel_rfl) (cutCells_one ..)
        simp only [Act.put, List.setIfInBounds_toArray, List.set_cons_zero, List.set_cons_succ, List.getElem_toArray, List.getElem_cons_zero, List.getElem_cons_succ]
        go_wp2_with fail
        go_meet
        case rel => exact ⟨_, b, M, _, nv1, rfl, hcut, hnw, hfc⟩
      · obtain ⟨X2, hX2⟩ : ∃ X, X = (X1).alloc (.cells zero19 185) := ⟨_, rfl⟩
        have hst : Nw (X1) X2 := by rw [hX2]; exact (Fr.refl _ _).alloc _
        have hC : Blk X2 (X1).heap.size zero19 185 := by rw [hX2]; exact Blk.new _ _ _
        have hw1 : Nw W X2 := hw0.trans hst (fun i h => h.elim)
        have hz1 : W.heap.size ≤ (X1).heap.size := hw0.size
        have hB := hB.nw hst
        refine op_value (v := .pointer (some ⟨(X1).heap.size, 0, none⟩)) (w' := X2) rfl (by kernel_rfl) (by rw [hX2]; kernel_rfl) ⟨HbD.out.nw hw1, ?_⟩
        clear hX2
        refine wpAnyH_all (rs := [3]) (by kernel_rfl) (by simp) (fun j hj => ?_)
        obtain rfl : j = 3 := by simpa using hj
        obtain ⟨X3, hX3⟩ : ∃ X, X = (X2).alloc (.map #[] 0) := ⟨_, rfl⟩
        have hst : Nw (X2) X3 := by rw [hX3]; exact (Fr.refl _ _).alloc _
        have hm : NumMap X3 3 (X2).heap.size 0 (fun _ => none) := by rw [hX3]; exact NumMap.made _ _
        have hw2 : Nw W X3 := hw1.trans hst (fun i h => h.elim)
        have hz2 : W.heap.size ≤ (X2).heap.size := hw1.size
        have hMlt : M < (X2).heap.size := hB.lt (.inr (.inl rfl))
        have hB := hB.nw hst
        have hC := hC.nw hst
        refine op_value (v := .map (some (X2).heap.size)) (w' := X3) rfl (by kernel_rfl) (by rw [hX3]; kernel_rfl) ⟨HbD.out.nw hw2, ?_⟩
        clear hX3
        refine wpAnyH_take (i := 4) (v := .agg (cutCells b G dn zero8 ((X2).heap.size))) rfl (by kernel_rfl) (by kernel_rfl) (by kernel_rfl) (fun _ _ _ h => h) (.inl ⟨by kernel_rfl, fun w'' hS => ?_⟩) (HbD.out.nw hw2) ?_
        · obtain ⟨e0, e1, e2, e3, e4, e5, e6, e7, hde⟩ := list8 h8
          rw [hde]
          kernel_rfl
        have hne : (X2).heap.size ≠ M := by
          have h1 : M < (X2).heap.size := hMlt
          omega
        refine wpAnyH_all (rs := [6]) (by kernel_rfl) (by simp) (fun j hj => ?_)
        obtain rfl : j = 6 := by simpa using hj
        obtain ⟨hcut, hnw, hfc, hT⟩ := hfinal X3 b M ((X2).heap.size) ((X1).heap.size) nv1 hw2 hB hm hne hC (by omega) (by omega) (by omega) (by omega) (fun k hk => by have := hnl k hk; omega)
        refine op_skip (w' := (X3).setCells ((X1).heap.size) 0 (cutCells b G dn zero8 ((X2).heap.size)).toList) rfl (by kernel_rfl) ?_ ⟨hT, wpAnyH_done (by kernel_rfl) ?_ _⟩
        · simp only [Act.put, List.setIfInBounds_toArray, List.set_cons_zero, List.set_cons_succ, List.getElem_toArray, List.getElem_cons_zero, List.getElem_cons_succ]
          exact exec_store 185 (.tmp 5) (.tmp 11) rfl ((X1).heap.size) 0 (cutCells b G dn zero8 ((X2).heap.size)) rfl rfl (by rw [cutCells_size _ _ _ _ _ h8 rfl]; exact hC.there) (by rw [cutCells_size _ _ _ _ _ h8 rfl]; kernel_rfl) (cutCells_one ..)
        simp only [Act.put, List.setIfInBounds_toArray, List.set_cons_zero, List.set_cons_succ, List.getElem_toArray, List.getElem_cons_zero, List.getElem_cons_succ]
        go_wp2_with fail
        go_meet
        case rel => exact ⟨_, b, M, _, nv1, rfl, hcut, hnw, hfc⟩
    · obtain ⟨X1, hX1⟩ : ∃ X, X = (W.drew).alloc (.map #[] 0) := ⟨_, rfl⟩
      have hst : Nw (W.drew) X1 := by rw [hX1]; exact (Fr.refl _ _).alloc _
      have hm : NumMap X1 3 (W.drew).heap.size 0 (fun _ => none) := by rw [hX1]; exact NumMap.made _ _
      have hw0 : Nw W X1 := hX0.trans hst (fun i h => h.elim)
      have hz0 : W.heap.size ≤ (W.drew).heap.size := hX0.size
      refine op_value (v := .map (some (W.drew).heap.size)) (w' := X1) rfl (by kernel_rfl) (by rw [hX1]; kernel_rfl) ⟨HbD.out.nw hw0, ?_⟩
      clear hX1
      refine wpAnyH_all (rs := [0, 5]) (by kernel_rfl) (by simp) (fun j hj => ?_)
      have hj' : j = 0 ∨ j = 5 := by simpa using hj
      rcases hj' with rfl | rfl
      · refine op_enter (f := 66) (args := #[]) (w' := X1) rfl (by kernel_rfl) (by kernel_rfl) ?_
        refine (newBuilder_any X1).mono ?_
        rintro e X2 ⟨b, M, nv1, rfl, hB, hst, hbl, hMl, hnl⟩
        have hw1 : Nw W X2 := hw0.trans hst (fun i h => h.elim)
        have hz1 : W.heap.size ≤ (X1).heap.size := hw0.size
        have hMvlt : (W.drew).heap.size < (X1).heap.size := hm.lt
        have hm := hm.nw hst
        refine ⟨_, rfl, HbD.out.nw hw1, ?_⟩
        refine wpAnyH_take (i := 4) (v := .agg (cutCells b G dn zero8 ((W.drew).heap.size))) rfl (by kernel_rfl) (by kernel_rfl) (by kernel_rfl) (fun _ _ _ h => h) (.inl ⟨by kernel_rfl, fun w'' hS => ?_⟩) (HbD.out.nw hw1) ?_
        · obtain ⟨e0, e1, e2, e3, e4, e5, e6, e7, hde⟩ := list8 h8
          rw [hde]
          kernel_rfl
        refine wpAnyH_all (rs := [5]) (by kernel_rfl) (by simp) (fun j hj => ?_)
        obtain rfl : j = 5 := by simpa using hj
        obtain ⟨X3, hX3⟩ : ∃ X, X = (X2).alloc (.cells zero19 185) := ⟨_, rfl⟩
        have hst : Nw (X2) X3 := by rw [hX3]; exact (Fr.refl _ _).alloc _
        have hC : Blk X3 (X2).heap.size zero19 185 := by rw [hX3]; exact Blk.new _ _ _
        have hw2 : Nw W X3 := hw1.trans hst (fun i h => h.elim)
        have hz2 : W.heap.size ≤ (X2).heap.size := hw1.size
        have hm := hm.nw hst
        have hB := hB.nw hst
        refine op_value (v := .pointer (some ⟨(X2).heap.size, 0, none⟩)) (w' := X3) rfl (by kernel_rfl) (by rw [hX3]; kernel_rfl) ⟨HbD.out.nw hw2, ?_⟩
        clear hX3
        have hne : (W.drew).heap.size ≠ M := by
          have h1 : (X1).heap.size ≤ M := hMl
          have h2 : (W.drew).heap.size < (X1).heap.size := hMvlt
          omega
        refine wpAnyH_all (rs := [6]) (by kernel_rfl) (by simp) (fun j hj => ?_)
        obtain rfl : j = 6 := by simpa using hj
        obtain ⟨hcut, hnw, hfc, hT⟩ := hfinal X3 b M ((W.drew).heap.size) ((X2).heap.size) nv1 hw2 hB hm hne hC (by omega) (by omega) (by omega) (by omega) (fun k hk => by have := hnl k hk; omega)
        refine op_skip (w' := (X3).setCells ((X2).heap.size) 0 (cutCells b G dn zero8 ((W.drew).heap.size)).toList) rfl (by kernel_rfl) ?_ ⟨hT, wpAnyH_done (by kernel_rfl) ?_ _⟩
        · simp only [Act.put, List.setIfInBounds_toArray, List.set_cons_zero, List.set_cons_succ, List.getElem_toArray, List.getElem_cons_zero, List.getElem_cons_succ]
          exact exec_store 185 (.tmp 5) (.tmp 11) rfl ((X2).heap.size) 0 (cutCells b G dn zero8 ((W.drew).heap.size)) rfl rfl (by rw [cutCells_size _ _ _ _ _ h8 rfl]; exact hC.there) (by rw [cutCells_size _ _ _ _ _ h8 rfl]; kernel_rfl) (cutCells_one ..)
        simp only [Act.put, List.setIfInBounds_toArray, List.set_cons_zero, List.set_cons_succ, List.getElem_toArray, List.getElem_cons_zero, List.getElem_cons_succ]
        go_wp2_with fail
        go_meet
        case rel => exact ⟨_, b, M, _, nv1, rfl, hcut, hnw, hfc⟩
      · obtain ⟨X2, hX2⟩ : ∃ X, X = (X1).alloc (.cells zero19 185) := ⟨_, rfl⟩
        have hst : Nw (X1) X2 := by rw [hX2]; exact (Fr.refl _ _).alloc _
        have hC : Blk X2 (X1).heap.size zero19 185 := by rw [hX2]; exact Blk.new _ _ _
        have hw1 : Nw W X2 := hw0.trans hst (fun i h => h.elim)
        have hz1 : W.heap.size ≤ (X1).heap.size := hw0.size
        have hm := hm.nw hst
        refine op_value (v := .pointer (some ⟨(X1).heap.size, 0, none⟩)) (w' := X2) rfl (by kernel_rfl) (by rw [hX2]; kernel_rfl) ⟨HbD.out.nw hw1, ?_⟩
        clear hX2
        refine wpAnyH_all (rs := [0]) (by kernel_rfl) (by simp) (fun j hj => ?_)
        obtain rfl : j = 0 := by simpa using hj
        refine op_enter (f := 66) (args := #[]) (w' := X2) rfl (by kernel_rfl) (by kernel_rfl) ?_
        refine (newBuilder_any X2).mono ?_
        rintro e X3 ⟨b, M, nv1, rfl, hB, hst, hbl, hMl, hnl⟩
        have hw2 : Nw W X3 := hw1.trans hst (fun i h => h.elim)
        have hz2 : W.heap.size ≤ (X2).heap.size := hw1.size
        have hMvlt : (W.drew).heap.size < (X2).heap.size := hm.lt
        have hm := hm.nw hst
        have hC := hC.nw hst
        refine ⟨_, rfl, HbD.out.nw hw2, ?_⟩
        refine wpAnyH_take (i := 4) (v := .agg (cutCells b G dn zero8 ((W.drew).heap.size))) rfl (by kernel_rfl) (by kernel_rfl) (by kernel_rfl) (fun _ _ _ h => h) (.inl ⟨by kernel_rfl, fun w'' hS => ?_⟩) (HbD.out.nw hw2) ?_
        · obtain ⟨e0, e1, e2, e3, e4, e5, e6, e7, hde⟩ := list8 h8
          rw [hde]
          kernel_rfl
        have hne : (W.drew).heap.size ≠ M := by
          have h1 : (X2).heap.size ≤ M := hMl
          have h2 : (W.drew).heap.size < (X2).heap.size := hMvlt
          omega
        refine wpAnyH_all (rs := [6]) (by kernel_rfl) (by simp) (fun j hj => ?_)
        obtain rfl : j = 6 := by simpa using hj
        obtain ⟨hcut, hnw, hfc, hT⟩ := hfinal X3 b M ((W.drew).heap.size) ((X1).heap.size) nv1 hw2 hB hm hne hC (by omega) (by omega) (by omega) (by omega) (fun k hk => by have := hnl k hk; omega)
        refine op_skip (w' := (X3).setCells ((X1).heap.size) 0 (cutCells b G dn zero8 ((W.drew).heap.size)).toList) rfl (by kernel_rfl) ?_ ⟨hT, wpAnyH_done (by kernel_rfl) ?_ _⟩
        · simp only [Act.put, List.setIfInBounds_toArray, List.set_cons_zero, List.set_cons_succ, List.getElem_toArray, List.getElem_cons_zero, List.getElem_cons_succ]
          exact exec_store 185 (.tmp 5) (.tmp 11) rfl ((X1).heap.size) 0 (cutCells b G dn zero8 ((W.drew).heap.size)) rfl rfl (by rw [cutCells_size _ _ _ _ _ h8 rfl]; exact hC.there) (by rw [cutCells_size _ _ _ _ _ h8 rfl]; kernel_rfl) (cutCells_one ..)
        simp only [Act.put, List.setIfInBounds_toArray, List.set_cons_zero, List.set_cons_succ, List.getElem_toArray, List.getElem_cons_zero, List.getElem_cons_succ]
        go_wp2_with fail
        go_meet
        case rel => exact ⟨_, b, M, _, nv1, rfl, hcut, hnw, hfc⟩
    · obtain ⟨X1, hX1⟩ : ∃ X, X = (W.drew).alloc (.cells zero19 185) := ⟨_, rfl⟩
      have hst : Nw (W.drew) X1 := by rw [hX1]; exact (Fr.refl _ _).alloc _
      have hC : Blk X1 (W.drew).heap.size zero19 185 := by rw [hX1]; exact Blk.new _ _ _
      have hw0 : Nw W X1 := hX0.trans hst (fun i h => h.elim)
      have hz0 : W.heap.size ≤ (W.drew).heap.size := hX0.size
      refine op_value (v := .pointer (some ⟨(W.drew).heap.size, 0, none⟩)) (w' := X1) rfl (by kernel_rfl) (by rw [hX1]; kernel_rfl) ⟨HbD.out.nw hw0, ?_⟩
      clear hX1
      refine wpAnyH_all (rs := [0, 3]) (by kernel_rfl) (by simp) (fun j hj => ?_)
      have hj' : j = 0 ∨ j = 3 := by simpa using hj
      rcases hj' with rfl | rfl
      · refine op_enter (f := 66) (args := #[]) (w' := X1) rfl (by kernel_rfl) (by kernel_rfl) ?_
        refine (newBuilder_any X1).mono ?_
        rintro e X2 ⟨b, M, nv1, rfl, hB, hst, hbl, hMl, hnl⟩
        have hw1 : Nw W X2 := hw0.trans hst (fun i h => h.elim)
        have hz1 : W.heap.size ≤ (X1).heap.size := hw0.size
        have hC := hC.nw hst
        refine ⟨_, rfl, HbD.out.nw hw1, ?_⟩
        refine wpAnyH_all (rs := [3]) (by kernel_rfl) (by simp) (fun j hj => ?_)
        obtain rfl : j = 3 := by simpa using hj
        obtain ⟨X3, hX3⟩ : ∃ X, X = (X2).alloc (.map #[] 0) := ⟨_, rfl⟩
        have hst : Nw (X2) X3 := by rw [hX3]; exact (Fr.refl _ _).alloc _
        have hm : NumMap X3 3 (X2).heap.size 0 (fun _ => none) := by rw [hX3]; exact NumMap.made _ _
        have hw2 : Nw W X3 := hw1.trans hst (fun i h => h.elim)
        have hz2 : W.heap.size ≤ (X2).heap.size := hw1.size
        have hMlt : M < (X2).heap.size := hB.lt (.inr (.inl rfl))
        have hC := hC.nw hst
        have hB := hB.nw hst
        refine op_value (v := .map (some (X2).heap.size)) (w' := X3) rfl (by kernel_rfl) (by rw [hX3]; kernel_rfl) ⟨HbD.out.nw hw2, ?_⟩
        clear hX3
        refine wpAnyH_take (i := 4) (v := .agg (cutCells b G dn zero8 ((X2).heap.size))) rfl (by kernel_rfl) (by kernel_rfl) (by kernel_rfl) (fun _ _ _ h => h) (.inl ⟨by kernel_rfl, fun w'' hS => ?_⟩) (HbD.out.nw hw2) ?_
        · obtain ⟨e0, e1, e2, e3, e4, e5, e6, e7, hde⟩ := list8 h8
          rw [hde]
          kernel_rfl
        have hne : (X2).heap.size ≠ M := by
          have h1 : M < (X2).heap.size := hMlt
          omega
        refine wpAnyH_all (rs := [6]) (by kernel_rfl) (by simp) (fun j hj => ?_)
        obtain rfl : j = 6 := by simpa using hj
        obtain ⟨hcut, hnw, hfc, hT⟩ := hfinal X3 b M ((X2).heap.size) ((W.drew).heap.size) nv1 hw2 hB hm hne hC (by omega) (by omega) (by omega) (by omega) (fun k hk => by have := hnl k hk; omega)
        refine op_skip (w' := (X3).setCells ((W.drew).heap.size) 0 (cutCells b G dn zero8 ((X2).heap.size)).toList) rfl (by kernel_rfl) ?_ ⟨hT, wpAnyH_done (by kernel_rfl) ?_ _⟩
        · simp only [Act.put, List.setIfInBounds_toArray, List.set_cons_zero, List.set_cons_succ, List.getElem_toArray, List.getElem_cons_zero, List.getElem_cons_succ]
          exact exec_store 185 (.tmp 5) (.tmp 11) rfl ((W.drew).heap.size) 0 (cutCells b G dn zero8 ((X2).heap.size)) rfl rfl (by rw [cutCells_size _ _ _ _ _ h8 rfl]; exact hC.there) (by rw [cutCells_size _ _ _ _ _ h8 rfl]; kernel_rfl) (cutCells_one ..)
        simp only [Act.put, List.setIfInBounds_toArray, List.set_cons_zero, List.set_cons_succ, List.getElem_toArray, List.getElem_cons_zero, List.getElem_cons_succ]
        go_wp2_with fail
        go_meet
        case rel => exact ⟨_, b, M, _, nv1, rfl, hcut, hnw, hfc⟩
      · obtain ⟨X2, hX2⟩ : ∃ X, X = (X1).alloc (.map #[] 0) := ⟨_, rfl⟩
        have hst : Nw (X1) X2 := by rw [hX2]; exact (Fr.refl _ _).alloc _
        have hm : NumMap X2 3 (X1).heap.size 0 (fun _ => none) := by rw [hX2]; exact NumMap.made _ _
        have hw1 : Nw W X2 := hw0.trans hst (fun i h => h.elim)
        have hz1 : W.heap.size ≤ (X1).heap.size := hw0.size
        have hC := hC.nw hst
        refine op_value (v := .map (some (X1).heap.size)) (w' := X2) rfl (by kernel_rfl) (by rw [hX2]; kernel_rfl) ⟨HbD.out.nw hw1, ?_⟩
        clear hX2
        refine wpAnyH_all (rs := [0]) (by kernel_rfl) (by simp) (fun j hj => ?_)
        obtain rfl : j = 0 := by simpa using hj
        refine op_enter (f := 66) (args := #[]) (w' := X2) rfl (by kernel_rfl) (by kernel_rfl) ?_
        refine (newBuilder_any X2).mono ?_
        rintro e X3 ⟨b, M, nv1, rfl, hB, hst, hbl, hMl, hnl⟩
        have hw2 : Nw W X3 := hw1.trans hst (fun i h => h.elim)
        have hz2 : W.heap.size ≤ (X2).heap.size := hw1.size
        have hMvlt : (X1).heap.size < (X2).heap.size := hm.lt
        have hC := hC.nw hst
        have hm := hm.nw hst
        refine ⟨_, rfl, HbD.out.nw hw2, ?_⟩
        refine wpAnyH_take (i := 4) (v := .agg (cutCells b G dn zero8 ((X1).heap.size))) rfl (by kernel_rfl) (by kernel_rfl) (by kernel_rfl) (fun _ _ _ h => h) (.inl ⟨by kernel_rfl, fun w'' hS => ?_⟩) (HbD.out.nw hw2) ?_
        · obtain ⟨e0, e1, e2, e3, e4, e5, e6, e7, hde⟩ := list8 h8
          rw [hde]
          kernel_rfl
        have hne : (X1).heap.size ≠ M := by
          have h1 : (X2).heap.size ≤ M := hMl
          have h2 : (X1).heap.size < (X2).heap.size := hMvlt
          omega
        refine wpAnyH_all (rs := [6]) (by kernel_rfl) (by simp) (fun j hj => ?_)
        obtain rfl : j = 6 := by simpa using hj
        obtain ⟨hcut, hnw, hfc, hT⟩ := hfinal X3 b M ((X1).heap.size) ((W.drew).heap.size) nv1 hw2 hB hm hne hC (by omega) (by omega) (by omega) (by omega) (fun k hk => by have := hnl k hk; omega)
        refine op_skip (w' := (X3).setCells ((W.drew).heap.size) 0 (cutCells b G dn zero8 ((X1).heap.size)).toList) rfl (by kernel_rfl) ?_ ⟨hT, wpAnyH_done (by kernel_rfl) ?_ _⟩
        · simp only [Act.put, List.setIfInBounds_toArray, List.set_cons_zero, List.set_cons_succ, List.getElem_toArray, List.getElem_cons_zero, List.getElem_cons_succ]
          exact exec_store 185 (.tmp 5) (.tmp 11) rfl ((W.drew).heap.size) 0 (cutCells b G dn zero8 ((X1).heap.size)) rfl rfl (by rw [cutCells_size _ _ _ _ _ h8 rfl]; exact hC.there) (by rw [cutCells_size _ _ _ _ _ h8 rfl]; kernel_rfl) (cutCells_one ..)
        simp only [Act.put, List.setIfInBounds_toArray, List.set_cons_zero, List.set_cons_succ, List.getElem_toArray, List.getElem_cons_zero, List.getElem_cons_succ]
        go_wp2_with fail
        go_meet
        case rel => exact ⟨_, b, M, _, nv1, rfl, hcut, hnw, hfc⟩
  case rest =>
    obtain ⟨C, b, M, Mv, nv, rfl, hC0, hnw, hfc⟩ := hcut
    have hDc := HD.out.nw (hfW.trans hnw (fun i h => h.elim))
    have hroot : wc.cell? ⟨G, 2, none⟩ = some (.int .i64 (root : Int)) := hDc.blk.cell 2
    have hWl := HsW.out
    have hdis : ∀ k, (k = G ∨ k = g ∨ onv.ownBlock = some k) → ¬ FC C b M Mv nv k := fun k hk hF => by
      have h1 := HD.out.lt hk
      have h2 := hfc k hF
      omega
    have hcn : cnt vars.length ≤ 259 := by
      have hl : vars.length = 0 ∨ vars.length = 1 ∨ vars.length = 2 ∨ vars.length = 3 ∨ vars.length = 4 := by omega
      rcases hl with h | h | h | h | h <;> rw [h] <;> decide
    have hs0 : CSok s0 2 := ⟨by decide, by decide, by decide, rfl, zero8_lt, fun k x h => by cases h⟩
    have Hc := hd (cut_any C b M Mv G g cap onv vars os root dn h8 h4 hv hd64 hol vars.length 0 (by omega) root s0 nv 2 wc (by omega) (by omega) hs0 hlev hC0.out hDc hdis)
    have hok := cutTo_ok os vars dn hd64 vars.length 0 root s0 2 (by omega) hlev hs0
    have hfd : dDom os root vars dn = replTo vars dn (dCut os root vars dn).1.sp vars.length := rfl
    have hdc : dCut os root vars dn = cutTo os vars dn vars.length 0 root s0 := rfl
    rw [← hdc] at Hc hok
    obtain ⟨res, hres⟩ : ∃ res, dCut os root vars dn = res := ⟨_, rfl⟩
    rw [hres] at Hc hok hfd
    have Hres := hd hres
    have Hfd := hd hfd
    have hFW := hd (hfW.trans hnw (fun i h => h.elim))
    have HDc := hd hDc
    have Hdis := hd hdis
    have HC0 := hC0
    have Hfc := hd hfc
    have HbDc := hd (HbD.out.nw hnw)
    have HbRc := hd (HbR.out.nw hnw)
    clear hres hfd hdc hDc hdis hfc
    go_upto_region 3 with (go_at_call 121; refine Hc.out.mono ?_; rintro e A ⟨rfl, nv2, hCA, hfA, hnA⟩)
    have hDA := HDc.out.fr hfA Hdis.out
    have hAsz := hfA.size
    have hwcs := hnw.size
    have hTF : ∀ k, k < W.heap.size → ¬ FC C b M Mv nv k := fun k hk hF => by have := Hfc.out k hF; omega
    have hTA := HbDc.out.fr hfA (hTF _ (by omega))
    have hRA := HbRc.out.fr hfA (hTF _ (by omega))
    have e0 : A.cell? ⟨C, 0, none⟩ = some (.pointer (some ⟨b, 0, none⟩)) := hCA.blk.cell 0
    have e1 : A.cell? ⟨b, 0, none⟩ = some nv2 := hCA.bld.blk.cell 0
    have e2 : A.cell? ⟨G, 1, none⟩ = some onv := hDA.blk.cell 1
    have e3 : A.cell? ⟨G, 2, none⟩ = some (.int .i64 (root : Int)) := hDA.blk.cell 2
    have f1 := hDA.blk.free 1
    have f2 := hDA.blk.free 2
    obtain ⟨ng, ncap, hnv2⟩ : ∃ ng ncap, nv2 = .slice (some ⟨ng, 0, none⟩) res.1.ns.length ncap := by
      rcases hCA.bld.row.2 with ⟨_, h0⟩ | ⟨ng, ncap, cur, h, _⟩
      · have := hCA.bld.two; omega
      · exact ⟨ng, ncap, h⟩
    subst hnv2
    have HDA := hd hDA
    have HCA := hd hCA
    have HTA := hd hTA
    have HRA := hd hRA
    have HfA := hd hfA
    have hnA' : ∀ k, (Value.slice (some ⟨ng, 0, none⟩) res.1.ns.length ncap).ownBlock = some k → W.heap.size ≤ k := fun k hk => by
      rcases hnA k hk with h | h
      · exact Hfc.out k (.inr (.inr (.inr (.inr h))))
      · omega
    clear hDA hCA hTA hRA hfA hroot Hc hnA hWl
    go_upto_region 4 with fail
    have hne : g ≠ G := fun e => by subst e; exact HDA.out.rv.ne HDA.out.blk (by decide) rfl
    obtain ⟨Y, hY⟩ : ∃ Y, Y = (A.setCell ⟨G, 1, none⟩ (.slice (some ⟨ng, 0, none⟩) res.1.ns.length ncap)).setCell ⟨G, 2, none⟩ (.int .i64 (res.2 : Int)) := ⟨_, rfl⟩
    have hfY : Fr (fun k => k = G) A Y := by rw [hY]; exact ((Fr.refl (fun k => k = G) A).setCell ⟨G, 1, none⟩ _ (.inl rfl)).setCell ⟨G, 2, none⟩ _ (.inl rfl)
    have hGY : Blk Y G #[.slice (some ⟨g, 0, none⟩) vars.length cap, .slice (some ⟨ng, 0, none⟩) res.1.ns.length ncap, .int .i64 (res.2 : Int)] 125 := by
      rw [hY]
      have h5 := (HDA.out.blk.set 1 (.slice (some ⟨ng, 0, none⟩) res.1.ns.length ncap)).set 2 (.int .i64 (res.2 : Int))
      simpa using h5
    rw [← hY]
    have hWl := HsW.out
    have hngl := hnA' ng rfl
    have hDY : DAt Y G g cap (.slice (some ⟨ng, 0, none⟩) res.1.ns.length ncap) vars res.1.ns res.2 :=
      ⟨hGY, HDA.out.rv.fr hfY (fun k hk e => hne (by cases hk; exact e)), ownsRow.fr HCA.out.bld.row hfY (fun k hk e => by have := hnA' k hk; omega), HCA.out.bld.ok, HCA.out.bld.two⟩
    have hTY := HTA.out.fr hfY (by omega)
    have hRY := HRA.out.fr hfY (by omega)
    have hCl := Hfc.out C (.inl rfl)
    have hCY := HCA.out.blk.fr hfY (by omega)
    obtain ⟨m0, m1, m2, m3, m4, m5, m6, m7, hmv⟩ := domV8 hok.1.sp
    have Hmv := hd hmv
    have y0 : Y.cell? ⟨G, 0, none⟩ = some (.slice (some ⟨g, 0, none⟩) vars.length cap) := hGY.cell 0
    obtain ⟨c0, c1, c2, c3, c4, c5, c6, c7⟩ := cells8 (Hdv.out ▸ hTY)
    have z0 : Y.cell? ⟨C, 10, none⟩ = some m0 := (hCY.cell 10).trans (by have h := cutCells_sp b G dn res.1.sp Mv 0 h8 hok.1.sp (by omega); rw [h]; have h2 := domV_get res.1.sp 0 (by have := hok.1.sp; omega); rw [Hmv.out] at h2; exact h2.symm)
    have z1 : Y.cell? ⟨C, 11, none⟩ = some m1 := (hCY.cell 11).trans (by have h := cutCells_sp b G dn res.1.sp Mv 1 h8 hok.1.sp (by omega); rw [h]; have h2 := domV_get res.1.sp 1 (by have := hok.1.sp; omega); rw [Hmv.out] at h2; exact h2.symm)
    have z2 : Y.cell? ⟨C, 12, none⟩ = some m2 := (hCY.cell 12).trans (by have h := cutCells_sp b G dn res.1.sp Mv 2 h8 hok.1.sp (by omega); rw [h]; have h2 := domV_get res.1.sp 2 (by have := hok.1.sp; omega); rw [Hmv.out] at h2; exact h2.symm)
    have z3 : Y.cell? ⟨C, 13, none⟩ = some m3 := (hCY.cell 13).trans (by have h := cutCells_sp b G dn res.1.sp Mv 3 h8 hok.1.sp (by omega); rw [h]; have h2 := domV_get res.1.sp 3 (by have := hok.1.sp; omega); rw [Hmv.out] at h2; exact h2.symm)
    have z4 : Y.cell? ⟨C, 14, none⟩ = some m4 := (hCY.cell 14).trans (by have h := cutCells_sp b G dn res.1.sp Mv 4 h8 hok.1.sp (by omega); rw [h]; have h2 := domV_get res.1.sp 4 (by have := hok.1.sp; omega); rw [Hmv.out] at h2; exact h2.symm)
    have z5 : Y.cell? ⟨C, 15, none⟩ = some m5 := (hCY.cell 15).trans (by have h := cutCells_sp b G dn res.1.sp Mv 5 h8 hok.1.sp (by omega); rw [h]; have h2 := domV_get res.1.sp 5 (by have := hok.1.sp; omega); rw [Hmv.out] at h2; exact h2.symm)
    have z6 : Y.cell? ⟨C, 16, none⟩ = some m6 := (hCY.cell 16).trans (by have h := cutCells_sp b G dn res.1.sp Mv 6 h8 hok.1.sp (by omega); rw [h]; have h2 := domV_get res.1.sp 6 (by have := hok.1.sp; omega); rw [Hmv.out] at h2; exact h2.symm)
    have z7 : Y.cell? ⟨C, 17, none⟩ = some m7 := (hCY.cell 17).trans (by have h := cutCells_sp b G dn res.1.sp Mv 7 h8 hok.1.sp (by omega); rw [h]; have h2 := domV_get res.1.sp 7 (by have := hok.1.sp; omega); rw [Hmv.out] at h2; exact h2.symm)
    have hFY : Fr (fun k => k = G) w Y := ((hFW.out.mono (S' := fun k => k = G) (fun i h => h.elim)).trans HfA.out (fun k h => .inr (by have := Hfc.out k h; omega))).trans hfY (fun k h => .inl h)
    have HFY := hd hFY
    have HDY := hd hDY
    have HRY := hd hRY
    have Hv2 := hd (hDY.rv.drew.ints)
    clear hFY hDY hRY hTY hCY hGY hY hmv hfY e0 e1 e2 e3 f1 f2 hWl
    go_still_tail 7, (by kernel_rfl)
    go_wp2_with fail
    rw [← Hdv.out, ← Hmv.out]
    refine (replaced_any (some ⟨g, 0, none⟩) cap vars dn res.1.sp _ h4 hv Hv2.out h8 hok.1.sp).mono ?_
    rintro e w3 ⟨rfl, hf3⟩
    have hrl : (replTo vars dn res.1.sp vars.length).length = 8 := by rw [replTo_length]; exact h8
    obtain ⟨r0, r1, r2, r3, r4, r5, r6, r7, hrv⟩ := domV8 hrl
    have hR3 := HRY.out.drew.nw hf3
    obtain ⟨t0, t1, t2, t3, t4, t5, t6, t7⟩ := cells8 hR3
    have hfz : ∀ i, w3.frozen? ⟨w.heap.size + 1, i, none⟩ = false := hR3.free
    rw [hrv]
    have Hrv := hd hrv
    have HR3 := hd hR3
    have HF3 : Hid (Fr (fun k => k = G) w w3) := (HFY.out.drew).trans hf3 (fun i h => h.elim)
    have HD3 := hd (HDY.out.nw (Fr.trans ((Fr.refl (fun _ => False) Y).drew) hf3 (fun i h => h.elim)))
    have ho := domV_one (replTo vars dn res.1.sp vars.length) hrv
    clear hrv hR3 c0 c1 c2 c3 c4 c5 c6 c7 z0 z1 z2 z3 z4 z5 z6 z7
    obtain ⟨⟨p0, rfl⟩, ⟨p1, rfl⟩, ⟨p2, rfl⟩, ⟨p3, rfl⟩, ⟨p4, rfl⟩, ⟨p5, rfl⟩, ⟨p6, rfl⟩, ⟨p7, rfl⟩⟩ := ho
    go_wp2
    have hWl := HsW.out
    have hB := Blk.put8' HR3.out Hrv.out
    have hF8 := HF3.out.set8 (w.heap.size + 1) 0 1 2 3 4 5 6 7 (.int .u8 p0) (.int .u8 p1) (.int .u8 p2) (.int .u8 p3) (.int .u8 p4) (.int .u8 p5) (.int .u8 p6) (.int .u8 p7) (.inr (by omega))
    have hFg := (Fr.refl (fun k => k = w.heap.size + 1) w3).set8 (w.heap.size + 1) 0 1 2 3 4 5 6 7 (.int .u8 p0) (.int .u8 p1) (.int .u8 p2) (.int .u8 p3) (.int .u8 p4) (.int .u8 p5) (.int .u8 p6) (.int .u8 p7) (.inl rfl)
    have hD8 := HD3.out.fr hFg (fun k hk e => by
      rcases hk with h | h | h
      · omega
      · have := HD.out.lt (.inr (.inl h)); omega
      · have := hnA' k h; omega)
    generalize hX8 : ((((((((w3.setCell ⟨w.heap.size + 1, 0, none⟩ (Value.int .u8 p0)).setCell ⟨w.heap.size + 1, 1, none⟩ (Value.int .u8 p1)).setCell ⟨w.heap.size + 1, 2, none⟩ (Value.int .u8 p2)).setCell ⟨w.heap.size + 1, 3, none⟩ (Value.int .u8 p3)).setCell ⟨w.heap.size + 1, 4, none⟩ (Value.int .u8 p4)).setCell ⟨w.heap.size + 1, 5, none⟩ (Value.int .u8 p5)).setCell ⟨w.heap.size + 1, 6, none⟩ (Value.int .u8 p6)).setCell ⟨w.heap.size + 1, 7, none⟩ (Value.int .u8 p7)) = X8 at hB hF8 hD8 ⊢
    obtain ⟨q0, q1, q2, q3, q4, q5, q6, q7⟩ := cells8 (Hrv.out ▸ hB)
    refine bodyPost_ret (v := .agg (domV (dDom os root vars dn))) ?_ rfl ⟨rfl, hF8, _, by rw [Hres.out]; exact hD8, fun k hk => by have := hnA' k hk; omega⟩
    rw [Hfd.out, Hrv.out]
    simp [results, Tryz.results118, go_sem, q0, q1, q2, q3, q4, q5, q6, q7]

set_option maxHeartbeats 800000 in
set_option maxRecDepth 1000000 in
theorem dState_any (G g cap : Nat) (onv : Value) (vars : List Int) (os : List (List Nat)) (root : Nat) (w : World) (hD : DAt w G g cap onv vars os root) :
    Calls Tryz.prog 119 #[.pointer (some ⟨G, 0, none⟩)] w fun e w' => e = .returned (.agg #[.int .u64 0, onv, .int .i64 (root : Int)]) ∧ Nw w w' := by
  obtain ⟨og, ocap, hon, _⟩ := hD.node
  subst hon
  have hf : Nw w (w.alloc (.cells #[.int .u64 0, .slice none 0 0, .int .i64 0] 137)) := (Fr.refl _ w).alloc _
  obtain ⟨W, hW⟩ : ∃ W, W = w.alloc (.cells #[.int .u64 0, .slice none 0 0, .int .i64 0] 137) := ⟨_, rfl⟩
  have hb : Blk W w.heap.size #[.int .u64 0, .slice none 0 0, .int .i64 0] 137 := by rw [hW]; exact Blk.new _ _ _
  have hfW : Nw w W := by rw [hW]; exact hf
  have e1 : W.cell? ⟨G, 1, none⟩ = some (.slice (some ⟨og, 0, none⟩) os.length ocap) := (hD.nw hfW).blk.cell 1
  have e2 : W.cell? ⟨G, 2, none⟩ = some (.int .i64 (root : Int)) := (hD.nw hfW).blk.cell 2
  have q0 : W.cell? ⟨w.heap.size, 0, none⟩ = some (.int .u64 0) := hb.cell 0
  have q1 : W.cell? ⟨w.heap.size, 1, none⟩ = some (.slice none 0 0) := hb.cell 1
  have q2 : W.cell? ⟨w.heap.size, 2, none⟩ = some (.int .i64 0) := hb.cell 2
  have f0 := hb.free
  have Hb := hd hb
  have HW := hd hW
  clear hb hW hD hf
  go_enter Tryz.func119, Tryz.ntmps119
  go_upto_region 1 with fail
  rw [← HW.out]
  go_still_tail 9, (by kernel_rfl)
  go_wp2
  have hB := ((Hb.out.set 0 (.int .u64 0)).set 1 (.slice (some ⟨og, 0, none⟩) os.length ocap)).set 2 (.int .i64 (root : Int))
  have hF := (((hfW.setCell ⟨w.heap.size, 0, none⟩ (.int .u64 0) (.inr (Nat.le_refl _))).setCell ⟨w.heap.size, 1, none⟩ (.slice (some ⟨og, 0, none⟩) os.length ocap) (.inr (Nat.le_refl _))).setCell ⟨w.heap.size, 2, none⟩ (.int .i64 (root : Int)) (.inr (Nat.le_refl _))).drew
  obtain ⟨X, hX⟩ : ∃ X, X = (((W.setCell ⟨w.heap.size, 0, none⟩ (Value.int .u64 0)).setCell ⟨w.heap.size, 1, none⟩ (Value.slice (some ⟨og, 0, none⟩) os.length ocap)).setCell ⟨w.heap.size, 2, none⟩ (Value.int .i64 (root : Int))).drew := ⟨_, rfl⟩
  have hB' : Blk X w.heap.size #[.int .u64 0, .slice (some ⟨og, 0, none⟩) os.length ocap, .int .i64 (root : Int)] 137 := by
    rw [hX]
    have h5 := hB.drew
    simpa using h5
  rw [← hX] at hF ⊢
  have p0 : X.cell? ⟨w.heap.size, 0, none⟩ = some (.int .u64 0) := hB'.cell 0
  have p1 : X.cell? ⟨w.heap.size, 1, none⟩ = some (.slice (some ⟨og, 0, none⟩) os.length ocap) := hB'.cell 1
  have p2 : X.cell? ⟨w.heap.size, 2, none⟩ = some (.int .i64 (root : Int)) := hB'.cell 2
  refine bodyPost_ret (v := .agg #[.int .u64 0, .slice (some ⟨og, 0, none⟩) os.length ocap, .int .i64 (root : Int)]) ?_ rfl ⟨rfl, hF⟩
  simp [results, Tryz.results119, go_sem, p0, p1, p2]

theorem meth_dchanged (G : Nat) (v : Value) (W : World) (h : W.cell? ⟨G, 0, none⟩ = some v) :
    (method 292 89 (.pointer (some ⟨G, 0, none⟩)) "Changed").run Tryz.prog W = .ok (116, .agg #[v]) W := by
  have h1 : (method 292 89 (.pointer (some ⟨G, 0, none⟩)) "Changed").run Tryz.prog W =
      match W.cell? ⟨G, 0, none⟩ with
      | some v => .ok (116, .agg #[v]) W
      | none => match W.farLoad Tryz.prog ⟨G, 0, none⟩ (Mode.plain == .atomic) with
        | .ok (v, _) => .ok (116, .agg #[v]) W
        | .error h => .halt h W := by kernel_rfl
  rw [h1, h]
theorem meth_dnarrow (G : Nat) (W : World) : (method 292 89 (.pointer (some ⟨G, 0, none⟩)) "Narrow").run Tryz.prog W = .ok (118, .pointer (some ⟨G, 0, none⟩)) W := by kernel_rfl
theorem meth_dstate (G : Nat) (W : World) : (method 292 89 (.pointer (some ⟨G, 0, none⟩)) "State").run Tryz.prog W = .ok (119, .pointer (some ⟨G, 0, none⟩)) W := by kernel_rfl

set_option maxHeartbeats 800000 in
set_option maxRecDepth 1000000 in
/-- Make at Way 2. -/
theorem make2_any (vb vof : Nat) (ro : Option Addr) (vcap rcap : Nat) (vars : List Int) (rows : List (List Int)) (nt : Bool) (dn : List Nat) (w : World) (h8 : dn.length = 8) (hv0 : 0 < vars.length) (h4 : vars.length ≤ 4)
    (hv : ∀ i, i < vars.length → 0 ≤ vars.getD i 0 ∧ vars.getD i 0 < 8) (hd64 : ∀ q, dn.getD q 0 < 64) (hrl : rows.length ≤ 60) (hrow : ∀ j, j < rows.length → (rows.getD j []).length = vars.length)
    (hvs : IntsAt w (some ⟨vb, vof, none⟩) vars) (hrs : RowsAt w ro rows) :
    Calls Tryz.prog 26 #[.agg #[.slice (some ⟨vb, vof, none⟩) vars.length vcap, .slice ro rows.length rcap, .bool nt, .int .i64 2], .agg (domV dn)] w fun e w' =>
      ∃ G g cap nv, e = .returned (.iface 89 (.pointer (some ⟨G, 0, none⟩))) ∧ Nw w w' ∧ DAt w' G g cap nv vars (bldTo vars nt dn vars.length 0 rows [zero6, zero6]).1 (bldTo vars nt dn vars.length 0 rows [zero6, zero6]).2 ∧ w.heap.size ≤ G ∧ w.heap.size ≤ g ∧ (∀ k, nv.ownBlock = some k → w.heap.size ≤ k) := by
  obtain ⟨v0, v1, v2, v3, v4, v5, v6, v7, hdv⟩ := domV8 h8
  obtain ⟨W, hW⟩ : ∃ W, W = (w.alloc (.cells #[.slice (some ⟨vb, vof, none⟩) vars.length vcap, .slice ro rows.length rcap, .bool nt, .int .i64 2] 41)).alloc (.cells (domV dn) 60) := ⟨_, rfl⟩
  have hfW : Nw w W := by rw [hW]; exact ((Fr.refl _ w).alloc _).alloc _
  have hbT : Blk W w.heap.size #[.slice (some ⟨vb, vof, none⟩) vars.length vcap, .slice ro rows.length rcap, .bool nt, .int .i64 2] 41 := by rw [hW]; exact (Blk.new _ _ _).alloc _
  have hbD : Blk W (w.heap.size + 1) (domV dn) 60 := by
    rw [hW]
    have := Blk.new (w.alloc (.cells #[.slice (some ⟨vb, vof, none⟩) vars.length vcap, .slice ro rows.length rcap, .bool nt, .int .i64 2] 41)) (domV dn) 60
    rw [alsz] at this
    exact this
  have t0 : W.cell? ⟨w.heap.size, 0, none⟩ = some (.slice (some ⟨vb, vof, none⟩) vars.length vcap) := hbT.cell 0
  have t1 : W.cell? ⟨w.heap.size, 1, none⟩ = some (.slice ro rows.length rcap) := hbT.cell 1
  have t2 : W.cell? ⟨w.heap.size, 2, none⟩ = some (.bool nt) := hbT.cell 2
  have t3 : W.cell? ⟨w.heap.size, 3, none⟩ = some (.int .i64 2) := hbT.cell 3
  obtain ⟨c0, c1, c2, c3, c4, c5, c6, c7⟩ := cells8 (hdv ▸ hbD)
  have Hn := hd (newDiagram_any vb vof ro vcap rcap vars rows nt 2 dn W h8 hv0 h4 hv hd64 hrl hrow (hvs.nw hfW) (hrs.nw hfW))
  have HW := hd hW
  have Hdv := hd hdv
  clear hW hbT hbD hdv
  go_enter Tryz.func26, Tryz.ntmps26
  go_upto_region 1 with fail
  rw [← HW.out]
  go_wp2_with fail
  rw [← Hdv.out]
  refine Hn.out.mono ?_
  rintro e w1 ⟨G, g, cap, nv, rfl, hf1, hD1, hGl, hgl, hnl⟩
  have hs := hfW.size
  go_wp2
  go_ret
  exact ⟨G, g, cap, nv, rfl, hfW.trans hf1 (fun i h => h.elim), hD1, by omega, by omega, fun k hk => by have := hnl k hk; omega⟩
end Go.Proofs.YtkjfpdfkcfgfkaaGreat

/- Contract of PutBack, by both kinds. -/
namespace Go.Proofs.YtkjfpdfkcfgfkaaGreat
open Go.RowKit

theorem ta_rs (G : Nat) (W : World) : (Instr.typeAssert (.iface 91 (.pointer (some ⟨G, 0, none⟩))) 73 91 true).run Tryz.prog W = .ok (.tuple #[.pointer (some ⟨G, 0, none⟩), .bool true]) W := by kernel_rfl
theorem ta_dno (G : Nat) (W : World) : (Instr.typeAssert (.iface 89 (.pointer (some ⟨G, 0, none⟩))) 73 91 true).run Tryz.prog W = .ok (.tuple #[.pointer none, .bool false]) W := by kernel_rfl
theorem ta_d (G : Nat) (W : World) : (Instr.typeAssert (.iface 89 (.pointer (some ⟨G, 0, none⟩))) 73 89 true).run Tryz.prog W = .ok (.tuple #[.pointer (some ⟨G, 0, none⟩), .bool true]) W := by kernel_rfl

set_option maxHeartbeats 1600000 in
set_option maxRecDepth 1000000 in
theorem putBack_rs (G : Nat) (vv : Value) (nt : Bool) (br : List Nat) (live live0 : Nat) (nv : Value) (r : Int) (w : World) (h24 : br.length = 24) (hG : Blk w G (rsCells vv nt br live) 131) :
    Calls Tryz.prog 74 #[.iface 91 (.pointer (some ⟨G, 0, none⟩)), .agg #[.int .u64 (live0 : Int), nv, .int .i64 r]] w fun e w' => e = .returned (.tuple #[]) ∧ Fr (fun k => k = G) w w' ∧ Blk w' G (rsCells vv nt br live0) 131 := by
  obtain ⟨W, hW⟩ : ∃ W, W = w.alloc (.cells #[.int .u64 (live0 : Int), nv, .int .i64 r] 137) := ⟨_, rfl⟩
  have hfW : Nw w W := by rw [hW]; exact (Fr.refl _ w).alloc _
  have hb : Blk W w.heap.size #[.int .u64 (live0 : Int), nv, .int .i64 r] 137 := by rw [hW]; exact Blk.new _ _ _
  have hGW := hG.nw hfW
  have c0 : W.cell? ⟨w.heap.size, 0, none⟩ = some (.int .u64 (live0 : Int)) := hb.cell 0
  have c1 : W.cell? ⟨G, 26, none⟩ = some (.int .u64 (live : Int)) := (hGW.cell 26).trans (rsCells_live _ _ _ _ h24)
  have f1 := hGW.free 26
  have HGW := hd hGW
  have HW := hd hW
  have hta := ta_rs G
  clear hb hGW hG hW
  go_enter Tryz.func74, Tryz.ntmps74
  go_upto_region 1 with fail
  rw [← HW.out]
  go_wp2
  go_end0
  refine ⟨rfl, (hfW.mono (fun i h => h.elim)).setCell _ _ (.inl rfl), ?_⟩
  have h5 := HGW.out.set 26 (.int .u64 (live0 : Int))
  rw [rsCells_setLive _ _ _ _ _ h24] at h5
  exact h5

set_option maxHeartbeats 1600000 in
set_option maxRecDepth 1000000 in
theorem putBack_d (G g cap : Nat) (onv nv : Value) (vars : List Int) (os ns : List (List Nat)) (root r : Nat) (u : Value) (w : World) (hD : DAt w G g cap onv vars os root) (hrow : w.ownsRow 0 151 6 nv ns.length (ns.flatMap nodeC)) (hok : ∀ n ∈ ns, NodeOk n) (h2 : 2 ≤ ns.length) (hnG : nv.ownBlock ≠ some G) :
    Calls Tryz.prog 74 #[.iface 89 (.pointer (some ⟨G, 0, none⟩)), .agg #[u, nv, .int .i64 (r : Int)]] w fun e w' => e = .returned (.tuple #[]) ∧ Fr (fun k => k = G) w w' ∧ DAt w' G g cap nv vars ns r := by
  obtain ⟨ng, ncap, hnv⟩ : ∃ ng ncap, nv = .slice (some ⟨ng, 0, none⟩) ns.length ncap := by
    rcases hrow.2 with ⟨_, h0⟩ | ⟨ng, ncap, cur, h, _⟩
    · omega
    · exact ⟨ng, ncap, h⟩
  subst hnv
  obtain ⟨W, hW⟩ : ∃ W, W = w.alloc (.cells #[u, .slice (some ⟨ng, 0, none⟩) ns.length ncap, .int .i64 (r : Int)] 137) := ⟨_, rfl⟩
  have hfW : Nw w W := by rw [hW]; exact (Fr.refl _ w).alloc _
  have hb : Blk W w.heap.size #[u, .slice (some ⟨ng, 0, none⟩) ns.length ncap, .int .i64 (r : Int)] 137 := by rw [hW]; exact Blk.new _ _ _
  have hDW := hD.nw hfW
  have c0 : W.cell? ⟨w.heap.size, 1, none⟩ = some (.slice (some ⟨ng, 0, none⟩) ns.length ncap) := hb.cell 1
  have c1 : W.cell? ⟨w.heap.size, 2, none⟩ = some (.int .i64 (r : Int)) := hb.cell 2
  have e1 : W.cell? ⟨G, 1, none⟩ = some onv := hDW.blk.cell 1
  have e2 : W.cell? ⟨G, 2, none⟩ = some (.int .i64 (root : Int)) := hDW.blk.cell 2
  have f1 := hDW.blk.free
  have hta := ta_dno G
  have htb := ta_d G
  have hGl0 := hD.blk.lt
  have HDW := hd hDW
  have HW := hd hW
  have Hb := hd hb
  clear hb hDW hD hW
  go_enter Tryz.func74, Tryz.ntmps74
  go_upto_region 1 with fail
  rw [← HW.out]
  go_upto_region 7 with fail
  have hGlt := HDW.out.blk.lt
  have hGl : G < w.heap.size := hGl0
  have hK0 : Blk W.drew w.heap.size #[u, .slice (some ⟨ng, 0, none⟩) ns.length ncap, .int .i64 (r : Int)] 137 := Hb.out.drew
  refine wp_region_held (S := fun w'' => Blk w'' w.heap.size #[u, .slice (some ⟨ng, 0, none⟩) ns.length ncap, .int .i64 (r : Int)] 137) (by kernel_rfl) ?_
  refine wpAnyH_take (i := 0) (v := .pointer (some ⟨G, 0, none⟩)) rfl (by kernel_rfl) (by kernel_rfl) (by kernel_rfl) (fun _ _ _ h => h) (.inl ⟨by kernel_rfl, fun w'' hS => by kernel_rfl⟩) hK0 ?_
  refine wpAnyH_take (i := 1) (v := .pointer (some ⟨G, 0, none⟩)) rfl (by kernel_rfl) (by kernel_rfl) (by kernel_rfl) (fun _ _ _ h => h) (.inl ⟨by kernel_rfl, fun w'' hS => by kernel_rfl⟩) hK0 ?_
  refine wpAnyH_take (i := 2) (v := .pointer (some ⟨w.heap.size, 1, none⟩)) rfl (by kernel_rfl) (by kernel_rfl) (by kernel_rfl) (fun _ _ _ h => h) (.inl ⟨by kernel_rfl, fun w'' hS => by kernel_rfl⟩) hK0 ?_
  refine wpAnyH_take (i := 3) (v := .slice (some ⟨ng, 0, none⟩) ns.length ncap) rfl (by kernel_rfl) (by kernel_rfl) (by kernel_rfl) (fun _ _ _ h => h) (.inl ⟨by kernel_rfl, fun w'' hS => ?_⟩) hK0 ?_
  · have q0 : w''.cell? ⟨w.heap.size, 1, none⟩ = some (.slice (some ⟨ng, 0, none⟩) ns.length ncap) := hS.cell 1
    clear hK0 hS hok hrow hta htb f1
    simp only [Act.put, List.setIfInBounds_toArray, List.set_cons_zero, List.set_cons_succ, List.getElem_toArray, List.getElem_cons_zero, List.getElem_cons_succ]
    go_simp
  refine wpAnyH_take (i := 4) (v := .pointer (some ⟨w.heap.size, 2, none⟩)) rfl (by kernel_rfl) (by kernel_rfl) (by kernel_rfl) (fun _ _ _ h => h) (.inl ⟨by kernel_rfl, fun w'' hS => by kernel_rfl⟩) hK0 ?_
  refine wpAnyH_take (i := 5) (v := .int .i64 (r : Int)) rfl (by kernel_rfl) (by kernel_rfl) (by kernel_rfl) (fun _ _ _ h => h) (.inl ⟨by kernel_rfl, fun w'' hS => ?_⟩) hK0 ?_
  · have q0 : w''.cell? ⟨w.heap.size, 2, none⟩ = some (.int .i64 (r : Int)) := hS.cell 2
    clear hK0 hS hok hrow hta htb f1
    simp only [Act.put, List.setIfInBounds_toArray, List.set_cons_zero, List.set_cons_succ, List.getElem_toArray, List.getElem_cons_zero, List.getElem_cons_succ]
    go_simp
  refine wpAnyH_take (i := 6) (v := .pointer (some ⟨G, 0, none⟩)) rfl (by kernel_rfl) (by kernel_rfl) (by kernel_rfl) (fun _ _ _ h => h) (.inl ⟨by kernel_rfl, fun w'' hS => by kernel_rfl⟩) hK0 ?_
  refine wpAnyH_take (i := 7) (v := .pointer (some ⟨G, 1, none⟩)) rfl (by kernel_rfl) (by kernel_rfl) (by kernel_rfl) (fun _ _ _ h => h) (.inl ⟨by kernel_rfl, fun w'' hS => by kernel_rfl⟩) hK0 ?_
  obtain ⟨Y, hY⟩ : ∃ Y, Y = W.drew.setCell ⟨G, 1, none⟩ (.slice (some ⟨ng, 0, none⟩) ns.length ncap) := ⟨_, rfl⟩
  have hfY : Fr (fun k => k = G) W Y := by rw [hY]; exact ((Fr.refl (fun k => k = G) W).drew).setCell ⟨G, 1, none⟩ _ (.inl rfl)
  have hGY : Blk Y G #[.slice (some ⟨g, 0, none⟩) vars.length cap, .slice (some ⟨ng, 0, none⟩) ns.length ncap, .int .i64 (root : Int)] 125 := by
    rw [hY]
    have h5 := HDW.out.blk.drew.set 1 (.slice (some ⟨ng, 0, none⟩) ns.length ncap)
    simpa using h5
  have hTY : Blk Y w.heap.size #[u, .slice (some ⟨ng, 0, none⟩) ns.length ncap, .int .i64 (r : Int)] 137 := Hb.out.fr hfY (by omega)
  refine wpAnyH_all (rs := [8]) (by kernel_rfl) (by simp) (fun j hj => ?_)
  obtain rfl : j = 8 := by simpa using hj
  refine op_skip (w' := Y) rfl (by kernel_rfl) ?_ ⟨hTY, ?_⟩
  · rw [hY]
    clear hK0 hok hrow hta htb hY hfY hGY hTY
    simp only [Act.put, List.setIfInBounds_toArray, List.set_cons_zero, List.set_cons_succ, List.getElem_toArray, List.getElem_cons_zero, List.getElem_cons_succ]
    go_simp
  clear hY
  refine wpAnyH_all (rs := [9]) (by kernel_rfl) (by simp) (fun j hj => ?_)
  obtain rfl : j = 9 := by simpa using hj
  refine op_value (v := .pointer (some ⟨G, 0, none⟩)) (w' := Y) rfl (by kernel_rfl) (by kernel_rfl) ⟨hTY, ?_⟩
  refine wpAnyH_all (rs := [10]) (by kernel_rfl) (by simp) (fun j hj => ?_)
  obtain rfl : j = 10 := by simpa using hj
  refine op_value (v := .pointer (some ⟨G, 2, none⟩)) (w' := Y) rfl (by kernel_rfl) (by kernel_rfl) ⟨hTY, ?_⟩
  have y2 : Y.cell? ⟨G, 2, none⟩ = some (.int .i64 (root : Int)) := hGY.cell 2
  have g2 := hGY.free 2
  obtain ⟨Z, hZ⟩ : ∃ Z, Z = Y.setCell ⟨G, 2, none⟩ (.int .i64 (r : Int)) := ⟨_, rfl⟩
  have hfZ : Fr (fun k => k = G) Y Z := by rw [hZ]; exact (Fr.refl (fun k => k = G) Y).setCell ⟨G, 2, none⟩ _ (.inl rfl)
  have hGZ : Blk Z G #[.slice (some ⟨g, 0, none⟩) vars.length cap, .slice (some ⟨ng, 0, none⟩) ns.length ncap, .int .i64 (r : Int)] 125 := by
    rw [hZ]
    have h5 := hGY.set 2 (.int .i64 (r : Int))
    simpa using h5
  refine wpAnyH_all (rs := [11]) (by kernel_rfl) (by simp) (fun j hj => ?_)
  obtain rfl : j = 11 := by simpa using hj
  refine op_skip (w' := Z) rfl (by kernel_rfl) ?_ ⟨hTY.fr hfZ (by omega), wpAnyH_done (by kernel_rfl) ?_ _⟩
  · rw [hZ]
    clear hK0 hok hrow hta htb hfY hGY hTY hZ hfZ hGZ f1 e1 e2 c0 c1
    simp only [Act.put, List.setIfInBounds_toArray, List.set_cons_zero, List.set_cons_succ, List.getElem_toArray, List.getElem_cons_zero, List.getElem_cons_succ]
    go_simp
  simp only [Act.put, List.setIfInBounds_toArray, List.set_cons_zero, List.set_cons_succ, List.getElem_toArray, List.getElem_cons_zero, List.getElem_cons_succ]
  have hFZ : Fr (fun k => k = G) w Z := ((hfW.mono (fun i h => h.elim)).trans hfY (fun k h => .inl h)).trans hfZ (fun k h => .inl h)
  have hWZ : Fr (fun k => k = G) W Z := hfY.trans hfZ (fun k h => .inl h)
  have hDZ : DAt Z G g cap (.slice (some ⟨ng, 0, none⟩) ns.length ncap) vars ns r :=
    ⟨hGZ, HDW.out.rv.fr hWZ (fun k hk e => by subst e; exact HDW.out.rv.ne HDW.out.blk (by decide) hk), ownsRow.fr (ownsRow.fr hrow hfW (fun _ _ x => x)) hWZ (fun k hk e => hnG (by rw [← e]; exact hk)), hok, h2⟩
  have HFZ := hd hFZ
  have HDZ := hd hDZ
  clear hFZ hWZ hDZ hGZ hfZ hZ hGY hTY hfY hK0 c0 c1 e1 e2 f1 y2 g2 hta htb
  go_wp2
  go_end0
  exact ⟨rfl, HFZ.out, HDZ.out⟩
end Go.Proofs.YtkjfpdfkcfgfkaaGreat

/- Diagrams that build and cut make: every node lies at one depth. -/
namespace Go.Proofs.YtkjfpdfkcfgfkaaGreat

theorem nodeAt_app (os ex : List (List Nat)) (old v : Nat) (h : old < os.length) : nodeAt (os ++ ex) old v = nodeAt os old v := by
  simp [nodeAt, List.getD, List.getElem?_append_left h]
theorem lev_app (os ex : List (List Nat)) : ∀ (m old : Nat), levOk os m old → levOk (os ++ ex) m old
  | 0, _, h => h
  | m + 1, old, h => by
    rcases h with h | ⟨h2, hl, h⟩
    · exact .inl h
    · refine .inr ⟨h2, by simp; omega, fun v hv => ?_⟩
      rw [nodeAt_app os ex old v hl]
      exact lev_app os ex m _ (h v hv)
/-- ns' is ns with more behind it. -/
def Pre (ns ns' : List (List Nat)) : Prop := ∃ ex, ns' = ns ++ ex
theorem Pre.refl (ns : List (List Nat)) : Pre ns ns := ⟨[], by simp⟩
theorem Pre.trans {a b c : List (List Nat)} (h : Pre a b) (k : Pre b c) : Pre a c := by
  obtain ⟨x, rfl⟩ := h
  obtain ⟨y, rfl⟩ := k
  exact ⟨x ++ y, by simp⟩
theorem Pre.lev {a b : List (List Nat)} (h : Pre a b) {m old : Nat} (hl : levOk a m old) : levOk b m old := by
  obtain ⟨x, rfl⟩ := h
  exact lev_app a x m old hl
theorem lev_zero (os : List (List Nat)) : ∀ m, levOk os m 0
  | 0 => by show 0 < 2; omega
  | _ + 1 => .inl rfl
theorem idx_get (n : List Nat) : ∀ (l : List (List Nat)) (k j : Nat), idx n l k = some j → k ≤ j ∧ l.getD (j - k) [] = n
  | [], k, j, h => by simp [idx] at h
  | x :: r, k, j, h => by
    simp only [idx] at h
    split at h
    · rename_i hx
      cases h
      simp [hx]
    · have := idx_get n r (k + 1) j h
      refine ⟨by omega, ?_⟩
      rw [show j - k = (j - (k + 1)) + 1 by omega]
      simpa using this.2
theorem numOf_get (ns : List (List Nat)) (n : List Nat) (k : Nat) (h : numOf ns n = some k) : 2 ≤ k ∧ k < ns.length ∧ ns.getD k [] = n := by
  have h1 := idx_get n (ns.drop 2) 2 k h
  have h2 := idx_lt n (ns.drop 2) 2 k h
  simp only [List.length_drop] at h2
  refine ⟨h1.1, by omega, ?_⟩
  have h3 := h1.2
  simp only [List.getD, List.getElem?_drop] at h3 ⊢
  rw [show 2 + (k - 2) = k by omega] at h3
  exact h3
theorem numberTo_pre (ns : List (List Nat)) (n : List Nat) : Pre ns (numberTo ns n).1 := by
  unfold numberTo
  split
  · exact Pre.refl _
  · split
    · exact Pre.refl _
    · exact ⟨[n], rfl⟩
theorem numberTo_lev (ns : List (List Nat)) (h2 : 2 ≤ ns.length) (n : List Nat) (m : Nat) (h : ∀ v, v < 6 → levOk ns m (n.getD v 0)) : levOk (numberTo ns n).1 (m + 1) (numberTo ns n).2 := by
  unfold numberTo
  split
  · exact .inl rfl
  · split
    · rename_i k hk
      obtain ⟨h1, h3, h4⟩ := numOf_get ns n k hk
      refine .inr ⟨h1, h3, fun v hv => ?_⟩
      show levOk ns m ((ns.getD k []).getD v 0)
      rw [h4]
      exact h v hv
    · refine .inr ⟨h2, by simp, fun v hv => ?_⟩
      show levOk (ns ++ [n]) m (((ns ++ [n]).getD ns.length []).getD v 0)
      have e : (ns ++ [n]).getD ns.length [] = n := by simp [List.getD]
      rw [e]
      exact lev_app ns [n] m _ (h v hv)

/-- What build leaves is levelled. -/
theorem bldTo_lev (vars : List Int) (nt : Bool) (dn : List Nat) : ∀ (m i : Nat) (rows : List (List Int)) (ns : List (List Nat)), 2 ≤ ns.length → Pre ns (bldTo vars nt dn m i rows ns).1 ∧ levOk (bldTo vars nt dn m i rows ns).1 m (bldTo vars nt dn m i rows ns).2
  | 0, i, rows, ns, _ => by
    unfold bldTo
    split
    · exact ⟨Pre.refl _, by show 0 < 2; omega⟩
    · split
      · exact ⟨Pre.refl _, by show 0 < 2; omega⟩
      · exact ⟨Pre.refl _, by show 1 < 2; omega⟩
  | m + 1, i, rows, ns, h2 => by
    unfold bldTo
    split
    · exact ⟨Pre.refl _, .inl rfl⟩
    · have key := foldl_keep (fun (st : List (List Nat) × List Nat) => Pre ns st.1 ∧ st.2.length = 6 ∧ ∀ v, v < 6 → levOk st.1 m (st.2.getD v 0)) (bldStep (bldTo vars nt dn m (i + 1)) rows i) (vals (dn.getD (vars.getD i 0).toNat 0)) (ns, zero6)
        (fun st v _ hst => by
          have hl : 2 ≤ st.1.length := by
            obtain ⟨ex, he⟩ := hst.1
            rw [he]
            simp
            omega
          have ih := bldTo_lev vars nt dn m (i + 1) (bearRows rows i v) st.1 hl
          refine ⟨hst.1.trans ih.1, by simp [bldStep, hst.2.1], fun u hu => ?_⟩
          show levOk (bldTo vars nt dn m (i + 1) (bearRows rows i v) st.1).1 m ((st.2.set v (bldTo vars nt dn m (i + 1) (bearRows rows i v) st.1).2).getD u 0)
          by_cases hvu : v = u
          · subst hvu
            have e : (st.2.set v (bldTo vars nt dn m (i + 1) (bearRows rows i v) st.1).2).getD v 0 = (bldTo vars nt dn m (i + 1) (bearRows rows i v) st.1).2 := by simp [List.getD, hst.2.1, hu]
            rw [e]
            exact ih.2
          · have e : (st.2.set v (bldTo vars nt dn m (i + 1) (bearRows rows i v) st.1).2).getD u 0 = st.2.getD u 0 := by simp [List.getD, hvu]
            rw [e]
            exact ih.1.lev (hst.2.2 u hu)) ⟨Pre.refl _, rfl, fun v hv => by
          have e : zero6.getD v 0 = 0 := by
            rcases v with _ | _ | _ | _ | _ | _ | v <;> first | rfl | omega
          show levOk ns m (zero6.getD v 0)
          rw [e]
          exact lev_zero ns m⟩
      generalize (vals (dn.getD (vars.getD i 0).toNat 0)).foldl (bldStep (bldTo vars nt dn m (i + 1)) rows i) (ns, zero6) = st at key
      have hl : 2 ≤ st.1.length := by
        obtain ⟨ex, he⟩ := key.1
        rw [he]
        simp
        omega
      exact ⟨key.1.trans (numberTo_pre st.1 st.2), numberTo_lev st.1 hl st.2 m key.2.2⟩
/-- No node but the first two is all zeros. -/
def NZ (ns : List (List Nat)) : Prop := ∀ k, 2 ≤ k → k < ns.length → ∃ v, v < 6 ∧ nodeAt ns k v ≠ 0
theorem lev_uniq (os : List (List Nat)) (hz : NZ os) : ∀ (m m' k : Nat), k ≠ 0 → levOk os m k → levOk os m' k → m = m'
  | 0, 0, _, _, _, _ => rfl
  | 0, m' + 1, k, h0, h, h' => by
    have h1 : k < 2 := h
    rcases h' with h' | ⟨h2, _⟩ <;> omega
  | m + 1, 0, k, h0, h, h' => by
    have h1 : k < 2 := h'
    rcases h with h | ⟨h2, _⟩ <;> omega
  | m + 1, m' + 1, k, h0, h, h' => by
    rcases h with h | ⟨h2, hl, h⟩
    · exact absurd h h0
    · rcases h' with h' | ⟨_, _, h'⟩
      · exact absurd h' h0
      · obtain ⟨v, hv, hn⟩ := hz k h2 hl
        rw [lev_uniq os hz m m' _ hn (h v hv) (h' v hv)]
theorem nz_of6 (n : List Nat) (h6 : n.length = 6) (h : n ≠ zero6) : ∃ v, v < 6 ∧ n.getD v 0 ≠ 0 := by
  refine Classical.byContradiction fun hc => h ?_
  refine List.ext_getElem (by rw [h6]; rfl) fun i h1 h2 => ?_
  have h3 : n.getD i 0 = 0 := Classical.byContradiction fun hx => hc ⟨i, by omega, hx⟩
  have h4 : n[i] = 0 := by
    simpa [List.getD, List.getElem?_eq_getElem h1] using h3
  rw [h4]
  have h5 : i < 6 := by omega
  rcases i with _ | _ | _ | _ | _ | _ | i <;> first | rfl | omega
theorem numberTo_nz (ns : List (List Nat)) (hz : NZ ns) (n : List Nat) (h6 : n.length = 6) : NZ (numberTo ns n).1 := by
  unfold numberTo
  split
  · exact hz
  · rename_i hn
    split
    · exact hz
    · intro k h2 hk
      by_cases hl : k < ns.length
      · obtain ⟨v, hv, hx⟩ := hz k h2 hl
        exact ⟨v, hv, by rw [nodeAt_app ns [n] k v hl]; exact hx⟩
      · have e : k = ns.length := by simp at hk; omega
        subst e
        obtain ⟨v, hv, hx⟩ := nz_of6 n h6 hn
        exact ⟨v, hv, by simpa [nodeAt, List.getD] using hx⟩
/-- A cutter's state: its memo answers nodes of the same depth. -/
structure CLev (os : List (List Nat)) (s : CS) : Prop where
  two : 2 ≤ s.ns.length
  nz : NZ s.ns
  mv : ∀ k x, s.mv k = some x → ∀ m, 2 ≤ k → levOk os m k → levOk s.ns m x
theorem cutTo_lev (os : List (List Nat)) (hz : NZ os) (vars : List Int) (dn : List Nat) (hd : ∀ q, dn.getD q 0 < 64) : ∀ (m i old : Nat) (s : CS), levOk os m old → CLev os s → Pre s.ns (cutTo os vars dn m i old s).1.ns ∧ CLev os (cutTo os vars dn m i old s).1 ∧ levOk (cutTo os vars dn m i old s).1.ns m (cutTo os vars dn m i old s).2
  | 0, i, old, s, hl, h => ⟨Pre.refl _, h, hl⟩
  | m + 1, i, old, s, hl, h => by
    unfold cutTo
    by_cases ho : old < 2
    · rw [if_pos ho]
      refine ⟨Pre.refl _, h, ?_⟩
      rcases hl with hl | ⟨h2, _⟩
      · exact .inl hl
      · omega
    · rw [if_neg ho]
      cases hm : s.mv old with
      | some k => exact ⟨Pre.refl _, h, h.mv old k hm (m + 1) (by omega) hl⟩
      | none =>
        dsimp only
        have hl' : ∀ v, v < 6 → levOk os m (nodeAt os old v) := by
          rcases hl with h1 | h1
          · exact absurd (by omega) ho
          · exact h1.2.2
        have key := foldl_keep (fun (st : CS × List Nat) => Pre s.ns st.1.ns ∧ CLev os st.1 ∧ st.2.length = 6 ∧ ∀ v, v < 6 → levOk st.1.ns m (st.2.getD v 0)) (cutStep (cutTo os vars dn m (i + 1)) os old (vars.getD i 0).toNat) (vals (dn.getD (vars.getD i 0).toNat 0)) (s, zero6)
          (fun st v hv hst => by
            have hv6 : v < 6 := vals_lt6 (hd _) hv
            have ih := cutTo_lev os hz vars dn hd m (i + 1) (nodeAt os old v) st.1 (hl' v hv6) hst.2.1
            refine ⟨hst.1.trans ih.1, ⟨ih.2.1.two, ih.2.1.nz, ih.2.1.mv⟩, by simp [cutStep, hst.2.2.1], fun u hu => ?_⟩
            show levOk (cutTo os vars dn m (i + 1) (nodeAt os old v) st.1).1.ns m ((st.2.set v (cutTo os vars dn m (i + 1) (nodeAt os old v) st.1).2).getD u 0)
            by_cases hvu : v = u
            · subst hvu
              have e : (st.2.set v (cutTo os vars dn m (i + 1) (nodeAt os old v) st.1).2).getD v 0 = (cutTo os vars dn m (i + 1) (nodeAt os old v) st.1).2 := by simp [List.getD, hst.2.2.1, hu]
              rw [e]
              exact ih.2.2
            · have e : (st.2.set v (cutTo os vars dn m (i + 1) (nodeAt os old v) st.1).2).getD u 0 = st.2.getD u 0 := by simp [List.getD, hvu]
              rw [e]
              exact ih.1.lev (hst.2.2.2 u hu)) ⟨Pre.refl _, h, rfl, fun v hv => by
            have e : zero6.getD v 0 = 0 := by
              rcases v with _ | _ | _ | _ | _ | _ | v <;> first | rfl | omega
            show levOk s.ns m (zero6.getD v 0)
            rw [e]
            exact lev_zero s.ns m⟩
        generalize (vals (dn.getD (vars.getD i 0).toNat 0)).foldl (cutStep (cutTo os vars dn m (i + 1)) os old (vars.getD i 0).toNat) (s, zero6) = st at key
        obtain ⟨k1, k2, k3, k4⟩ := key
        have hp := numberTo_pre st.1.ns st.2
        have hlv := numberTo_lev st.1.ns k2.two st.2 m k4
        refine ⟨k1.trans hp, ⟨?_, numberTo_nz st.1.ns k2.nz st.2 k3, ?_⟩, hlv⟩
        · obtain ⟨ex, he⟩ := hp
          show 2 ≤ (numberTo st.1.ns st.2).1.length
          rw [he]
          have := k2.two
          simp
          omega
        · intro k x hx m' hk2 hkl
          have hx' : (if k = old then some (numberTo st.1.ns st.2).2 else st.1.mv k) = some x := hx
          split at hx'
          · rename_i hko
            subst hko
            cases hx'
            rw [lev_uniq os hz m' (m + 1) k (by omega) hkl hl]
            exact hlv
          · exact hp.lev (k2.mv k x hx' m' hk2 hkl)
theorem bldTo_nz (vars : List Int) (nt : Bool) (dn : List Nat) : ∀ (m i : Nat) (rows : List (List Int)) (ns : List (List Nat)), NZ ns → NZ (bldTo vars nt dn m i rows ns).1
  | 0, i, rows, ns, h => by
    unfold bldTo
    split
    · exact h
    · split <;> exact h
  | m + 1, i, rows, ns, h => by
    unfold bldTo
    split
    · exact h
    · have key := foldl_keep (fun (st : List (List Nat) × List Nat) => NZ st.1 ∧ st.2.length = 6) (bldStep (bldTo vars nt dn m (i + 1)) rows i) (vals (dn.getD (vars.getD i 0).toNat 0)) (ns, zero6)
        (fun st v _ hst => ⟨bldTo_nz vars nt dn m (i + 1) (bearRows rows i v) st.1 hst.1, by simp [bldStep, hst.2]⟩) ⟨h, rfl⟩
      exact numberTo_nz _ key.1 _ key.2
end Go.Proofs.YtkjfpdfkcfgfkaaGreat

/- Tables of every kind: what each is in memory, what its methods do. -/
namespace Go.Proofs.YtkjfpdfkcfgfkaaGreat
open Go.RowKit

/-- What is left of a table. -/
inductive TS where
  | rs (nt : Bool) (br : List Nat) (live : Nat)
  | dg (nv : Value) (os : List (List Nat)) (root : Nat)
/-- A table in memory: the block of its struct G, of its variables g. -/
def TAt (w : World) (G g cap : Nat) (vars : List Int) : TS → Prop
  | .rs nt br live => Blk w G (rsCells (.slice (some ⟨g, 0, none⟩) vars.length cap) nt br live) 131 ∧ Row w (.slice (some ⟨g, 0, none⟩) vars.length cap) 3 (vars.map (Value.int .i64)) ∧
      br.length = 24 ∧ (∀ j, br.getD j 0 < 18446744073709551616) ∧ live < 18446744073709551616 ∧ vars.length ≤ cap
  | .dg nv os root => DAt w G g cap nv vars os root ∧ os.length ≤ 100000 ∧ levOk os vars.length root ∧ NZ os
/-- The block of a diagram's nodes. -/
def TS.nodes : TS → Nat → Prop
  | .rs .. => fun _ => False
  | .dg nv _ _ => fun k => nv.ownBlock = some k
def TS.ty : TS → TypeId
  | .rs .. => 91
  | .dg .. => 89
def TS.fnNarrow : TS → FuncId
  | .rs .. => 124
  | .dg .. => 118
def TS.fnState : TS → FuncId
  | .rs .. => 125
  | .dg .. => 119
def TS.state : TS → Array Value
  | .rs _ _ live => #[.int .u64 (live : Int), .slice none 0 0, .int .i64 0]
  | .dg nv _ root => #[.int .u64 0, nv, .int .i64 (root : Int)]
/-- What Narrow makes of domains, and what is left. -/
def tDom (vars : List Int) (dn : List Nat) : TS → List Nat
  | .rs false br live => nDom br live vars dn
  | .rs true br live => nDomN br live vars dn
  | .dg _ os root => dDom os root vars dn
/-- What is left behind Narrow, but for where a diagram's nodes lie. -/
def TS.Next (vars : List Int) (dn : List Nat) : TS → TS → Prop
  | .rs nt br live, t' => t' = .rs nt br (nLive br live vars dn)
  | .dg _ os root, t' => ∃ nv', t' = .dg nv' (dCut os root vars dn).1.ns (dCut os root vars dn).2

theorem TAt.fr {S : Nat → Prop} {w w' : World} {G g cap : Nat} {vars : List Int} {t : TS} (h : TAt w G g cap vars t) (f : Fr S w w') (hn : ∀ k, (k = G ∨ k = g ∨ t.nodes k) → ¬ S k) : TAt w' G g cap vars t := by
  cases t with
  | rs nt br live => exact ⟨h.1.fr f (hn _ (.inl rfl)), h.2.1.fr f (fun k hk => hn k (.inr (.inl (by cases hk; rfl)))), h.2.2⟩
  | dg nv os root => exact ⟨h.1.fr f hn, h.2⟩
theorem TAt.nw {w w' : World} {G g cap : Nat} {vars : List Int} {t : TS} (h : TAt w G g cap vars t) (f : Nw w w') : TAt w' G g cap vars t := h.fr f (fun _ _ x => x)
theorem TAt.lt {w : World} {G g cap : Nat} {vars : List Int} {t : TS} (h : TAt w G g cap vars t) {k : Nat} (hk : k = G ∨ k = g ∨ t.nodes k) : k < w.heap.size := by
  cases t with
  | rs nt br live =>
    rcases hk with rfl | rfl | hk
    · exact h.1.lt
    · exact h.2.1.lt rfl
    · exact hk.elim
  | dg nv os root => exact h.1.lt hk
theorem TS.meth_state (t : TS) (G : Nat) (W : World) : (method 292 t.ty (.pointer (some ⟨G, 0, none⟩)) "State").run Tryz.prog W = .ok (t.fnState, .pointer (some ⟨G, 0, none⟩)) W := by
  cases t with
  | rs nt br live =>
    simp only [TS.ty, TS.fnState]
    kernel_rfl
  | dg nv os root =>
    simp only [TS.ty, TS.fnState]
    exact meth_dstate G W
theorem TS.meth_narrow (t : TS) (G : Nat) (W : World) : (method 292 t.ty (.pointer (some ⟨G, 0, none⟩)) "Narrow").run Tryz.prog W = .ok (t.fnNarrow, .pointer (some ⟨G, 0, none⟩)) W := by
  cases t with
  | rs nt br live =>
    simp only [TS.ty, TS.fnNarrow]
    exact Go.Proofs.YtkjfpdfkcfgfkaaGreat.meth_narrow G W
  | dg nv os root =>
    simp only [TS.ty, TS.fnNarrow]
    exact meth_dnarrow G W
set_option maxHeartbeats 400000 in
theorem stateRs_any (G : Nat) (vv : Value) (nt : Bool) (br : List Nat) (live : Nat) (w : World) (hG : Blk w G (rsCells vv nt br live) 131) (h24 : br.length = 24) :
    Calls Tryz.prog 125 #[.pointer (some ⟨G, 0, none⟩)] w fun e w' => e = .returned (.agg #[.int .u64 live, .slice none 0 0, .int .i64 0]) ∧ Nw w w' := by
  have h1 : w.cell? ⟨G, 26, none⟩ = some (.int .u64 (live : Int)) := (hG.cell 26).trans (by simp [rsCells, h24])
  have hGlt := hG.lt
  clear hG
  go_enter Tryz.func125, Tryz.ntmps125
  go_wp2
  refine bodyPost_ret (v := .agg #[.int .u64 live, .slice none 0 0, .int .i64 0]) ?_ rfl ⟨rfl, (Fr.refl _ w).alloc _⟩
  simp [results, Tryz.results125, go_sem]

/-- State of a table of any kind. -/
theorem stateT_any (G g cap : Nat) (vars : List Int) (t : TS) (w : World) (h : TAt w G g cap vars t) : Calls Tryz.prog t.fnState #[.pointer (some ⟨G, 0, none⟩)] w fun e w' => e = .returned (.agg t.state) ∧ Nw w w' := by
  cases t with
  | rs nt br live => exact stateRs_any G _ nt br live w h.1 h.2.2.1
  | dg nv os root => exact dState_any G g cap nv vars os root w h.1

theorem s0_lev (os : List (List Nat)) : CLev os s0 := ⟨by decide, fun k h2 hk => absurd hk (by show ¬ k < 2; omega), fun k x h => by cases h⟩
/-- What dCut leaves is a diagram again. -/
theorem dCut_lev (os : List (List Nat)) (root : Nat) (vars : List Int) (dn : List Nat) (hz : NZ os) (hd : ∀ q, dn.getD q 0 < 64) (h4 : vars.length ≤ 4) (hl : levOk os vars.length root) :
    (dCut os root vars dn).1.ns.length ≤ 100000 ∧ levOk (dCut os root vars dn).1.ns vars.length (dCut os root vars dn).2 ∧ NZ (dCut os root vars dn).1.ns := by
  have h1 := cutTo_lev os hz vars dn hd vars.length 0 root s0 hl (s0_lev os)
  have h2 := cutTo_ok os vars dn hd vars.length 0 root s0 2 (by omega) hl ⟨by decide, by decide, by decide, rfl, zero8_lt, fun k x h => by cases h⟩
  have hc : cnt vars.length ≤ 259 := by
    have : ∀ n : Fin 5, cnt n.val ≤ 259 := by decide
    exact this ⟨vars.length, by omega⟩
  refine ⟨?_, h1.2.2, h1.2.1.nz⟩
  have := h2.1.ns
  show (cutTo os vars dn vars.length 0 root s0).1.ns.length ≤ 100000
  omega
/-- Narrow of a table of any kind. -/
theorem narrowT_any (G g cap : Nat) (vars : List Int) (t : TS) (dn : List Nat) (w : World) (h : TAt w G g cap vars t) (h8 : dn.length = 8) (h4 : vars.length ≤ 4) (hv : ∀ i, i < vars.length → 0 ≤ vars.getD i 0 ∧ vars.getD i 0 < 8) (hd64 : ∀ q, dn.getD q 0 < 64) :
    Calls Tryz.prog t.fnNarrow #[.pointer (some ⟨G, 0, none⟩), .agg (domV dn)] w fun e w' => e = .returned (.agg (domV (tDom vars dn t))) ∧ Fr (fun k => k = G) w w' ∧
      ∃ t', TS.Next vars dn t t' ∧ TAt w' G g cap vars t' ∧ ∀ k, t'.nodes k → w.heap.size ≤ k := by
  cases t with
  | rs nt br live =>
    obtain ⟨hb, hr, h24, hbr, hlive, hcap⟩ := h
    have hgG : g ≠ G := fun e => by subst e; exact hr.ne hb (by decide) rfl
    have fin : ∀ (w' : World), Fr (fun k => k = G) w w' → Blk w' G (rsCells (.slice (some ⟨g, 0, none⟩) vars.length cap) nt br (nLive br live vars dn)) 131 →
        ∃ t', TS.Next vars dn (.rs nt br live) t' ∧ TAt w' G g cap vars t' ∧ ∀ k, t'.nodes k → w.heap.size ≤ k := fun w' f b =>
      ⟨_, rfl, ⟨b, hr.fr f (fun k hk => by cases hk; exact hgG), h24, hbr, dropTo_lt br vars dn live hlive _, hcap⟩, fun k hk => hk.elim⟩
    cases nt with
    | false => exact (narrow_any G g cap br live vars dn w hb hr h8 h24 hbr hlive h4 hv hd64).mono fun e w' ⟨h1, h2, h3⟩ => ⟨h1, h2, fin w' h2 h3⟩
    | true => exact (narrowN_any G g cap br live vars dn w hb hr h8 h24 hbr hlive h4 hcap hv hd64).mono fun e w' ⟨h1, h2, h3⟩ => ⟨h1, h2, fin w' h2 h3⟩
  | dg nv os root =>
    obtain ⟨hD, hol, hlev, hz⟩ := h
    exact (dNarrow_any G g cap nv vars os root dn w hD h8 h4 hv hd64 hol hlev).mono fun e w' ⟨h1, h2, nv', h3, h4'⟩ => ⟨h1, h2, _, ⟨nv', rfl⟩, ⟨h3, dCut_lev os root vars dn hz hd64 h4 hlev⟩, h4'⟩

theorem Row.cap {w : World} {g n cap : Nat} {e : TypeId} {xs : List Value} (h : Row w (.slice (some ⟨g, 0, none⟩) n cap) e xs) : n ≤ cap := by
  rcases h.2 with ⟨h2, _⟩ | ⟨g', cap', cur, he, _, _, hc, _⟩
  · cases h2
  · cases he
    exact hc
/-- The table that Make makes of rows, but for where a diagram's nodes lie. -/
def TS.Made (vars : List Int) (rows : List (List Int)) (nt : Bool) (dn : List Nat) : Int → TS → Prop
  | 1, t => t = .rs nt (brTo rows rows.length) (2 ^ rows.length - 1)
  | _, t => ∃ nv, t = .dg nv (bldTo vars nt dn vars.length 0 rows [zero6, zero6]).1 (bldTo vars nt dn vars.length 0 rows [zero6, zero6]).2
/-- Make, of either way. -/
theorem makeT_any (vb vof : Nat) (ro : Option Addr) (vcap rcap : Nat) (vars : List Int) (rows : List (List Int)) (nt : Bool) (way : Int) (hway : way = 1 ∨ way = 2) (dn : List Nat) (w : World) (h8 : dn.length = 8) (hv0 : 0 < vars.length) (h4 : vars.length ≤ 4)
    (hv : ∀ i, i < vars.length → 0 ≤ vars.getD i 0 ∧ vars.getD i 0 < 8) (hd64 : ∀ q, dn.getD q 0 < 64) (hrl : rows.length ≤ 60) (hrow : ∀ j, j < rows.length → (rows.getD j []).length = vars.length)
    (hvs : IntsAt w (some ⟨vb, vof, none⟩) vars) (hrs : RowsAt w ro rows) :
    Calls Tryz.prog 26 #[.agg #[.slice (some ⟨vb, vof, none⟩) vars.length vcap, .slice ro rows.length rcap, .bool nt, .int .i64 way], .agg (domV dn)] w fun e w' =>
      ∃ G g cap t, e = .returned (.iface t.ty (.pointer (some ⟨G, 0, none⟩))) ∧ Nw w w' ∧ TS.Made vars rows nt dn way t ∧ TAt w' G g cap vars t ∧ (∀ k, (k = G ∨ k = g ∨ t.nodes k) → w.heap.size ≤ k) := by
  rcases hway with rfl | rfl
  · refine (make1_any vb vof ro vcap rcap vars rows nt (domV dn) w hv0 h4 hrl (fun i hi => by rw [hrow i hi]; exact h4) hvs hrs).mono ?_
    rintro e w' ⟨G, g, cap, rfl, hf, hb, hr, hG, hg⟩
    have hp : 2 ^ rows.length ≤ 2 ^ 60 := Nat.pow_le_pow_right (by omega) hrl
    refine ⟨G, g, cap, .rs nt (brTo rows rows.length) (2 ^ rows.length - 1), rfl, hf, rfl, ⟨hb, hr, brTo_length _ _, fun j => Nat.lt_of_lt_of_le (brTo_lt rows rows.length j) (by omega), by omega, hr.cap⟩, ?_⟩
    rintro k (rfl | rfl | hk)
    · exact hG
    · exact hg
    · exact hk.elim
  · refine (make2_any vb vof ro vcap rcap vars rows nt dn w h8 hv0 h4 hv hd64 hrl hrow hvs hrs).mono ?_
    rintro e w' ⟨G, g, cap, nv, rfl, hf, hD, hG, hg, hn⟩
    have hc : cnt vars.length ≤ 259 := by
      have : ∀ n : Fin 5, cnt n.val ≤ 259 := by decide
      exact this ⟨vars.length, by omega⟩
    have hl := bldTo_len vars nt dn hd64 vars.length 0 rows [zero6, zero6] (by decide)
    have hl2 : [zero6, zero6].length = 2 := rfl
    refine ⟨G, g, cap, .dg nv _ _, rfl, hf, ⟨nv, rfl⟩, ⟨hD, by omega, (bldTo_lev vars nt dn vars.length 0 rows [zero6, zero6] (by decide)).2, bldTo_nz vars nt dn vars.length 0 rows [zero6, zero6] (fun k h2 hk => absurd hk (by show ¬ k < 2; omega))⟩, ?_⟩
    rintro k (rfl | rfl | hk)
    · exact hG
    · exact hg
    · exact hn k hk
/-- What a table was: of the same kind, its nodes still there. -/
def TS.Was (w : World) (G : Nat) (vars : List Int) : TS → TS → Prop
  | .rs nt br _, .rs nt0 br0 live0 => nt0 = nt ∧ br0 = br ∧ live0 < 18446744073709551616
  | .dg _ _ _, .dg nv0 os0 root0 => w.ownsRow 0 151 6 nv0 os0.length (os0.flatMap nodeC) ∧ (∀ n ∈ os0, NodeOk n) ∧ 2 ≤ os0.length ∧ nv0.ownBlock ≠ some G ∧ os0.length ≤ 100000 ∧ levOk os0 vars.length root0 ∧ NZ os0
  | _, _ => False
/-- PutBack, of a table of any kind. -/
theorem putBackT_any (G g cap : Nat) (vars : List Int) (t t0 : TS) (w : World) (h : TAt w G g cap vars t) (h0 : TS.Was w G vars t t0) :
    Calls Tryz.prog 74 #[.iface t.ty (.pointer (some ⟨G, 0, none⟩)), .agg t0.state] w fun e w' => e = .returned (.tuple #[]) ∧ Fr (fun k => k = G) w w' ∧ TAt w' G g cap vars t0 := by
  cases t with
  | rs nt br live =>
    cases t0 with
    | rs nt0 br0 live0 =>
      obtain ⟨rfl, rfl, hl0⟩ := h0
      obtain ⟨hb, hr, h24, hbr, hlive, hcap⟩ := h
      have hgG : g ≠ G := fun e => by subst e; exact hr.ne hb (by decide) rfl
      exact (putBack_rs G _ nt0 br0 live live0 _ 0 w h24 hb).mono fun e w' ⟨h1, h2, h3⟩ => ⟨h1, h2, ⟨h3, hr.fr h2 (fun k hk => by cases hk; exact hgG), h24, hbr, hl0, hcap⟩⟩
    | dg nv0 os0 root0 => exact h0.elim
  | dg nv os root =>
    cases t0 with
    | rs nt0 br0 live0 => exact h0.elim
    | dg nv0 os0 root0 =>
      obtain ⟨hrow, hok, h2, hnG, hrest⟩ := h0
      exact (putBack_d G g cap nv nv0 vars os os0 root root0 _ w h.1 hrow hok h2 hnG).mono fun e w' ⟨h1, h2, h3⟩ => ⟨h1, h2, ⟨h3, hrest⟩⟩
end Go.Proofs.YtkjfpdfkcfgfkaaGreat

/- What Narrow leaves, in the document's words: tables of Way 1. -/
namespace Go.Proofs.YtkjfpdfkcfgfkaaGreat

/-- A list of values, one for each of a table's variables, out of the domains. -/
def OutOf (vars : List Int) (dn : List Nat) (l : List Nat) : Prop := l.length = vars.length ∧ ∀ i, i < vars.length → (dn.getD (vars.getD i 0).toNat 0).testBit (l.getD i 0) = true
/-- A row covers a list of values. -/
def Covers (row : List Int) (l : List Nat) : Prop := ∀ i, i < l.length → bearsB (row.getD i 0) (l.getD i 0) = true
/-- Rows allow a list of values. -/
def Allow (rows : List (List Int)) (nt : Bool) (l : List Nat) : Prop := if nt then ∀ j, j < rows.length → ¬ Covers (rows.getD j []) l else ∃ j, j < rows.length ∧ Covers (rows.getD j []) l
/-- Value v of entry i is supported. -/
def Supp (vars : List Int) (rows : List (List Int)) (nt : Bool) (dn : List Nat) (i v : Nat) : Prop := ∃ l, OutOf vars dn l ∧ l.getD i 0 = v ∧ Allow rows nt l

theorem vals_mem {s v : Nat} (hs : s < 64) : v ∈ vals s ↔ s.testBit v = true := by
  simp only [vals, List.mem_filter, List.mem_range]
  refine ⟨fun h => h.2, fun h => ⟨?_, h⟩⟩
  refine Classical.byContradiction fun hc => ?_
  have : s.testBit v = false := Nat.testBit_lt_two_pow (Nat.lt_of_lt_of_le hs (Nat.le_trans (show 64 ≤ 2 ^ 6 by decide) (Nat.pow_le_pow_right (by omega) (by omega))))
  rw [this] at h
  cases h
theorem brTo_bit (rows : List (List Int)) (i v : Nat) (hi : i < 4) (hv : v < 6) : ∀ k r, ((brTo rows k).getD (6 * i + v) 0).testBit r = true ↔ r < k ∧ i < (rows.getD r []).length ∧ bearsB ((rows.getD r []).getD i 0) v = true
  | 0, r => by
    have e : (brTo rows 0).getD (6 * i + v) 0 = 0 := by
      simp only [brTo, List.getD, List.getElem?_replicate]
      split <;> rfl
    rw [e]
    simp
  | k + 1, r => by
    have hj : 6 * i + v < (brTo rows k).length := by rw [brTo_length]; omega
    have ih := brTo_bit rows i v hi hv k r
    simp only [brTo]
    rw [addTo_get _ _ _ _ _ hj, show (6 * i + v) / 6 = i by omega, show (6 * i + v) % 6 = v by omega]
    have hd : decide (6 * i + v < 6 * (rows.getD k []).length) = decide (i < (rows.getD k []).length) := by
      apply decide_eq_decide.2
      omega
    rw [hd]
    by_cases hb : (decide (i < (rows.getD k []).length) && bearsB ((rows.getD k []).getD i 0) v) = true
    · rw [if_pos hb, Nat.testBit_or, Bool.or_eq_true, ih, Nat.testBit_two_pow]
      simp only [Bool.and_eq_true, decide_eq_true_eq] at hb ⊢
      constructor
      · rintro (⟨h1, h2⟩ | rfl)
        · exact ⟨by omega, h2⟩
        · exact ⟨by omega, hb⟩
      · rintro ⟨h1, h2⟩
        by_cases hr : k = r
        · exact .inr hr
        · exact .inl ⟨by omega, h2⟩
    · rw [if_neg hb, ih]
      simp only [Bool.and_eq_true, decide_eq_true_eq] at hb
      constructor
      · rintro ⟨h1, h2⟩
        exact ⟨by omega, h2⟩
      · rintro ⟨h1, h2⟩
        refine ⟨?_, h2⟩
        by_cases hr : k = r
        · subst hr
          exact absurd h2 hb
        · omega
theorem orBr_bit (br : List Nat) (i r : Nat) (vs : List Nat) : (orBr br i vs).testBit r = true ↔ ∃ v ∈ vs, (br.getD (6 * i + v) 0).testBit r = true := by
  suffices h : ∀ (vs : List Nat) (acc : Nat), (vs.foldl (fun acc v => acc ||| br.getD (6 * i + v) 0) acc).testBit r = true ↔ acc.testBit r = true ∨ ∃ v ∈ vs, (br.getD (6 * i + v) 0).testBit r = true by
    have := h vs 0
    simpa [orBr] using this
  intro vs
  induction vs with
  | nil => intro acc; simp
  | cons a l ih =>
    intro acc
    rw [List.foldl_cons, ih]
    simp only [Nat.testBit_or, Bool.or_eq_true, List.mem_cons]
    constructor
    · rintro ((h | h) | ⟨v, hv, h⟩)
      · exact .inl h
      · exact .inr ⟨a, .inl rfl, h⟩
      · exact .inr ⟨v, .inr hv, h⟩
    · rintro (h | ⟨v, rfl | hv, h⟩)
      · exact .inl (.inl h)
      · exact .inl (.inr h)
      · exact .inr ⟨v, hv, h⟩
theorem dropTo_bit (br : List Nat) (vars : List Int) (dn : List Nat) (live r : Nat) : ∀ k, (dropTo br vars dn live k).testBit r = true ↔ live.testBit r = true ∧ ∀ i, i < k → ∃ v ∈ vals (dn.getD (vars.getD i 0).toNat 0), (br.getD (6 * i + v) 0).testBit r = true
  | 0 => by simp [dropTo]
  | k + 1 => by
    simp only [dropTo, Nat.testBit_and, Bool.and_eq_true, dropTo_bit br vars dn live r k, orBr_bit]
    constructor
    · rintro ⟨⟨h1, h2⟩, h3⟩
      refine ⟨h1, fun i hi => ?_⟩
      by_cases hk : i = k
      · subst hk; exact h3
      · exact h2 i (by omega)
    · rintro ⟨h1, h2⟩
      exact ⟨⟨h1, fun i hi => h2 i (by omega)⟩, h2 k (by omega)⟩
theorem getD_set8 (l : List Nat) (q p x : Nat) (hq : q < l.length) : (l.set q x).getD p 0 = if q = p then x else l.getD p 0 := by
  simp only [List.getD, List.getElem?_set]
  split
  · simp
  · rfl
theorem replTo_get (vars : List Int) (d s : List Nat) (hv : ∀ i, i < vars.length → (vars.getD i 0).toNat < d.length) (q : Nat) : ∀ k, k ≤ vars.length → (replTo vars d s k).getD q 0 = if ∃ i, i < k ∧ (vars.getD i 0).toNat = q then s.getD q 0 else d.getD q 0
  | 0, _ => by simp [replTo]
  | k + 1, hk => by
    simp only [replTo]
    rw [getD_set8 _ _ _ _ (by rw [replTo_length]; exact hv k (by omega)), replTo_get vars d s hv q k (by omega)]
    by_cases h : (vars.getD k 0).toNat = q
    · rw [if_pos h, if_pos ⟨k, by omega, h⟩, h]
    · rw [if_neg h]
      by_cases h2 : ∃ i, i < k ∧ (vars.getD i 0).toNat = q
      · obtain ⟨i, hi, e⟩ := h2
        rw [if_pos ⟨i, hi, e⟩, if_pos ⟨i, by omega, e⟩]
      · rw [if_neg h2, if_neg]
        rintro ⟨i, hi, e⟩
        by_cases hk : i = k
        · subst hk; exact h e
        · exact h2 ⟨i, by omega, e⟩
theorem mkFold_bit (br : List Nat) (live k v : Nat) (vs : List Nat) : ∀ init, (mkFold br live k vs init).testBit v = true ↔ init.testBit v = true ∨ (v ∈ vs ∧ live &&& br.getD (6 * k + v) 0 ≠ 0) := by
  induction vs with
  | nil => intro init; simp [mkFold]
  | cons a l ih =>
    intro init
    have e : mkFold br live k (a :: l) init = mkFold br live k l (if live &&& br.getD (6 * k + a) 0 = 0 then init else init ||| 2 ^ a) := rfl
    rw [e, ih]
    by_cases h0 : live &&& br.getD (6 * k + a) 0 = 0
    · rw [if_pos h0]
      constructor
      · rintro (h | ⟨h1, h2⟩)
        · exact .inl h
        · exact .inr ⟨List.mem_cons_of_mem _ h1, h2⟩
      · rintro (h | ⟨h1, h2⟩)
        · exact .inl h
        · rcases List.mem_cons.1 h1 with rfl | h1
          · exact absurd h0 h2
          · exact .inr ⟨h1, h2⟩
    · rw [if_neg h0, Nat.testBit_or, Bool.or_eq_true, Nat.testBit_two_pow, decide_eq_true_eq]
      constructor
      · rintro ((h | rfl) | ⟨h1, h2⟩)
        · exact .inl h
        · exact .inr ⟨List.mem_cons_self .., h0⟩
        · exact .inr ⟨List.mem_cons_of_mem _ h1, h2⟩
      · rintro (h | ⟨h1, h2⟩)
        · exact .inl (.inl h)
        · rcases List.mem_cons.1 h1 with rfl | h1
          · exact .inl (.inr rfl)
          · exact .inr ⟨h1, h2⟩
theorem markTo_bit (br : List Nat) (live : Nat) (vars : List Int) (dn sp : List Nat) (hv : ∀ i, i < vars.length → (vars.getD i 0).toNat < sp.length) (q v : Nat) : ∀ k, k ≤ vars.length →
    (((markTo br live vars dn sp k).getD q 0).testBit v = true ↔ (sp.getD q 0).testBit v = true ∨ ∃ i, i < k ∧ (vars.getD i 0).toNat = q ∧ v ∈ vals (dn.getD q 0) ∧ live &&& br.getD (6 * i + v) 0 ≠ 0)
  | 0, _ => by simp [markTo]
  | k + 1, hk => by
    have ih := markTo_bit br live vars dn sp hv q v k (by omega)
    simp only [markTo]
    rw [getD_set8 _ _ _ _ (by rw [markTo_length]; exact hv k (by omega))]
    by_cases h : (vars.getD k 0).toNat = q
    · rw [if_pos h, h, mkFold_bit, ih]
      constructor
      · rintro ((h1 | ⟨i, hi, h2⟩) | h1)
        · exact .inl h1
        · exact .inr ⟨i, by omega, h2⟩
        · exact .inr ⟨k, by omega, h, h1⟩
      · rintro (h1 | ⟨i, hi, h2⟩)
        · exact .inl (.inl h1)
        · by_cases hik : i = k
          · subst hik
            exact .inr h2.2
          · exact .inl (.inr ⟨i, by omega, h2⟩)
    · rw [if_neg h, ih]
      constructor
      · rintro (h1 | ⟨i, hi, h2⟩)
        · exact .inl h1
        · exact .inr ⟨i, by omega, h2⟩
      · rintro (h1 | ⟨i, hi, h2⟩)
        · exact .inl h1
        · by_cases hik : i = k
          · subst hik
            exact absurd h2.1 h
          · exact .inr ⟨i, by omega, h2⟩
theorem outOf_choose (vars : List Int) (dn : List Nat) (P : Nat → Nat → Prop) (h : ∀ i, i < vars.length → ∃ v, (dn.getD (vars.getD i 0).toNat 0).testBit v = true ∧ P i v) : ∃ l, OutOf vars dn l ∧ ∀ i, i < vars.length → P i (l.getD i 0) := by
  let f : Nat → Nat := fun i => if hi : i < vars.length then Classical.choose (h i hi) else 0
  have hf : ∀ i, (hi : i < vars.length) → ((List.range vars.length).map f).getD i 0 = Classical.choose (h i hi) := by
    intro i hi
    simp [List.getD, hi, f]
  refine ⟨(List.range vars.length).map f, ⟨by simp, fun i hi => ?_⟩, fun i hi => ?_⟩
  · rw [hf i hi]
    exact (Classical.choose_spec (h i hi)).1
  · rw [hf i hi]
    exact (Classical.choose_spec (h i hi)).2
theorem OutOf.set {vars : List Int} {dn l : List Nat} (h : OutOf vars dn l) (i v : Nat) (hv : (dn.getD (vars.getD i 0).toNat 0).testBit v = true) : OutOf vars dn (l.set i v) := by
  refine ⟨by simp [h.1], fun k hk => ?_⟩
  by_cases hki : i = k
  · subst hki
    have e : (l.set i v).getD i 0 = v := by simp [List.getD, h.1, hk]
    rw [e]
    exact hv
  · have e : (l.set i v).getD k 0 = l.getD k 0 := by simp [List.getD, hki]
    rw [e]
    exact h.2 k hk
theorem Covers.set {row : List Int} {l : List Nat} (h : Covers row l) (i v : Nat) (hv : bearsB (row.getD i 0) v = true) : Covers row (l.set i v) := by
  intro k hk
  have hk' : k < l.length := by simpa using hk
  by_cases hki : i = k
  · subst hki
    have e : (l.set i v).getD i 0 = v := by simp [List.getD, hk']
    rw [e]
    exact hv
  · have e : (l.set i v).getD k 0 = l.getD k 0 := by simp [List.getD, hki]
    rw [e]
    exact h k hk'
/-- Rows that live are rows; those that cover a list out of the domains live. -/
def RsRep (vars : List Int) (rows : List (List Int)) (dn : List Nat) (live : Nat) : Prop := (∀ j, live.testBit j = true → j < rows.length) ∧ ∀ j, j < rows.length → (∃ l, OutOf vars dn l ∧ Covers (rows.getD j []) l) → live.testBit j = true
theorem bit_lt6 {s v : Nat} (hs : s < 64) (h : s.testBit v = true) : v < 6 := vals_lt6 hs ((vals_mem hs).2 h)
theorem nLive_bit (vars : List Int) (rows : List (List Int)) (dn : List Nat) (live : Nat) (h4 : vars.length ≤ 4) (hd : ∀ q, dn.getD q 0 < 64) (hrow : ∀ j, j < rows.length → (rows.getD j []).length = vars.length) (hR : RsRep vars rows dn live) (j : Nat) :
    (nLive (brTo rows rows.length) live vars dn).testBit j = true ↔ j < rows.length ∧ ∃ l, OutOf vars dn l ∧ Covers (rows.getD j []) l := by
  unfold nLive
  rw [dropTo_bit]
  constructor
  · rintro ⟨h1, h2⟩
    have hj := hR.1 j h1
    obtain ⟨l, hl, hc⟩ := outOf_choose vars dn (fun i v => bearsB ((rows.getD j []).getD i 0) v = true) (fun i hi => by
      obtain ⟨v, hv, hb⟩ := h2 i hi
      have hb' := (brTo_bit rows i v (by omega) (vals_lt6 (hd _) hv) rows.length j).1 hb
      exact ⟨v, (vals_mem (hd _)).1 hv, hb'.2.2⟩)
    exact ⟨hj, l, hl, fun i hi => hc i (by rw [← hl.1]; exact hi)⟩
  · rintro ⟨hj, l, hl, hc⟩
    refine ⟨hR.2 j hj ⟨l, hl, hc⟩, fun i hi => ⟨l.getD i 0, (vals_mem (hd _)).2 (hl.2 i hi), ?_⟩⟩
    exact (brTo_bit rows i _ (by omega) (bit_lt6 (hd _) (hl.2 i hi)) rows.length j).2 ⟨hj, by rw [hrow j hj]; exact hi, hc i (by rw [hl.1]; exact hi)⟩
theorem nLive_rep (vars : List Int) (rows : List (List Int)) (dn : List Nat) (live : Nat) (h4 : vars.length ≤ 4) (hd : ∀ q, dn.getD q 0 < 64) (hrow : ∀ j, j < rows.length → (rows.getD j []).length = vars.length) (hR : RsRep vars rows dn live) :
    RsRep vars rows dn (nLive (brTo rows rows.length) live vars dn) :=
  ⟨fun j hj => ((nLive_bit vars rows dn live h4 hd hrow hR j).1 hj).1, fun j hj h => (nLive_bit vars rows dn live h4 hd hrow hR j).2 ⟨hj, h⟩⟩
/-- The variables of a table are ones, and no two are alike. -/
structure VarsOk (vars : List Int) : Prop where
  four : vars.length ≤ 4
  ok : ∀ i, i < vars.length → 0 ≤ vars.getD i 0 ∧ vars.getD i 0 < 8
  one : ∀ i k, i < vars.length → k < vars.length → vars.getD i 0 = vars.getD k 0 → i = k
theorem VarsOk.lt {vars : List Int} (h : VarsOk vars) {i : Nat} (hi : i < vars.length) : (vars.getD i 0).toNat < 8 := by
  have := h.ok i hi
  omega
theorem VarsOk.nat {vars : List Int} (h : VarsOk vars) {i k : Nat} (hi : i < vars.length) (hk : k < vars.length) (e : (vars.getD i 0).toNat = (vars.getD k 0).toNat) : i = k := by
  have h1 := h.ok i hi
  have h2 := h.ok k hk
  exact h.one i k hi hk (by omega)
theorem and_ne_zero (a b : Nat) : a &&& b ≠ 0 ↔ ∃ j, a.testBit j = true ∧ b.testBit j = true := by
  constructor
  · intro h
    refine Classical.byContradiction fun hc => h ?_
    apply Nat.eq_of_testBit_eq
    intro j
    rw [Nat.testBit_and, Nat.zero_testBit]
    cases h1 : a.testBit j with
    | false => rfl
    | true =>
      cases h2 : b.testBit j with
      | false => rfl
      | true => exact absurd ⟨j, h1, h2⟩ hc
  · rintro ⟨j, h1, h2⟩ h0
    have h3 : (a &&& b).testBit j = false := by rw [h0]; exact Nat.zero_testBit j
    rw [Nat.testBit_and, h1, h2] at h3
    cases h3
/-- Way 1, not Not: what Narrow leaves are the supported values. -/
theorem nDom_sem (vars : List Int) (rows : List (List Int)) (dn : List Nat) (live : Nat) (h8 : dn.length = 8) (hV : VarsOk vars) (hd : ∀ q, dn.getD q 0 < 64) (hrow : ∀ j, j < rows.length → (rows.getD j []).length = vars.length) (hR : RsRep vars rows dn live)
    (i v : Nat) (hi : i < vars.length) : ((nDom (brTo rows rows.length) live vars dn).getD (vars.getD i 0).toNat 0).testBit v = true ↔ Supp vars rows false dn i v := by
  unfold nDom
  rw [replTo_get vars dn _ (fun k hk => by rw [h8]; exact hV.lt hk) _ _ (Nat.le_refl _), if_pos ⟨i, hi, rfl⟩, markTo_bit _ _ vars dn zero8 (fun k hk => hV.lt hk) _ _ _ (Nat.le_refl _)]
  have hz : zero8.getD (vars.getD i 0).toNat 0 = 0 := by
    have := hV.lt hi
    generalize (vars.getD i 0).toNat = q at this
    rcases q with _ | _ | _ | _ | _ | _ | _ | _ | q <;> first | rfl | omega
  rw [hz]
  constructor
  · rintro (h | ⟨k, hk, hq, hv, h⟩)
    · simp at h
    · have hki := hV.nat hk hi hq
      subst hki
      obtain ⟨j, h1, h2⟩ := (and_ne_zero _ _).1 h
      obtain ⟨hj, l, hl, hc⟩ := (nLive_bit vars rows dn live hV.four hd hrow hR j).1 h1
      have hb := (brTo_bit rows k v (by have := hV.four; omega) (vals_lt6 (hd _) hv) rows.length j).1 h2
      refine ⟨l.set k v, hl.set k v ((vals_mem (hd _)).1 hv), by simp [List.getD, hl.1, hk], ?_⟩
      exact ⟨j, hj, hc.set k v hb.2.2⟩
  · rintro ⟨l, hl, rfl, h⟩
    obtain ⟨j, hj, hc⟩ : ∃ j, j < rows.length ∧ Covers (rows.getD j []) l := h
    have hb := hl.2 i hi
    refine .inr ⟨i, hi, rfl, (vals_mem (hd _)).2 hb, (and_ne_zero _ _).2 ⟨j, (nLive_bit vars rows dn live hV.four hd hrow hR j).2 ⟨hj, l, hl, hc⟩, ?_⟩⟩
    exact (brTo_bit rows i _ (by have := hV.four; omega) (bit_lt6 (hd _) hb) rows.length j).2 ⟨hj, by rw [hrow j hj]; exact hi, hc i (by rw [hl.1]; exact hi)⟩
end Go.Proofs.YtkjfpdfkcfgfkaaGreat

/- What Narrow leaves, in the document's words: tables of Way 1 with Not. -/
namespace Go.Proofs.YtkjfpdfkcfgfkaaGreat

theorem foldl_pre {α β : Type} (R : List α → β → Prop) (f : β → α → β) : ∀ (l pre : List α) (b : β), R pre b → (∀ p a b, a ∈ l → R p b → R (p ++ [a]) (f b a)) → R (pre ++ l) (l.foldl f b)
  | [], pre, b, h, _ => by simpa using h
  | a :: l, pre, b, h, hs => by
    have := foldl_pre R f l (pre ++ [a]) (f b a) (hs pre a b (List.mem_cons_self ..) h) (fun p a' b' ha => hs p a' b' (List.mem_cons_of_mem _ ha))
    simpa using this
/-- From entry i on, none of these rows covers l. -/
def Uncov (br : List Nat) (n i R : Nat) (l : List Nat) : Prop := ∀ j, R.testBit j = true → ∃ k, i ≤ k ∧ k < n ∧ (br.getD (6 * k + l.getD k 0) 0).testBit j = false
/-- No more than the domains. -/
def SubD (sp dn : List Nat) : Prop := ∀ q v, (sp.getD q 0).testBit v = true → (dn.getD q 0).testBit v = true
theorem ne_zero_bit {R : Nat} (h : R ≠ 0) : ∃ j, R.testBit j = true := Nat.exists_testBit_of_ne_zero h
theorem fillFrom_get (vars : List Int) (dn sp : List Nat) (hV : VarsOk vars) (h8 : sp.length = 8) (i q : Nat) : ∀ j, i + j ≤ vars.length → (fillFrom vars dn sp i j).getD q 0 = if ∃ k, k < i + j ∧ i ≤ k ∧ (vars.getD k 0).toNat = q then dn.getD q 0 else sp.getD q 0
  | 0, _ => by
    rw [if_neg]
    · rfl
    · rintro ⟨k, h2, h1, _⟩
      omega
  | j + 1, hj => by
    simp only [fillFrom]
    rw [getD_set8 _ _ _ _ (by rw [fillFrom_length, h8]; exact hV.lt (by omega)), fillFrom_get vars dn sp hV h8 i q j (by omega)]
    by_cases h : (vars.getD (i + j) 0).toNat = q
    · rw [if_pos h, if_pos ⟨i + j, by omega, by omega, h⟩, h]
    · rw [if_neg h]
      by_cases h2 : ∃ k, k < i + j ∧ i ≤ k ∧ (vars.getD k 0).toNat = q
      · obtain ⟨k, h3, h4, e⟩ := h2
        rw [if_pos ⟨k, h3, h4, e⟩, if_pos ⟨k, by omega, h4, e⟩]
      · rw [if_neg h2, if_neg]
        rintro ⟨k, h3, h4, e⟩
        by_cases hk : k = i + j
        · subst hk; exact h e
        · exact h2 ⟨k, by omega, h4, e⟩
/-- What markUncovered says and marks. -/
structure UncSem (br : List Nat) (vars : List Int) (dn sp : List Nat) (i R : Nat) (P : List Nat → Prop) (st : Bool × List Nat) : Prop where
  len : st.2.length = 8
  sub : SubD st.2 dn
  one : st.1 = true ↔ ∃ l, OutOf vars dn l ∧ Uncov br vars.length i R l ∧ P l
  two : ∀ q v, (st.2.getD q 0).testBit v = true ↔ (sp.getD q 0).testBit v = true ∨ ∃ l k, OutOf vars dn l ∧ Uncov br vars.length i R l ∧ P l ∧ i ≤ k ∧ k < vars.length ∧ (vars.getD k 0).toNat = q ∧ l.getD k 0 = v
theorem Uncov.set {br : List Nat} {n i R v : Nat} {l : List Nat} (h : Uncov br n (i + 1) R l) : Uncov br n (i + 1) R (l.set i v) := by
  intro j hj
  obtain ⟨k, h1, h2, h3⟩ := h j hj
  refine ⟨k, h1, h2, ?_⟩
  have e : (l.set i v).getD k 0 = l.getD k 0 := by
    have : i ≠ k := by omega
    simp [List.getD, this]
  rw [e]
  exact h3
theorem uncov_step {br : List Nat} {n i R v : Nat} {l : List Nat} (hi : i < n) (hv : l.getD i 0 = v) : Uncov br n i R l ↔ Uncov br n (i + 1) (R &&& br.getD (6 * i + v) 0) l := by
  constructor
  · intro h j hj
    rw [Nat.testBit_and, Bool.and_eq_true] at hj
    obtain ⟨k, h1, h2, h3⟩ := h j hj.1
    refine ⟨k, ?_, h2, h3⟩
    by_cases hk : k = i
    · subst hk
      rw [hv, hj.2] at h3
      cases h3
    · omega
  · intro h j hj
    cases hb : (br.getD (6 * i + v) 0).testBit j with
    | false => exact ⟨i, Nat.le_refl _, hi, by rw [hv]; exact hb⟩
    | true =>
      obtain ⟨k, h1, h2, h3⟩ := h j (by rw [Nat.testBit_and, hj, hb]; rfl)
      exact ⟨k, by omega, h2, h3⟩
theorem set_getD {l : List Nat} {i n v : Nat} (h : l.length = n) (hi : i < n) : (l.set i v).getD i 0 = v := by simp [List.getD, h, hi]
theorem set_getD_ne {l : List Nat} {i k v : Nat} (h : i ≠ k) : (l.set i v).getD k 0 = l.getD k 0 := by simp [List.getD, h]
theorem unc_sem (br : List Nat) (vars : List Int) (dn : List Nat) (hV : VarsOk vars) (hd : ∀ q, dn.getD q 0 < 64) (hne : ∃ l, OutOf vars dn l) : ∀ (m i R : Nat) (sp : List Nat), m + i = vars.length → sp.length = 8 → SubD sp dn → UncSem br vars dn sp i R (fun _ => True) (unc br vars dn m i R sp) := by
  have zero : ∀ (i : Nat) (sp : List Nat), i ≤ vars.length → sp.length = 8 → SubD sp dn → UncSem br vars dn sp i 0 (fun _ => True) (true, fillFrom vars dn sp i (vars.length - i)) := by
    intro i sp hi h8 hs
    have hg := fun q => fillFrom_get vars dn sp hV h8 i q (vars.length - i) (by omega)
    have hu : ∀ l, Uncov br vars.length i 0 l := fun l j hj => by simp at hj
    obtain ⟨l0, hl0⟩ := hne
    refine ⟨by rw [fillFrom_length]; exact h8, fun q v h => ?_, ⟨fun _ => ⟨l0, hl0, hu l0, trivial⟩, fun _ => rfl⟩, fun q v => ?_⟩
    · have h' : ((fillFrom vars dn sp i (vars.length - i)).getD q 0).testBit v = true := h
      rw [hg q] at h'
      split at h'
      · exact h'
      · exact hs q v h'
    · show ((fillFrom vars dn sp i (vars.length - i)).getD q 0).testBit v = true ↔ _
      rw [hg q]
      constructor
      · intro h
        split at h
        · rename_i hk
          obtain ⟨k, h2, h1, e⟩ := hk
          subst e
          exact .inr ⟨l0.set k v, k, hl0.set k v h, hu _, trivial, h1, by omega, rfl, set_getD hl0.1 (by omega)⟩
        · exact .inl h
      · rintro (h | ⟨l, k, hl, _, _, h1, h2, e, e2⟩)
        · split
          · exact hs q v h
          · exact h
        · rw [if_pos ⟨k, by omega, h1, e⟩]
          subst e e2
          exact hl.2 k h2
  intro m
  induction m with
  | zero =>
    intro i R sp hm h8 hs
    unfold unc
    split
    · rename_i h0
      subst h0
      exact zero i sp (by omega) h8 hs
    · rename_i h0
      obtain ⟨j, hj⟩ := ne_zero_bit h0
      have hno : ∀ l, ¬ Uncov br vars.length i R l := fun l h => by
        obtain ⟨k, h1, h2, _⟩ := h j hj
        omega
      refine ⟨h8, hs, ⟨fun h => (by cases h), fun ⟨l, _, h, _⟩ => absurd h (hno l)⟩, fun q v => ⟨fun h => .inl h, ?_⟩⟩
      rintro (h | ⟨l, k, _, h, _⟩)
      · exact h
      · exact absurd h (hno l)
  | succ m ih =>
    intro i R sp hm h8 hs
    unfold unc
    split
    · rename_i h0
      subst h0
      exact zero i sp (by omega) h8 hs
    · have hin : i < vars.length := by omega
      have key := foldl_pre (fun (pre : List Nat) (st : Bool × List Nat) => UncSem br vars dn sp i R (fun l => l.getD i 0 ∈ pre) st) (uncStep (unc br vars dn m (i + 1)) br i R (vars.getD i 0).toNat) (vals (dn.getD (vars.getD i 0).toNat 0)) [] (false, sp)
        ⟨h8, hs, ⟨fun h => (by cases h), fun ⟨l, _, _, h⟩ => (by cases h)⟩, fun q v => ⟨fun h => .inl h, fun h => by
          rcases h with h | ⟨l, k, _, _, h, _⟩
          · exact h
          · cases h⟩⟩
        (fun p a st ha hst => by
          have hab := (vals_mem (hd _)).1 ha
          have h1 := ih (i + 1) (R &&& br.getD (6 * i + a) 0) st.2 (by omega) hst.len hst.sub
          have hq8 := hV.lt hin
          unfold uncStep
          generalize unc br vars dn m (i + 1) (R &&& br.getD (6 * i + a) 0) st.2 = X at h1
          have mem : ∀ l : List Nat, l.getD i 0 ∈ p ++ [a] ↔ l.getD i 0 ∈ p ∨ l.getD i 0 = a := fun l => by simp
          cases hX : X.1 with
          | true =>
            obtain ⟨l1, hl1, hu1, _⟩ := h1.one.1 hX
            have hl1' := hl1.set i a hab
            have hu1' : Uncov br vars.length i R (l1.set i a) := (uncov_step hin (set_getD hl1.1 hin)).2 hu1.set
            rw [if_pos rfl]
            have hg : ∀ q, (X.2.set (vars.getD i 0).toNat (X.2.getD (vars.getD i 0).toNat 0 ||| 2 ^ a)).getD q 0 = if (vars.getD i 0).toNat = q then X.2.getD (vars.getD i 0).toNat 0 ||| 2 ^ a else X.2.getD q 0 := fun q => getD_set8 _ _ _ _ (by rw [h1.len]; exact hq8)
            have two : ∀ q v, ((X.2.set (vars.getD i 0).toNat (X.2.getD (vars.getD i 0).toNat 0 ||| 2 ^ a)).getD q 0).testBit v = true ↔ (X.2.getD q 0).testBit v = true ∨ ((vars.getD i 0).toNat = q ∧ a = v) := by
              intro q v
              rw [hg q]
              split
              · rename_i e
                rw [Nat.testBit_or, Bool.or_eq_true, Nat.testBit_two_pow, decide_eq_true_eq, e]
                exact ⟨fun h => h.elim .inl (fun h => .inr ⟨rfl, h⟩), fun h => h.elim .inl (fun h => .inr h.2)⟩
              · rename_i e
                exact ⟨.inl, fun h => h.elim id (fun h => absurd h.1 e)⟩
            refine ⟨by simp [h1.len], fun q v h => ?_, ⟨fun _ => ⟨_, hl1', hu1', (mem _).2 (.inr (set_getD hl1.1 hin))⟩, fun _ => rfl⟩, fun q v => ?_⟩
            · rcases (two q v).1 h with h | ⟨rfl, rfl⟩
              · exact h1.sub q v h
              · exact hab
            · rw [two q v, h1.two q v, hst.two q v]
              constructor
              · rintro (((h | ⟨l, k, a1, a2, a3, a4⟩) | ⟨l, k, a1, a2, _, a4, a5, a6, a7⟩) | ⟨rfl, rfl⟩)
                · exact .inl h
                · exact .inr ⟨l, k, a1, a2, (mem l).2 (.inl a3), a4⟩
                · exact .inr ⟨l.set i a, k, a1.set i a hab, (uncov_step hin (set_getD a1.1 hin)).2 a2.set, (mem _).2 (.inr (set_getD a1.1 hin)), by omega, a5, a6, by rw [set_getD_ne (by omega)]; exact a7⟩
                · exact .inr ⟨_, i, hl1', hu1', (mem _).2 (.inr (set_getD hl1.1 hin)), Nat.le_refl _, hin, rfl, set_getD hl1.1 hin⟩
              · rintro (h | ⟨l, k, a1, a2, a3, a4, a5, a6, a7⟩)
                · exact .inl (.inl (.inl h))
                · rcases (mem l).1 a3 with a3 | a3
                  · exact .inl (.inl (.inr ⟨l, k, a1, a2, a3, a4, a5, a6, a7⟩))
                  · by_cases hk : k = i
                    · subst hk
                      exact .inr ⟨a6, by rw [← a3]; exact a7⟩
                    · exact .inl (.inr ⟨l, k, a1, (uncov_step hin a3).1 a2, trivial, by omega, a5, a6, a7⟩)
          | false =>
            have hno : ∀ l, OutOf vars dn l → l.getD i 0 = a → ¬ Uncov br vars.length i R l := fun l hl e h => by
              have := h1.one.2 ⟨l, hl, (uncov_step hin e).1 h, trivial⟩
              rw [hX] at this
              cases this
            have hno2 : ∀ l, OutOf vars dn l → ¬ Uncov br vars.length (i + 1) (R &&& br.getD (6 * i + a) 0) l := fun l hl h => by
              have := h1.one.2 ⟨l, hl, h, trivial⟩
              rw [hX] at this
              cases this
            rw [if_neg (by simp)]
            refine ⟨h1.len, h1.sub, ?_, fun q v => ?_⟩
            · show st.1 = true ↔ _
              rw [hst.one]
              constructor
              · rintro ⟨l, a1, a2, a3⟩
                exact ⟨l, a1, a2, (mem l).2 (.inl a3)⟩
              · rintro ⟨l, a1, a2, a3⟩
                rcases (mem l).1 a3 with a3 | a3
                · exact ⟨l, a1, a2, a3⟩
                · exact absurd a2 (hno l a1 a3)
            · show (X.2.getD q 0).testBit v = true ↔ _
              rw [h1.two q v, hst.two q v]
              constructor
              · rintro ((h | ⟨l, k, a1, a2, a3, a4⟩) | ⟨l, k, a1, a2, _⟩)
                · exact .inl h
                · exact .inr ⟨l, k, a1, a2, (mem l).2 (.inl a3), a4⟩
                · exact absurd a2 (hno2 l a1)
              · rintro (h | ⟨l, k, a1, a2, a3, a4⟩)
                · exact .inl (.inl h)
                · rcases (mem l).1 a3 with a3 | a3
                  · exact .inl (.inr ⟨l, k, a1, a2, a3, a4⟩)
                  · exact absurd a2 (hno l a1 a3))
      rw [List.nil_append] at key
      refine ⟨key.len, key.sub, ?_, fun q v => ?_⟩
      · rw [key.one]
        exact ⟨fun ⟨l, a1, a2, _⟩ => ⟨l, a1, a2, trivial⟩, fun ⟨l, a1, a2, _⟩ => ⟨l, a1, a2, (vals_mem (hd _)).2 (a1.2 i hin)⟩⟩
      · rw [key.two q v]
        constructor
        · rintro (h | ⟨l, k, a1, a2, _, a4⟩)
          · exact .inl h
          · exact .inr ⟨l, k, a1, a2, trivial, a4⟩
        · rintro (h | ⟨l, k, a1, a2, _, a4⟩)
          · exact .inl h
          · exact .inr ⟨l, k, a1, a2, (vals_mem (hd _)).2 (a1.2 i hin), a4⟩
theorem zero8_get (q : Nat) : zero8.getD q 0 = 0 := by
  rcases q with _ | _ | _ | _ | _ | _ | _ | _ | q <;> rfl
/-- Way 1, Not: what Narrow leaves are the supported values. -/
theorem nDomN_sem (vars : List Int) (rows : List (List Int)) (dn : List Nat) (live : Nat) (h8 : dn.length = 8) (hV : VarsOk vars) (hd : ∀ q, dn.getD q 0 < 64) (hrow : ∀ j, j < rows.length → (rows.getD j []).length = vars.length) (hR : RsRep vars rows dn live)
    (hne : ∃ l, OutOf vars dn l) (i v : Nat) (hi : i < vars.length) : ((nDomN (brTo rows rows.length) live vars dn).getD (vars.getD i 0).toNat 0).testBit v = true ↔ Supp vars rows true dn i v := by
  unfold nDomN
  rw [replTo_get vars dn _ (fun k hk => by rw [h8]; exact hV.lt hk) _ _ (Nat.le_refl _), if_pos ⟨i, hi, rfl⟩]
  have h := unc_sem (brTo rows rows.length) vars dn hV hd hne vars.length 0 (nLive (brTo rows rows.length) live vars dn) zero8 rfl rfl (fun q v h => by rw [zero8_get] at h; simp at h)
  rw [h.two, zero8_get]
  have hu : ∀ l, OutOf vars dn l → (Uncov (brTo rows rows.length) vars.length 0 (nLive (brTo rows rows.length) live vars dn) l ↔ Allow rows true l) := by
    intro l hl
    have h4 := hV.four
    constructor
    · intro hu j hj hc
      obtain ⟨k, _, hk, hb⟩ := hu j ((nLive_bit vars rows dn live hV.four hd hrow hR j).2 ⟨hj, l, hl, hc⟩)
      have := (brTo_bit rows k _ (by omega) (bit_lt6 (hd _) (hl.2 k hk)) rows.length j).2 ⟨hj, by rw [hrow j hj]; exact hk, hc k (by rw [hl.1]; exact hk)⟩
      rw [hb] at this
      cases this
    · intro ha j hj
      have hj' := ((nLive_bit vars rows dn live hV.four hd hrow hR j).1 hj).1
      refine Classical.byContradiction fun hc => ha j hj' ?_
      intro k hk
      rw [hl.1] at hk
      cases hb : ((brTo rows rows.length).getD (6 * k + l.getD k 0) 0).testBit j with
      | false => exact absurd ⟨k, Nat.zero_le _, hk, hb⟩ hc
      | true => exact ((brTo_bit rows k _ (by omega) (bit_lt6 (hd _) (hl.2 k hk)) rows.length j).1 hb).2.2
  constructor
  · rintro (h0 | ⟨l, k, a1, a2, _, _, a5, a6, a7⟩)
    · simp at h0
    · have e := hV.nat a5 hi a6
      subst e
      exact ⟨l, a1, a7, (hu l a1).1 a2⟩
  · rintro ⟨l, a1, a2, a3⟩
    exact .inr ⟨l, i, a1, (hu l a1).2 a3, trivial, Nat.zero_le _, hi, rfl, a2⟩
end Go.Proofs.YtkjfpdfkcfgfkaaGreat

/- Diagrams: which lists build's diagrams accept. -/
namespace Go.Proofs.YtkjfpdfkcfgfkaaGreat

/-- From node old, m entries ahead of the end, the values of l from entry i on lead to the end. -/
def dAcc (os : List (List Nat)) : Nat → Nat → Nat → List Nat → Prop
  | 0, _, old, _ => old = 1
  | m + 1, i, old, l => 2 ≤ old ∧ dAcc os m (i + 1) (nodeAt os old (l.getD i 0)) l
theorem dAcc_zero (os : List (List Nat)) (m i : Nat) (l : List Nat) : ¬ dAcc os m i 0 l := by
  cases m with
  | zero => intro h; cases h
  | succ m => intro h; exact absurd h.1 (by omega)
theorem dAcc_pre {a b : List (List Nat)} (hp : Pre a b) (l : List Nat) (hl : ∀ i, l.getD i 0 < 6) : ∀ (m i old : Nat), levOk a m old → (dAcc a m i old l ↔ dAcc b m i old l)
  | 0, _, _, _ => Iff.rfl
  | m + 1, i, old, h => by
    rcases h with rfl | ⟨h2, hlt, h⟩
    · exact ⟨fun h => absurd h (dAcc_zero _ _ _ _), fun h => absurd h (dAcc_zero _ _ _ _)⟩
    · obtain ⟨ex, rfl⟩ := hp
      show (2 ≤ old ∧ dAcc a m (i + 1) (nodeAt a old (l.getD i 0)) l) ↔ (2 ≤ old ∧ dAcc (a ++ ex) m (i + 1) (nodeAt (a ++ ex) old (l.getD i 0)) l)
      rw [nodeAt_app a ex old _ hlt, dAcc_pre ⟨ex, rfl⟩ l hl m (i + 1) _ (h _ (hl i))]
theorem dAcc_set (os : List (List Nat)) (l : List Nat) (k v : Nat) : ∀ (m i old : Nat), k < i → (dAcc os m i old (l.set k v) ↔ dAcc os m i old l)
  | 0, _, _, _ => Iff.rfl
  | m + 1, i, old, h => by
    show (2 ≤ old ∧ dAcc os m (i + 1) (nodeAt os old ((l.set k v).getD i 0)) (l.set k v)) ↔ _
    rw [set_getD_ne (by omega), dAcc_set os l k v m (i + 1) _ (by omega)]
    exact Iff.rfl
theorem OutOf.lt6 {vars : List Int} {dn l : List Nat} (h : OutOf vars dn l) (hd : ∀ q, dn.getD q 0 < 64) (i : Nat) : l.getD i 0 < 6 := by
  by_cases hi : i < vars.length
  · exact bit_lt6 (hd _) (h.2 i hi)
  · have : l.getD i 0 = 0 := by
      have h1 : l.length ≤ i := by rw [h.1]; omega
      simp [List.getD, List.getElem?_eq_none h1]
    omega
/-- numberTo's node leads on as it says. -/
theorem dAcc_number (ns : List (List Nat)) (h2 : 2 ≤ ns.length) (n : List Nat) (m i : Nat) (l : List Nat) (hl : ∀ i, l.getD i 0 < 6) (hn : ∀ v, v < 6 → levOk ns m (n.getD v 0)) :
    dAcc (numberTo ns n).1 (m + 1) i (numberTo ns n).2 l ↔ dAcc ns m (i + 1) (n.getD (l.getD i 0) 0) l := by
  have hp := numberTo_pre ns n
  rw [dAcc_pre hp l hl m (i + 1) _ (hn _ (hl i))]
  unfold numberTo
  split
  · rename_i hz
    subst hz
    have e : zero6.getD (l.getD i 0) 0 = 0 := by
      have := hl i
      generalize l.getD i 0 = v at this
      rcases v with _ | _ | _ | _ | _ | _ | v <;> first | rfl | omega
    rw [e]
    exact ⟨fun h => absurd h (dAcc_zero _ _ _ _), fun h => absurd h (dAcc_zero _ _ _ _)⟩
  · split
    · rename_i k hk
      obtain ⟨h1, _, h4⟩ := numOf_get ns n k hk
      show (2 ≤ k ∧ dAcc ns m (i + 1) ((ns.getD k []).getD (l.getD i 0) 0) l) ↔ _
      rw [h4]
      exact ⟨fun h => h.2, fun h => ⟨h1, h⟩⟩
    · show (2 ≤ ns.length ∧ dAcc (ns ++ [n]) m (i + 1) (((ns ++ [n]).getD ns.length []).getD (l.getD i 0) 0) l) ↔ _
      have e : (ns ++ [n]).getD ns.length [] = n := by simp [List.getD]
      rw [e]
      exact ⟨fun h => h.2, fun h => ⟨h2, h⟩⟩
/-- From entry i on, rows allow l. -/
def AllowFrom (n i : Nat) (rows : List (List Int)) (nt : Bool) (l : List Nat) : Prop :=
  if nt then ∀ r ∈ rows, ¬ ∀ k, i ≤ k → k < n → bearsB (r.getD k 0) (l.getD k 0) = true else ∃ r ∈ rows, ∀ k, i ≤ k → k < n → bearsB (r.getD k 0) (l.getD k 0) = true
theorem allow_step (n i : Nat) (hi : i < n) (rows : List (List Int)) (nt : Bool) (l : List Nat) : AllowFrom n (i + 1) (bearRows rows i (l.getD i 0)) nt l ↔ AllowFrom n i rows nt l := by
  have key : ∀ r : List Int, (bearsB (r.getD i 0) (l.getD i 0) = true ∧ ∀ k, i + 1 ≤ k → k < n → bearsB (r.getD k 0) (l.getD k 0) = true) ↔ ∀ k, i ≤ k → k < n → bearsB (r.getD k 0) (l.getD k 0) = true := by
    intro r
    constructor
    · rintro ⟨h1, h2⟩ k hk hn
      by_cases e : k = i
      · subst e; exact h1
      · exact h2 k (by omega) hn
    · intro h
      exact ⟨h i (Nat.le_refl _) hi, fun k hk hn => h k (by omega) hn⟩
  unfold AllowFrom bearRows
  cases nt with
  | true =>
    simp only [if_true, List.mem_filter]
    constructor
    · intro h r hr hc
      have := (key r).2 hc
      exact h r ⟨hr, this.1⟩ this.2
    · rintro h r ⟨hr, hb⟩ hc
      exact h r hr ((key r).1 ⟨hb, hc⟩)
  | false =>
    simp only [Bool.false_eq_true, if_false, List.mem_filter]
    constructor
    · rintro ⟨r, ⟨hr, hb⟩, hc⟩
      exact ⟨r, hr, (key r).1 ⟨hb, hc⟩⟩
    · rintro ⟨r, hr, hc⟩
      have := (key r).2 hc
      exact ⟨r, ⟨hr, this.1⟩, this.2⟩
/-- What build makes accepts what rows allow. -/
theorem bldTo_acc (vars : List Int) (nt : Bool) (dn : List Nat) (hd : ∀ q, dn.getD q 0 < 64) (l : List Nat) (hO : OutOf vars dn l) : ∀ (m i : Nat) (rows : List (List Int)) (ns : List (List Nat)), m + i = vars.length → 2 ≤ ns.length →
    (dAcc (bldTo vars nt dn m i rows ns).1 m i (bldTo vars nt dn m i rows ns).2 l ↔ AllowFrom vars.length i rows nt l)
  | 0, i, rows, ns, hm, h2 => by
    have e : AllowFrom vars.length i rows nt l ↔ (if nt then rows = [] else rows ≠ []) := by
      have tr : ∀ r : List Int, ∀ k, i ≤ k → k < vars.length → bearsB (r.getD k 0) (l.getD k 0) = true := fun r k h1 h2 => by omega
      unfold AllowFrom
      cases nt with
      | true =>
        simp only [if_true]
        constructor
        · intro h
          cases rows with
          | nil => rfl
          | cons r rs => exact absurd (tr r) (h r (List.mem_cons_self ..))
        · rintro rfl r hr
          cases hr
      | false =>
        simp only [Bool.false_eq_true, if_false]
        constructor
        · rintro ⟨r, hr, _⟩ rfl
          cases hr
        · intro h
          cases rows with
          | nil => exact absurd rfl h
          | cons r rs => exact ⟨r, List.mem_cons_self .., tr r⟩
    rw [e]
    unfold bldTo
    cases nt <;> cases rows <;> simp [dAcc]
  | m + 1, i, rows, ns, hm, h2 => by
    unfold bldTo
    split
    · rename_i h
      simp only [Bool.and_eq_true, Bool.not_eq_true', List.isEmpty_iff] at h
      obtain ⟨rfl, rfl⟩ := h
      refine ⟨fun h => absurd h (dAcc_zero _ _ _ _), ?_⟩
      rintro ⟨r, hr, _⟩
      cases hr
    · have hi : i < vars.length := by omega
      have key := foldl_pre (fun (pre : List Nat) (st : List (List Nat) × List Nat) => 2 ≤ st.1.length ∧ st.2.length = 6 ∧ (∀ v, v < 6 → levOk st.1 m (st.2.getD v 0)) ∧ ∀ v ∈ pre, v < 6 ∧ (dAcc st.1 m (i + 1) (st.2.getD v 0) l ↔ AllowFrom vars.length (i + 1) (bearRows rows i v) nt l))
        (bldStep (bldTo vars nt dn m (i + 1)) rows i) (vals (dn.getD (vars.getD i 0).toNat 0)) [] (ns, zero6)
        ⟨h2, rfl, fun v hv => by
          have e : zero6.getD v 0 = 0 := by
            rcases v with _ | _ | _ | _ | _ | _ | v <;> first | rfl | omega
          show levOk ns m (zero6.getD v 0)
          rw [e]
          exact lev_zero ns m, fun v hv => by cases hv⟩
        (fun p a st ha hst => by
          obtain ⟨k1, k2, k3, k4⟩ := hst
          have ha6 : a < 6 := vals_lt6 (hd _) ha
          have ih := bldTo_acc vars nt dn hd l hO m (i + 1) (bearRows rows i a) st.1 (by omega) k1
          have il := bldTo_lev vars nt dn m (i + 1) (bearRows rows i a) st.1 k1
          unfold bldStep
          generalize bldTo vars nt dn m (i + 1) (bearRows rows i a) st.1 = X at ih il
          have hl2 : 2 ≤ X.1.length := by
            obtain ⟨ex, he⟩ := il.1
            rw [he]
            simp
            omega
          have hself : (st.2.set a X.2).getD a 0 = X.2 := set_getD k2 ha6
          refine ⟨hl2, by simp [k2], fun v hv => ?_, fun v hv => ?_⟩
          · show levOk X.1 m ((st.2.set a X.2).getD v 0)
            by_cases e : a = v
            · subst e
              rw [hself]
              exact il.2
            · rw [set_getD_ne e]
              exact il.1.lev (k3 v hv)
          · show v < 6 ∧ (dAcc X.1 m (i + 1) ((st.2.set a X.2).getD v 0) l ↔ _)
            by_cases e : a = v
            · subst e
              rw [hself]
              exact ⟨ha6, ih⟩
            · rw [set_getD_ne e]
              have hv' : v ∈ p := by
                rcases List.mem_append.1 hv with h | h
                · exact h
                · exact absurd (List.mem_singleton.1 h).symm e
              have := k4 v hv'
              refine ⟨this.1, ?_⟩
              rw [← dAcc_pre il.1 l (hO.lt6 hd) m (i + 1) _ (k3 v this.1)]
              exact this.2)
      rw [List.nil_append] at key
      generalize (vals (dn.getD (vars.getD i 0).toNat 0)).foldl (bldStep (bldTo vars nt dn m (i + 1)) rows i) (ns, zero6) = st at key
      obtain ⟨k1, k2, k3, k4⟩ := key
      rw [dAcc_number st.1 k1 st.2 m i l (hO.lt6 hd) k3, (k4 _ ((vals_mem (hd _)).2 (hO.2 i hi))).2]
      exact allow_step vars.length i hi rows nt l
end Go.Proofs.YtkjfpdfkcfgfkaaGreat

/- Diagrams: what cut leaves of them, and marks. -/
namespace Go.Proofs.YtkjfpdfkcfgfkaaGreat

/-- A cutter whose memo is right. -/
structure CSem (os : List (List Nat)) (vars : List Int) (dn : List Nat) (s : CS) : Prop where
  lev : CLev os s
  sp8 : s.sp.length = 8
  mv : ∀ k x m i, s.mv k = some x → 2 ≤ k → levOk os m k → m + i = vars.length →
    (∀ l, OutOf vars dn l → (dAcc s.ns m i x l ↔ dAcc os m i k l)) ∧ (x ≠ 0 → ∃ l, OutOf vars dn l ∧ dAcc os m i k l) ∧
    ∀ l j, OutOf vars dn l → dAcc os m i k l → i ≤ j → j < vars.length → (s.sp.getD (vars.getD j 0).toNat 0).testBit (l.getD j 0) = true
/-- What a call of cut does. -/
structure CutSem (os : List (List Nat)) (vars : List Int) (dn : List Nat) (m i old : Nat) (s : CS) (r : CS × Nat) : Prop where
  sem : CSem os vars dn r.1
  pre : Pre s.ns r.1.ns
  lev : levOk r.1.ns m r.2
  acc : ∀ l, OutOf vars dn l → (dAcc r.1.ns m i r.2 l ↔ dAcc os m i old l)
  ne : r.2 ≠ 0 → ∃ l, OutOf vars dn l ∧ dAcc os m i old l
  sp : ∀ q v, (r.1.sp.getD q 0).testBit v = true ↔ (s.sp.getD q 0).testBit v = true ∨ ∃ l j, OutOf vars dn l ∧ dAcc os m i old l ∧ i ≤ j ∧ j < vars.length ∧ (vars.getD j 0).toNat = q ∧ l.getD j 0 = v
theorem mark_bit (s : CS) (q v r p u : Nat) (hq : q < s.sp.length) : ((s.mark q v r).sp.getD p 0).testBit u = true ↔ (s.sp.getD p 0).testBit u = true ∨ (r ≠ 0 ∧ q = p ∧ v = u) := by
  unfold CS.mark
  dsimp only
  split
  · rename_i h
    exact ⟨.inl, fun h' => h'.elim id (fun h2 => absurd h h2.1)⟩
  · rename_i h
    rw [getD_set8 _ _ _ _ hq]
    split
    · rename_i e
      rw [Nat.testBit_or, Bool.or_eq_true, Nat.testBit_two_pow, decide_eq_true_eq, e]
      exact ⟨fun h' => h'.elim .inl (fun h2 => .inr ⟨h, rfl, h2⟩), fun h' => h'.elim .inl (fun h2 => .inr h2.2.2)⟩
    · rename_i e
      exact ⟨.inl, fun h' => h'.elim id (fun h2 => absurd h2.2.1 e)⟩
theorem CSem.mark {os : List (List Nat)} {vars : List Int} {dn : List Nat} {s : CS} (h : CSem os vars dn s) (q v r : Nat) (hq : q < 8) : CSem os vars dn (s.mark q v r) := by
  refine ⟨⟨h.lev.two, h.lev.nz, h.lev.mv⟩, ?_, fun k x m i hx h2 hl hm => ?_⟩
  · unfold CS.mark
    dsimp only
    split
    · exact h.sp8
    · simpa using h.sp8
  · have := h.mv k x m i hx h2 hl hm
    exact ⟨this.1, this.2.1, fun l j a b c d => (mark_bit s q v r _ _ (by rw [h.sp8]; exact hq)).2 (.inl (this.2.2 l j a b c d))⟩
theorem cutTo_sem (os : List (List Nat)) (hz : NZ os) (vars : List Int) (dn : List Nat) (hV : VarsOk vars) (hd : ∀ q, dn.getD q 0 < 64) (hne : ∃ l, OutOf vars dn l) : ∀ (m i old : Nat) (s : CS), m + i = vars.length → levOk os m old → CSem os vars dn s → CutSem os vars dn m i old s (cutTo os vars dn m i old s)
  | 0, i, old, s, hm, hl, h => by
    have hl' : old < 2 := hl
    refine ⟨h, Pre.refl _, hl, fun l _ => Iff.rfl, fun h0 => ?_, fun q v => ⟨.inl, fun h' => h'.elim id ?_⟩⟩
    · have h0' : old ≠ 0 := h0
      obtain ⟨l, hl0⟩ := hne
      exact ⟨l, hl0, show old = 1 by omega⟩
    · rintro ⟨l, j, _, _, h1, h2, _⟩
      omega
  | m + 1, i, old, s, hm, hl, h => by
    have hi : i < vars.length := by omega
    unfold cutTo
    by_cases ho : old < 2
    · rw [if_pos ho]
      have h0 : old = 0 := by
        rcases hl with hl | ⟨h2, _⟩ <;> omega
      subst h0
      refine ⟨h, Pre.refl _, .inl rfl, fun l _ => ⟨fun h => absurd h (dAcc_zero _ _ _ _), fun h => absurd h (dAcc_zero _ _ _ _)⟩, fun h0 => absurd rfl h0, fun q v => ⟨.inl, fun h' => h'.elim id ?_⟩⟩
      rintro ⟨l, j, _, h1, _⟩
      exact absurd h1 (dAcc_zero _ _ _ _)
    · rw [if_neg ho]
      have hlev' := hl
      obtain ⟨ho2, holt, hch⟩ : 2 ≤ old ∧ old < os.length ∧ ∀ v, v < 6 → levOk os m (nodeAt os old v) := by
        rcases hl with h1 | h1
        · omega
        · exact h1
      cases hmv : s.mv old with
      | some k =>
        obtain ⟨h1, h2, h3⟩ := h.mv old k (m + 1) i hmv ho2 hlev' hm
        refine ⟨h, Pre.refl _, h.lev.mv old k hmv (m + 1) ho2 hlev', h1, h2, fun q v => ⟨.inl, fun h' => h'.elim id ?_⟩⟩
        rintro ⟨l, j, a1, a2, a3, a4, rfl, rfl⟩
        exact h3 l j a1 a2 a3 a4
      | none =>
        dsimp only
        have hq8 := hV.lt hi
        have key := foldl_pre (fun (pre : List Nat) (st : CS × List Nat) => CSem os vars dn st.1 ∧ Pre s.ns st.1.ns ∧ st.2.length = 6 ∧ (∀ v, v < 6 → levOk st.1.ns m (st.2.getD v 0)) ∧ (∀ v, v ∉ pre → st.2.getD v 0 = 0) ∧
            (∀ v ∈ pre, v < 6 ∧ (dn.getD (vars.getD i 0).toNat 0).testBit v = true ∧ (∀ l, OutOf vars dn l → (dAcc st.1.ns m (i + 1) (st.2.getD v 0) l ↔ dAcc os m (i + 1) (nodeAt os old v) l)) ∧ (st.2.getD v 0 ≠ 0 → ∃ l, OutOf vars dn l ∧ dAcc os m (i + 1) (nodeAt os old v) l)) ∧
            ∀ q v, (st.1.sp.getD q 0).testBit v = true ↔ (s.sp.getD q 0).testBit v = true ∨ ∃ l j, OutOf vars dn l ∧ l.getD i 0 ∈ pre ∧ dAcc os m (i + 1) (nodeAt os old (l.getD i 0)) l ∧ i ≤ j ∧ j < vars.length ∧ (vars.getD j 0).toNat = q ∧ l.getD j 0 = v)
          (cutStep (cutTo os vars dn m (i + 1)) os old (vars.getD i 0).toNat) (vals (dn.getD (vars.getD i 0).toNat 0)) [] (s, zero6)
          ⟨h, Pre.refl _, rfl, fun v hv => by
            have e : zero6.getD v 0 = 0 := by
              rcases v with _ | _ | _ | _ | _ | _ | v <;> first | rfl | omega
            show levOk s.ns m (zero6.getD v 0)
            rw [e]
            exact lev_zero s.ns m, fun v _ => by
            rcases v with _ | _ | _ | _ | _ | _ | v <;> rfl, fun v hv => (by cases hv), fun q v => ⟨.inl, fun h' => h'.elim id (by rintro ⟨l, j, _, h1, _⟩; cases h1)⟩⟩
          (fun p a st ha hst => by
            obtain ⟨k1, k2, k3, k4, k5, k6, k7⟩ := hst
            have hab := (vals_mem (hd _)).1 ha
            have ha6 : a < 6 := vals_lt6 (hd _) ha
            have ih := cutTo_sem os hz vars dn hV hd hne m (i + 1) (nodeAt os old a) st.1 (by omega) (hch a ha6) k1
            unfold cutStep
            generalize cutTo os vars dn m (i + 1) (nodeAt os old a) st.1 = X at ih
            have hself : (st.2.set a X.2).getD a 0 = X.2 := set_getD k3 ha6
            refine ⟨ih.sem.mark _ a X.2 hq8, k2.trans ih.pre, by simp [k3], fun v hv => ?_, fun v hv => ?_, fun v hv => ?_, fun q v => ?_⟩
            · show levOk X.1.ns m ((st.2.set a X.2).getD v 0)
              by_cases e : a = v
              · subst e
                rw [hself]
                exact ih.lev
              · rw [set_getD_ne e]
                exact ih.pre.lev (k4 v hv)
            · have hv2 : v ∉ p ∧ ¬ a = v := by
                constructor
                · exact fun hc => hv (List.mem_append_left _ hc)
                · rintro rfl
                  exact hv (by simp)
              show (st.2.set a X.2).getD v 0 = 0
              rw [set_getD_ne hv2.2]
              exact k5 v hv2.1
            · show v < 6 ∧ _ ∧ (∀ l, OutOf vars dn l → (dAcc X.1.ns m (i + 1) ((st.2.set a X.2).getD v 0) l ↔ dAcc os m (i + 1) (nodeAt os old v) l)) ∧ ((st.2.set a X.2).getD v 0 ≠ 0 → _)
              by_cases e : a = v
              · subst e
                rw [hself]
                exact ⟨ha6, hab, ih.acc, ih.ne⟩
              · rw [set_getD_ne e]
                have hv' : v ∈ p := by
                  rcases List.mem_append.1 hv with h | h
                  · exact h
                  · exact absurd (List.mem_singleton.1 h).symm e
                obtain ⟨q1, q2, q3, q4⟩ := k6 v hv'
                refine ⟨q1, q2, fun l hO => ?_, q4⟩
                rw [← dAcc_pre ih.pre l (hO.lt6 hd) m (i + 1) _ (k4 v q1)]
                exact q3 l hO
            · rw [show (((X.1.mark (vars.getD i 0).toNat a X.2, st.2.set a X.2) : CS × List Nat).1.sp.getD q 0).testBit v = ((X.1.mark (vars.getD i 0).toNat a X.2).sp.getD q 0).testBit v from rfl, mark_bit _ _ _ _ _ _ (by rw [ih.sem.sp8]; exact hq8), ih.sp q v, k7 q v]
              have mem : ∀ l : List Nat, l.getD i 0 ∈ p ++ [a] ↔ l.getD i 0 ∈ p ∨ l.getD i 0 = a := fun l => by simp
              constructor
              · rintro (((h' | ⟨l, j, a1, a2, a3, a4⟩) | ⟨l, j, a1, a2, a3, a4, a5, a6⟩) | ⟨h0, rfl, rfl⟩)
                · exact .inl h'
                · exact .inr ⟨l, j, a1, (mem l).2 (.inl a2), a3, a4⟩
                · refine .inr ⟨l.set i a, j, a1.set i a hab, (mem _).2 (.inr (set_getD a1.1 hi)), ?_, by omega, a4, a5, by rw [set_getD_ne (by omega)]; exact a6⟩
                  rw [set_getD a1.1 hi]
                  exact (dAcc_set os l i a m (i + 1) _ (by omega)).2 a2
                · obtain ⟨l, a1, a2⟩ := ih.ne h0
                  refine .inr ⟨l.set i a, i, a1.set i a hab, (mem _).2 (.inr (set_getD a1.1 hi)), ?_, Nat.le_refl _, hi, rfl, set_getD a1.1 hi⟩
                  rw [set_getD a1.1 hi]
                  exact (dAcc_set os l i a m (i + 1) _ (by omega)).2 a2
              · rintro (h' | ⟨l, j, a1, a2, a3, a4, a5, a6, a7⟩)
                · exact .inl (.inl (.inl h'))
                · rcases (mem l).1 a2 with a2 | a2
                  · exact .inl (.inl (.inr ⟨l, j, a1, a2, a3, a4, a5, a6, a7⟩))
                  · rw [a2] at a3
                    by_cases e : j = i
                    · subst e
                      refine .inr ⟨fun h0 => ?_, a6, by rw [← a2]; exact a7⟩
                      have := (ih.acc l a1).2 a3
                      rw [h0] at this
                      exact dAcc_zero _ _ _ _ this
                    · exact .inl (.inr ⟨l, j, a1, a3, by omega, a5, a6, a7⟩))
        rw [List.nil_append] at key
        generalize (vals (dn.getD (vars.getD i 0).toNat 0)).foldl (cutStep (cutTo os vars dn m (i + 1)) os old (vars.getD i 0).toNat) (s, zero6) = st at key
        obtain ⟨k1, k2, k3, k4, k5, k6, k7⟩ := key
        have hp := numberTo_pre st.1.ns st.2
        have hlv := numberTo_lev st.1.ns k1.lev.two st.2 m k4
        have acc : ∀ l, OutOf vars dn l → (dAcc (numberTo st.1.ns st.2).1 (m + 1) i (numberTo st.1.ns st.2).2 l ↔ dAcc os (m + 1) i old l) := by
          intro l hO
          rw [dAcc_number st.1.ns k1.lev.two st.2 m i l (hO.lt6 hd) k4, (k6 _ ((vals_mem (hd _)).2 (hO.2 i hi))).2.2.1 l hO]
          exact ⟨fun h => ⟨ho2, h⟩, fun h => h.2⟩
        have ne : (numberTo st.1.ns st.2).2 ≠ 0 → ∃ l, OutOf vars dn l ∧ dAcc os (m + 1) i old l := by
          intro h0
          have hnz : st.2 ≠ zero6 := by
            intro e
            apply h0
            unfold numberTo
            rw [if_pos e]
          obtain ⟨v, hv6, hv⟩ := nz_of6 st.2 k3 hnz
          have hmem : v ∈ vals (dn.getD (vars.getD i 0).toNat 0) := Classical.byContradiction fun hc => hv (k5 v hc)
          obtain ⟨_, hb, _, hx⟩ := k6 v hmem
          obtain ⟨l, a1, a2⟩ := hx hv
          refine ⟨l.set i v, a1.set i v hb, ho2, ?_⟩
          rw [set_getD a1.1 hi]
          exact (dAcc_set os l i v m (i + 1) _ (by omega)).2 a2
        have sp : ∀ q v, (st.1.sp.getD q 0).testBit v = true ↔ (s.sp.getD q 0).testBit v = true ∨ ∃ l j, OutOf vars dn l ∧ dAcc os (m + 1) i old l ∧ i ≤ j ∧ j < vars.length ∧ (vars.getD j 0).toNat = q ∧ l.getD j 0 = v := by
          intro q v
          rw [k7 q v]
          constructor
          · rintro (h' | ⟨l, j, a1, _, a3, a4⟩)
            · exact .inl h'
            · exact .inr ⟨l, j, a1, ⟨ho2, a3⟩, a4⟩
          · rintro (h' | ⟨l, j, a1, a3, a4⟩)
            · exact .inl h'
            · exact .inr ⟨l, j, a1, (vals_mem (hd _)).2 (a1.2 i hi), a3.2, a4⟩
        have lev : CLev os (st.1.put st.2 old).1 := by
          refine ⟨?_, numberTo_nz st.1.ns k1.lev.nz st.2 k3, ?_⟩
          · obtain ⟨ex, he⟩ := hp
            show 2 ≤ (numberTo st.1.ns st.2).1.length
            rw [he]
            have := k1.lev.two
            simp
            omega
          · intro k x hx m' hk2 hkl
            have hx' : (if k = old then some (numberTo st.1.ns st.2).2 else st.1.mv k) = some x := hx
            split at hx'
            · rename_i hko
              subst hko
              cases hx'
              rw [lev_uniq os hz m' (m + 1) k (by omega) hkl hlev']
              exact hlv
            · exact hp.lev (k1.lev.mv k x hx' m' hk2 hkl)
        refine ⟨⟨lev, k1.sp8, ?_⟩, k2.trans hp, hlv, acc, ne, sp⟩
        intro k x m' i' hx hk2 hkl hmi
        have hx' : (if k = old then some (numberTo st.1.ns st.2).2 else st.1.mv k) = some x := hx
        split at hx'
        · rename_i hko
          subst hko
          cases hx'
          have e := lev_uniq os hz m' (m + 1) k (by omega) hkl hlev'
          subst e
          have e2 : i' = i := by omega
          subst e2
          exact ⟨acc, ne, fun l j a1 a2 a3 a4 => (sp _ _).2 (.inr ⟨l, j, a1, a2, a3, a4, rfl, rfl⟩)⟩
        · obtain ⟨q1, q2, q3⟩ := k1.mv k x m' i' hx' hk2 hkl hmi
          refine ⟨fun l hO => ?_, q2, q3⟩
          show dAcc (numberTo st.1.ns st.2).1 m' i' x l ↔ _
          rw [← dAcc_pre hp l (hO.lt6 hd) m' i' x (k1.lev.mv k x hx' m' hk2 hkl)]
          exact q1 l hO
/-- A diagram accepts what the table allows, of lists out of the domains. -/
def DRep (vars : List Int) (rows : List (List Int)) (nt : Bool) (dn : List Nat) (os : List (List Nat)) (root : Nat) : Prop := ∀ l, OutOf vars dn l → (dAcc os vars.length 0 root l ↔ Allow rows nt l)
theorem s0_sem (os : List (List Nat)) (vars : List Int) (dn : List Nat) : CSem os vars dn s0 := ⟨s0_lev os, rfl, fun k x m i h => by cases h⟩
/-- Way 2: what Narrow leaves are the supported values. -/
theorem dDom_sem (vars : List Int) (rows : List (List Int)) (nt : Bool) (dn : List Nat) (os : List (List Nat)) (root : Nat) (h8 : dn.length = 8) (hV : VarsOk vars) (hd : ∀ q, dn.getD q 0 < 64) (hz : NZ os) (hl : levOk os vars.length root) (hR : DRep vars rows nt dn os root)
    (hne : ∃ l, OutOf vars dn l) (i v : Nat) (hi : i < vars.length) : ((dDom os root vars dn).getD (vars.getD i 0).toNat 0).testBit v = true ↔ Supp vars rows nt dn i v := by
  unfold dDom
  rw [replTo_get vars dn _ (fun k hk => by rw [h8]; exact hV.lt hk) _ _ (Nat.le_refl _), if_pos ⟨i, hi, rfl⟩]
  have h := cutTo_sem os hz vars dn hV hd hne vars.length 0 root s0 rfl hl (s0_sem os vars dn)
  unfold dCut
  rw [h.sp]
  have hz8 : s0.sp.getD (vars.getD i 0).toNat 0 = 0 := zero8_get _
  rw [hz8]
  constructor
  · rintro (h0 | ⟨l, k, a1, a2, _, a4, a5, a6⟩)
    · simp at h0
    · have e := hV.nat a4 hi a5
      subst e
      exact ⟨l, a1, a6, (hR l a1).1 a2⟩
  · rintro ⟨l, a1, a2, a3⟩
    exact .inr ⟨l, i, a1, (hR l a1).2 a3, Nat.zero_le _, hi, rfl, a2⟩
theorem dCut_rep (vars : List Int) (rows : List (List Int)) (nt : Bool) (dn : List Nat) (os : List (List Nat)) (root : Nat) (hV : VarsOk vars) (hd : ∀ q, dn.getD q 0 < 64) (hz : NZ os) (hl : levOk os vars.length root) (hR : DRep vars rows nt dn os root)
    (hne : ∃ l, OutOf vars dn l) : DRep vars rows nt dn (dCut os root vars dn).1.ns (dCut os root vars dn).2 := by
  intro l hO
  have h := cutTo_sem os hz vars dn hV hd hne vars.length 0 root s0 rfl hl (s0_sem os vars dn)
  unfold dCut
  rw [h.acc l hO]
  exact hR l hO
end Go.Proofs.YtkjfpdfkcfgfkaaGreat

/- What Narrow leaves, of tables of any kind; the closure. -/
namespace Go.Proofs.YtkjfpdfkcfgfkaaGreat

theorem Pre.zero {ns ns' : List (List Nat)} (h : Pre ns ns') (h0 : 0 < ns.length) : ns'.getD 0 [] = ns.getD 0 [] := by
  obtain ⟨t, rfl⟩ := h
  simp only [List.getD]
  rw [List.getElem?_append_left h0]
/-- A table as the document has it. -/
structure Tb where
  vars : List Int
  rows : List (List Int)
  nt : Bool
structure Tb.Ok (b : Tb) : Prop where
  vars : VarsOk b.vars
  rows : ∀ j, j < b.rows.length → (b.rows.getD j []).length = b.vars.length
  pos : 1 ≤ b.vars.length
/-- What is left of a table is right for domains. -/
def TRep (b : Tb) (dn : List Nat) : TS → Prop
  | .rs nt br live => nt = b.nt ∧ br = brTo b.rows b.rows.length ∧ RsRep b.vars b.rows dn live
  | .dg _ os root => NZ os ∧ levOk os b.vars.length root ∧ DRep b.vars b.rows b.nt dn os root ∧ os.getD 0 [] = zero6
/-- Domains as the program keeps them. -/
structure Dm (dn : List Nat) : Prop where
  len : dn.length = 8
  lt : ∀ q, dn.getD q 0 < 64
theorem SubD.refl (d : List Nat) : SubD d d := fun _ _ h => h
theorem SubD.trans {a b c : List Nat} (h : SubD a b) (k : SubD b c) : SubD a c := fun q v x => k q v (h q v x)
theorem OutOf.mono {vars : List Int} {d d' l : List Nat} (h : OutOf vars d l) (hs : SubD d d') : OutOf vars d' l := ⟨h.1, fun i hi => hs _ _ (h.2 i hi)⟩
theorem Supp.mono {vars : List Int} {rows : List (List Int)} {nt : Bool} {d d' : List Nat} {i v : Nat} (h : Supp vars rows nt d i v) (hs : SubD d d') : Supp vars rows nt d' i v := by
  obtain ⟨l, a1, a2, a3⟩ := h
  exact ⟨l, a1.mono hs, a2, a3⟩
theorem TRep.mono {b : Tb} {d d' : List Nat} {t : TS} (h : TRep b d' t) (hs : SubD d d') : TRep b d t := by
  cases t with
  | rs nt br live => exact ⟨h.1, h.2.1, h.2.2.1, fun j hj ⟨l, a1, a2⟩ => h.2.2.2 j hj ⟨l, a1.mono hs, a2⟩⟩
  | dg nv os root => exact ⟨h.1, h.2.1, fun l hO => h.2.2.1 l (hO.mono hs), h.2.2.2⟩
/-- What Narrow leaves of a table's variables are the supported values. -/
theorem tDom_sem {b : Tb} (hb : b.Ok) {dn : List Nat} (hd : Dm dn) {t : TS} (ht : TRep b dn t) (hne : ∃ l, OutOf b.vars dn l) (i v : Nat) (hi : i < b.vars.length) :
    ((tDom b.vars dn t).getD (b.vars.getD i 0).toNat 0).testBit v = true ↔ Supp b.vars b.rows b.nt dn i v := by
  cases t with
  | rs nt br live =>
    obtain ⟨rfl, rfl, hR⟩ := ht
    cases hn : b.nt with
    | false => exact nDom_sem b.vars b.rows dn live hd.len hb.vars hd.lt hb.rows hR i v hi
    | true => exact nDomN_sem b.vars b.rows dn live hd.len hb.vars hd.lt hb.rows hR hne i v hi
  | dg nv os root => exact dDom_sem b.vars b.rows b.nt dn os root hd.len hb.vars hd.lt ht.1 ht.2.1 ht.2.2.1 hne i v hi
/-- Of other variables nothing is taken. -/
theorem tDom_other {b : Tb} (hb : b.Ok) {dn : List Nat} (hd : Dm dn) (t : TS) (q : Nat) (hq : ∀ i, i < b.vars.length → (b.vars.getD i 0).toNat ≠ q) : (tDom b.vars dn t).getD q 0 = dn.getD q 0 := by
  have key : ∀ s, (replTo b.vars dn s b.vars.length).getD q 0 = dn.getD q 0 := fun s => by
    rw [replTo_get b.vars dn s (fun k hk => by rw [hd.len]; exact hb.vars.lt hk) q _ (Nat.le_refl _), if_neg]
    rintro ⟨i, hi, e⟩
    exact hq i hi e
  cases t with
  | rs nt br live =>
    cases nt with
    | false => exact key _
    | true => exact key _
  | dg nv os root => exact key _
theorem tDom_len {b : Tb} {dn : List Nat} (hd : Dm dn) (t : TS) : (tDom b.vars dn t).length = 8 := by
  have key : ∀ s, (replTo b.vars dn s b.vars.length).length = 8 := fun s => by rw [replTo_length]; exact hd.len
  cases t with
  | rs nt br live =>
    cases nt with
    | false => exact key _
    | true => exact key _
  | dg nv os root => exact key _
theorem tDom_sub {b : Tb} (hb : b.Ok) {dn : List Nat} (hd : Dm dn) {t : TS} (ht : TRep b dn t) (hne : ∃ l, OutOf b.vars dn l) : SubD (tDom b.vars dn t) dn := by
  intro q v h
  by_cases hq : ∃ i, i < b.vars.length ∧ (b.vars.getD i 0).toNat = q
  · obtain ⟨i, hi, rfl⟩ := hq
    obtain ⟨l, a1, rfl, _⟩ := (tDom_sem hb hd ht hne i v hi).1 h
    exact a1.2 i hi
  · rw [tDom_other hb hd t q (fun i hi e => hq ⟨i, hi, e⟩)] at h
    exact h
theorem subD_lt {d d' : List Nat} (h : SubD d d') {q : Nat} (hl : d'.getD q 0 < 64) : d.getD q 0 < 64 := by
  apply Nat.lt_pow_two_of_testBit (n := 6)
  intro i hi
  cases hb : (d.getD q 0).testBit i with
  | false => rfl
  | true => exact absurd (bit_lt6 hl (h q i hb)) (by omega)
theorem tDom_dm {b : Tb} (hb : b.Ok) {dn : List Nat} (hd : Dm dn) {t : TS} (ht : TRep b dn t) (hne : ∃ l, OutOf b.vars dn l) : Dm (tDom b.vars dn t) := ⟨tDom_len hd t, fun q => subD_lt (tDom_sub hb hd ht hne) (hd.lt q)⟩
/-- A table supports all of domains. -/
def SuppAll (b : Tb) (d : List Nat) : Prop := ∀ i v, i < b.vars.length → (d.getD (b.vars.getD i 0).toNat 0).testBit v = true → Supp b.vars b.rows b.nt d i v
/-- What a table leaves it supports. -/
theorem tDom_supp {b : Tb} (hb : b.Ok) {dn : List Nat} (hd : Dm dn) {t : TS} (ht : TRep b dn t) (hne : ∃ l, OutOf b.vars dn l) : SuppAll b (tDom b.vars dn t) := by
  intro i v hi h
  obtain ⟨l, a1, a2, a3⟩ := (tDom_sem hb hd ht hne i v hi).1 h
  exact ⟨l, ⟨a1.1, fun j hj => (tDom_sem hb hd ht hne j _ hj).2 ⟨l, a1, rfl, a3⟩⟩, a2, a3⟩
/-- Nothing is taken that may stay. -/
theorem tDom_most {b : Tb} (hb : b.Ok) {dn : List Nat} (hd : Dm dn) {t : TS} (ht : TRep b dn t) (hne : ∃ l, OutOf b.vars dn l) {d : List Nat} (hs : SubD d dn) (hd' : SuppAll b d) : SubD d (tDom b.vars dn t) := by
  intro q v h
  by_cases hq : ∃ i, i < b.vars.length ∧ (b.vars.getD i 0).toNat = q
  · obtain ⟨i, hi, rfl⟩ := hq
    exact (tDom_sem hb hd ht hne i v hi).2 ((hd' i v hi h).mono hs)
  · rw [tDom_other hb hd t q (fun i hi e => hq ⟨i, hi, e⟩)]
    exact hs q v h
/-- A table none of whose variables has another domain supports them still. -/
theorem SuppAll.same {b : Tb} {d d' : List Nat} (h : SuppAll b d) (he : ∀ i, i < b.vars.length → d'.getD (b.vars.getD i 0).toNat 0 = d.getD (b.vars.getD i 0).toNat 0) : SuppAll b d' := by
  intro i v hi hv
  rw [he i hi] at hv
  obtain ⟨l, a1, a2, a3⟩ := h i v hi hv
  exact ⟨l, ⟨a1.1, fun j hj => by rw [he j hj]; exact a1.2 j hj⟩, a2, a3⟩
theorem next_rep {b : Tb} (hb : b.Ok) {dn : List Nat} (hd : Dm dn) {t t' : TS} (ht : TRep b dn t) (hne : ∃ l, OutOf b.vars dn l) (h : TS.Next b.vars dn t t') : TRep b dn t' := by
  cases t with
  | rs nt br live =>
    obtain rfl := h
    obtain ⟨rfl, rfl, hR⟩ := ht
    exact ⟨rfl, rfl, nLive_rep b.vars b.rows dn live hb.vars.four hd.lt hb.rows hR⟩
  | dg nv os root =>
    obtain ⟨nv', rfl⟩ := h
    have h1 := dCut_lev os root b.vars dn ht.1 hd.lt hb.vars.four ht.2.1
    exact ⟨h1.2.2, h1.2.1, dCut_rep b.vars b.rows b.nt dn os root hb.vars hd.lt ht.1 ht.2.1 ht.2.2.1 hne, (cutTo_lev os ht.1 b.vars dn hd.lt b.vars.length 0 root s0 ht.2.1 (s0_lev os)).1.zero (by decide)⟩
theorem mem_getD {rows : List (List Int)} {r : List Int} : r ∈ rows ↔ ∃ j, j < rows.length ∧ rows.getD j [] = r := by
  constructor
  · intro h
    obtain ⟨j, hj, e⟩ := List.getElem_of_mem h
    exact ⟨j, hj, by simp [List.getD, hj, e]⟩
  · rintro ⟨j, hj, e⟩
    have e2 : rows.getD j [] = rows[j] := by simp [List.getD, hj]
    rw [← e, e2]
    exact List.getElem_mem hj
theorem made_rep {b : Tb} (_hb : b.Ok) {dn : List Nat} (hd : Dm dn) {way : Int} {t : TS} (h : TS.Made b.vars b.rows b.nt dn way t) : TRep b dn t := by
  have two : (∃ nv, t = .dg nv (bldTo b.vars b.nt dn b.vars.length 0 b.rows [zero6, zero6]).1 (bldTo b.vars b.nt dn b.vars.length 0 b.rows [zero6, zero6]).2) → TRep b dn t := by
    rintro ⟨nv, rfl⟩
    refine ⟨bldTo_nz _ _ _ _ _ _ _ (fun k h2 hk => absurd hk (by show ¬ k < 2; omega)), (bldTo_lev b.vars b.nt dn b.vars.length 0 b.rows [zero6, zero6] (by decide)).2, fun l hO => ?_, (bldTo_lev b.vars b.nt dn b.vars.length 0 b.rows [zero6, zero6] (by decide)).1.zero (by decide)⟩
    rw [bldTo_acc b.vars b.nt dn hd.lt l hO b.vars.length 0 b.rows [zero6, zero6] rfl (by decide)]
    have key : ∀ r : List Int, (∀ k, 0 ≤ k → k < b.vars.length → bearsB (r.getD k 0) (l.getD k 0) = true) ↔ Covers r l := fun r =>
      ⟨fun h k hk => h k (Nat.zero_le _) (by rw [← hO.1]; exact hk), fun h k _ hk => h k (by rw [hO.1]; exact hk)⟩
    unfold AllowFrom Allow
    split
    · constructor
      · intro h j hj hc
        exact h _ (mem_getD.2 ⟨j, hj, rfl⟩) ((key _).2 hc)
      · intro h r hr hc
        obtain ⟨j, hj, rfl⟩ := mem_getD.1 hr
        exact h j hj ((key _).1 hc)
    · constructor
      · rintro ⟨r, hr, hc⟩
        obtain ⟨j, hj, rfl⟩ := mem_getD.1 hr
        exact ⟨j, hj, (key _).1 hc⟩
      · rintro ⟨j, hj, hc⟩
        exact ⟨_, mem_getD.2 ⟨j, hj, rfl⟩, (key _).2 hc⟩
  unfold TS.Made at h
  split at h
  · subst h
    refine ⟨rfl, rfl, fun j hj => ?_, fun j hj _ => ?_⟩
    · rw [Nat.testBit_two_pow_sub_one, decide_eq_true_eq] at hj
      exact hj
    · rw [Nat.testBit_two_pow_sub_one, decide_eq_true_eq]
      exact hj
  · exact two h

/-- No domain of the first n variables is empty. -/
def Full (n : Nat) (d : List Nat) : Prop := ∀ q, q < n → d.getD q 0 ≠ 0
/-- The closure of domains: the most that all tables support; or nothing, if a domain is emptied. -/
structure Closure (n : Nat) (bs : List Tb) (dn dn' : List Nat) : Prop where
  full : Full n dn' → SubD dn' dn ∧ (∀ b ∈ bs, SuppAll b dn') ∧ ∀ d, SubD d dn → (∀ b ∈ bs, SuppAll b d) → SubD d dn'
  none : ¬ Full n dn' → dn' = zero8 ∧ ∀ d, SubD d dn → (∀ b ∈ bs, SuppAll b d) → ¬ Full n d
theorem SubD.eq {a b : List Nat} (ha : Dm a) (hb : Dm b) (h1 : SubD a b) (h2 : SubD b a) : a = b := by
  refine List.ext_getElem (by rw [ha.len, hb.len]) fun q hq hq' => ?_
  have e : a.getD q 0 = b.getD q 0 := by
    apply Nat.eq_of_testBit_eq
    intro v
    cases h : (a.getD q 0).testBit v with
    | true => exact (h1 q v h).symm
    | false =>
      cases h' : (b.getD q 0).testBit v with
      | false => rfl
      | true => rw [h2 q v h'] at h; cases h
  simpa [List.getD, hq, hq'] using e
/-- There is one closure. -/
theorem Closure.one {n : Nat} {bs : List Tb} {dn a b : List Nat} (ha : Dm a) (hb : Dm b) (h : Closure n bs dn a) (k : Closure n bs dn b) : a = b := by
  by_cases fa : Full n a
  · by_cases fb : Full n b
    · obtain ⟨a1, a2, a3⟩ := h.full fa
      obtain ⟨b1, b2, b3⟩ := k.full fb
      exact SubD.eq ha hb (b3 a a1 a2) (a3 b b1 b2)
    · obtain ⟨a1, a2, a3⟩ := h.full fa
      exact absurd fa ((k.none fb).2 a a1 a2)
  · by_cases fb : Full n b
    · obtain ⟨b1, b2, b3⟩ := k.full fb
      exact absurd fb ((h.none fa).2 b b1 b2)
    · rw [(h.none fa).1, (k.none fb).1]
end Go.Proofs.YtkjfpdfkcfgfkaaGreat

/- wake over tables of any kind. -/
namespace Go.Proofs.YtkjfpdfkcfgfkaaGreat
open Go.RowKit

/-- A table of a Work: where it lies, and what is left of it. -/
structure Tab where
  G : Nat
  g : Nat
  cap : Nat
  vars : List Int
  t : TS
def Tab.val (x : Tab) : Value := .iface x.t.ty (.pointer (some ⟨x.G, 0, none⟩))
def tab0 : Tab := ⟨0, 0, 0, [], .rs false [] 0⟩
/-- The tables of a Work, in memory. -/
structure TabsAt (w : World) (so : Option Addr) (tcap : Nat) (ts : List Tab) : Prop where
  row : Row w (.slice so ts.length tcap) 73 (ts.map Tab.val)
  at_ : ∀ i, i < ts.length → TAt w (ts.getD i tab0).G (ts.getD i tab0).g (ts.getD i tab0).cap (ts.getD i tab0).vars (ts.getD i tab0).t
  four : ∀ i, i < ts.length → (ts.getD i tab0).vars.length ≤ 4
  ok : ∀ i, i < ts.length → ∀ k, k < (ts.getD i tab0).vars.length → 0 ≤ (ts.getD i tab0).vars.getD k 0 ∧ (ts.getD i tab0).vars.getD k 0 < 8
def mksV (m : List Bool) : Array Value := (m.map Value.bool).toArray
/-- The marks when wake has asked k tables. -/
def wakeTo (ts : List Tab) (a b : List Nat) (m : List Bool) : Nat → List Bool
  | 0 => m
  | k + 1 => if changedB (ts.getD k tab0).vars a b (ts.getD k tab0).vars.length then (wakeTo ts a b m k).set k true else wakeTo ts a b m k
theorem wakeTo_length (ts : List Tab) (a b : List Nat) (m : List Bool) : ∀ k, (wakeTo ts a b m k).length = m.length
  | 0 => rfl
  | k + 1 => by
    simp only [wakeTo]
    split
    · simp [wakeTo_length ts a b m k]
    · exact wakeTo_length ts a b m k
theorem TS.meth_changed (t : TS) (G : Nat) (v : Value) (W : World) (h : W.cell? ⟨G, 0, none⟩ = some v) : (method 292 t.ty (.pointer (some ⟨G, 0, none⟩)) "Changed").run Tryz.prog W = .ok (116, .agg #[v]) W := by
  cases t with
  | rs nt br live => exact Go.Proofs.YtkjfpdfkcfgfkaaGreat.meth_changed G v W h
  | dg nv os root => exact meth_dchanged G v W h
theorem TAt.vars {w : World} {G g cap : Nat} {vs : List Int} {t : TS} (h : TAt w G g cap vs t) : w.cell? ⟨G, 0, none⟩ = some (.slice (some ⟨g, 0, none⟩) vs.length cap) ∧ IntsAt w (some ⟨g, 0, none⟩) vs := by
  cases t with
  | rs nt br live => exact ⟨h.1.cell 0, h.2.1.ints⟩
  | dg nv os root => exact ⟨h.1.blk.cell 0, h.1.rv.ints⟩

set_option maxHeartbeats 1600000 in
set_option maxRecDepth 1000000 in
theorem wake_any (X M : Nat) (so : Option Addr) (tcap : Nat) (szv : Value) (d : List Nat) (l : Rest) (ts : List Tab) (a b : List Nat) (m : List Bool) (w : World)
    (hX : Blk w X (workCells szv d (.slice so ts.length tcap) l) 66) (hd8 : d.length = 8) (ht : TabsAt w so tcap ts) (h12 : ts.length ≤ 12) (hm : m.length = 12)
    (hnM : ∀ i, i < ts.length → (ts.getD i tab0).G ≠ M ∧ (ts.getD i tab0).g ≠ M) (hsM : ∀ o, so = some o → o.block ≠ M)
    (ha : a.length = 8) (hb : b.length = 8) (hM : Blk w M (mksV m) 71) :
    Calls Tryz.prog 47 #[.pointer (some ⟨X, 0, none⟩), .pointer (some ⟨M, 0, none⟩), .agg (domV a), .agg (domV b)] w fun e w' => e = .returned (.tuple #[]) ∧ Fr (fun k => k = M) w w' ∧
      Blk w' M (mksV (wakeTo ts a b m ts.length)) 71 := by
  obtain ⟨a0, a1, a2, a3, a4, a5, a6, a7, hav⟩ := domV8 ha
  obtain ⟨b0, b1, b2, b3, b4, b5, b6, b7, hbv⟩ := domV8 hb
  obtain ⟨W, hW⟩ : ∃ W, W = (w.alloc (.cells (domV a) 60)).alloc (.cells (domV b) 60) := ⟨_, rfl⟩
  have hfW : Nw w W := by rw [hW]; exact ((Fr.refl _ w).alloc _).alloc _
  have hbA : Blk W w.heap.size (domV a) 60 := by rw [hW]; exact (Blk.new _ _ _).alloc _
  have hbB : Blk W (w.heap.size + 1) (domV b) 60 := by
    rw [hW]
    have := Blk.new (w.alloc (.cells (domV a) 60)) (domV b) 60
    simpa using this
  have hct : W.cell? ⟨X, 9, none⟩ = some (.slice so ts.length tcap) := ((hX.nw hfW).cell 9).trans (workCells_tabs _ _ _ _ hd8)
  have HW := hd hW
  have Hav := hd hav
  have Hbv := hd hbv
  have HbA := hd hbA
  have HbB := hd hbB
  clear hav hbv hbA hbB hW
  go_enter Tryz.func47, Tryz.ntmps47
  go_upto_region 1 with fail
  rw [← HW.out]
  go_wp2_with fail
  have HtW : Hid (TabsAt w so tcap ts) := ht
  have hMlt := hM.lt
  have HMW := hd (hM.nw hfW)
  have HfW := hd hfW
  clear ht hM hX hfW
  go_loopw [15] (fun i wr => ∃ k : Nat, k ≤ ts.length ∧ i = .int .i64 k ∧ Hid (Fr (fun k => k = M) W wr) ∧ Hid (Blk wr M (mksV (wakeTo ts a b m k)) 71)) (fun i _ => ts.length - (intOf i).toNat)
  case atStart => exact ⟨0, Nat.zero_le _, rfl, Fr.refl _ _, HMW.out⟩
  case round =>
    obtain ⟨k, hk, rfl, HF, HB⟩ := hrel
    by_cases hlt : k < ts.length
    · have hFw : Fr (fun k => k = M) w wr := (HfW.out.mono (S' := fun k => k = M) (fun i h => h.elim)).trans HF.out (fun i h => .inl h)
      have hr := HtW.out.row.fr hFw (fun j hj => by
        cases so with
        | none => cases hj
        | some o => cases hj; exact hsM o rfl)
      obtain ⟨tb, tc, hso, _, hck, _⟩ := hr.cell k (by simpa using hlt)
      have hso' : so = some ⟨tb, 0, none⟩ := by simp at hso; exact hso.1
      subst hso'
      obtain ⟨x, hx⟩ : ∃ x, ts.getD k tab0 = x := ⟨_, rfl⟩
      have hxk : ts[k] = x := by rw [← hx]; simp [List.getD, hlt]
      have hat := HtW.out.at_ k hlt
      have h4 := HtW.out.four k hlt
      have hok := HtW.out.ok k hlt
      have hn := hnM k hlt
      have hstep : wakeTo ts a b m (k + 1) = if changedB x.vars a b x.vars.length then (wakeTo ts a b m k).set k true else wakeTo ts a b m k := by simp only [wakeTo, hx]
      rw [hx] at hat h4 hok hn
      have hGlt := hat.lt (.inl rfl)
      have hglt := hat.lt (.inr (.inl rfl))
      have hcG : wr.cell? ⟨x.G, 0, none⟩ = some (.slice (some ⟨x.g, 0, none⟩) x.vars.length x.cap) := (hFw.cell hGlt hn.1).trans hat.vars.1
      have HvI : Hid (IntsAt wr (some ⟨x.g, 0, none⟩) x.vars) := hat.vars.2.fr hFw (fun b o e => by cases e; exact hn.2)
      have hcT : wr.cell? ⟨tb, k, none⟩ = some (.iface x.t.ty (.pointer (some ⟨x.G, 0, none⟩))) := by
        rw [hck]
        simp only [List.getElem_map, hxk]
        rfl
      have hmc := TS.meth_changed x.t x.G _ wr hcG
      have hwM : w.heap.size ≠ M ∧ w.heap.size + 1 ≠ M := by omega
      obtain ⟨c0, c1, c2, c3, c4, c5, c6, c7⟩ := cells8 (Hav.out ▸ (HbA.out.fr HF.out hwM.1))
      obtain ⟨e0, e1, e2, e3, e4, e5, e6, e7⟩ := cells8 (Hbv.out ▸ (HbB.out.fr HF.out hwM.2))
      obtain ⟨ty, hty⟩ : ∃ ty, x.t.ty = ty := ⟨_, rfl⟩
      rw [hty] at hcT hmc
      have Hstep := hd hstep
      have Hok := hd hok
      have Hx := hd hx
      clear hr hso hck hstep hat hok hn hwM hxk hnM hsM hx
      go_wp2_with fail
      rw [← Hav.out, ← Hbv.out]
      refine (changed_any (some ⟨x.g, 0, none⟩) x.cap x.vars a b _ h4 Hok.out HvI.out ha hb).mono ?_
      have hl12 : (wakeTo ts a b m k).length = 12 := by rw [wakeTo_length]; exact hm
      have hk12 : k < 12 := by omega
      cases hch : changedB x.vars a b x.vars.length with
      | true =>
        rw [hch] at Hstep
        have Hl12 := hd hl12
        rintro e w1 ⟨rfl, hf1⟩
        have hM1 := HB.out.nw hf1
        have hcM1 : ∃ v, w1.cell? ⟨M, k, none⟩ = some v := ⟨_, (hM1.cell k).trans (Array.getElem?_eq_getElem (by simp [mksV, hl12]; omega))⟩
        obtain ⟨v, hcM1⟩ := hcM1
        have hfM1 := hM1.free k
        have HM1 := hd hM1
        have Hf1 := hd hf1
        clear hch hM1 hf1 hl12 c0 c1 c2 c3 c4 c5 c6 c7 e0 e1 e2 e3 e4 e5 e6 e7 hct hcT hcG hmc hFw
        go_wp2
        refine ⟨⟨k + 1, by omega, by go_num, ?_, ?_⟩, by simp [intOf]; omega⟩
        · exact ((HF.out.trans Hf1.out (fun i h => h.elim)).setCell ⟨M, k, none⟩ (.bool true) (.inl rfl))
        · show Blk _ M _ _
          have h5 := HM1.out.set k (.bool true)
          have e6 : mksV (wakeTo ts a b m (k + 1)) = (mksV (wakeTo ts a b m k)).setIfInBounds k (.bool true) := by
            rw [Hstep.out, if_pos trivial]
            simp [mksV, List.map_set]
          rw [e6]
          exact h5
      | false =>
        rw [hch] at Hstep
        rintro e w1 ⟨rfl, hf1⟩
        have HM1 := hd (HB.out.nw hf1)
        have Hf1 := hd hf1
        clear hch hf1 hl12 c0 c1 c2 c3 c4 c5 c6 c7 e0 e1 e2 e3 e4 e5 e6 e7 hct hcT hcG hmc hFw
        go_wp2
        refine ⟨⟨k + 1, by omega, by go_num, HF.out.trans Hf1.out (fun i h => h.elim), ?_⟩, by simp [intOf]; omega⟩
        show Blk _ M _ _
        rw [Hstep.out, if_neg (by simp)]
        exact HM1.out
    · obtain rfl : k = ts.length := by omega
      go_wp2
      go_end0
      exact ⟨rfl, (HfW.out.mono (S' := fun k => k = M) (fun i h => h.elim)).trans HF.out (fun i h => .inl h), HB.out⟩
end Go.Proofs.YtkjfpdfkcfgfkaaGreat

/- settle's rounds, in the document's words. -/
namespace Go.Proofs.YtkjfpdfkcfgfkaaGreat

def tb0 : Tb := ⟨[], [], false⟩
/-- A table of the document, and what is left of it in the program. -/
def Fits (bs : List Tb) (ts : List Tab) : Prop := ts.length = bs.length ∧ ∀ k, k < bs.length → (ts.getD k tab0).vars = (bs.getD k tb0).vars
/-- Between two rounds of settle. -/
structure SInv (bs : List Tb) (ts : List Tab) (m : List Bool) (start next : List Nat) : Prop where
  dm : Dm next
  sub : SubD next start
  most : ∀ d, SubD d start → (∀ b ∈ bs, SuppAll b d) → SubD d next
  quiet : ∀ k, k < bs.length → m.getD k false = false → SuppAll (bs.getD k tb0) next
  rep : ∀ k, k < bs.length → TRep (bs.getD k tb0) next (ts.getD k tab0).t
/-- Tables are ones of n variables. -/
def TbsOk (n : Nat) (bs : List Tb) : Prop := ∀ k, k < bs.length → (bs.getD k tb0).Ok ∧ ∀ i, i < (bs.getD k tb0).vars.length → ((bs.getD k tb0).vars.getD i 0).toNat < n
theorem full_out {n : Nat} {d : List Nat} (h : Full n d) {vars : List Int} (hv : ∀ i, i < vars.length → (vars.getD i 0).toNat < n) : ∃ l, OutOf vars d l := by
  obtain ⟨l, hl, _⟩ := outOf_choose vars d (fun _ _ => True) (fun i hi => by
    obtain ⟨v, hv⟩ := ne_zero_bit (h _ (hv i hi))
    exact ⟨v, hv, trivial⟩)
  exact ⟨l, hl⟩
theorem changed_same {vars : List Int} {a b : List Nat} (h : changedB vars a b vars.length = false) : ∀ i, i < vars.length → b.getD (vars.getD i 0).toNat 0 = a.getD (vars.getD i 0).toNat 0 := by
  intro i hi
  refine Classical.byContradiction fun hc => ?_
  have : changedB vars a b vars.length = true := by
    simp only [changedB, List.any_eq_true, List.mem_range]
    exact ⟨i, hi, by simpa using fun e => hc e.symm⟩
  rw [this] at h
  cases h
theorem getD_setB (l : List Bool) (q p : Nat) (x : Bool) : (l.set q x).getD p false = if q = p ∧ q < l.length then x else l.getD p false := by
  simp only [List.getD, List.getElem?_set]
  by_cases h : q = p
  · subst h
    by_cases h2 : q < l.length
    · simp [h2]
    · simp [h2]
  · simp [h]
theorem wakeTo_get (ts : List Tab) (a b : List Nat) (m : List Bool) (hm : ts.length ≤ m.length) (p : Nat) : ∀ k, k ≤ ts.length → ((wakeTo ts a b m k).getD p false = true ↔ m.getD p false = true ∨ (p < k ∧ changedB (ts.getD p tab0).vars a b (ts.getD p tab0).vars.length = true))
  | 0, _ => by simp [wakeTo]
  | k + 1, hk => by
    have ih := wakeTo_get ts a b m hm p k (by omega)
    simp only [wakeTo]
    split
    · rename_i hc
      rw [getD_setB, wakeTo_length]
      by_cases h : k = p
      · subst h
        rw [if_pos ⟨rfl, by omega⟩]
        exact ⟨fun _ => .inr ⟨by omega, hc⟩, fun _ => rfl⟩
      · rw [if_neg (fun e => h e.1), ih]
        constructor
        · rintro (h1 | ⟨h1, h2⟩)
          · exact .inl h1
          · exact .inr ⟨by omega, h2⟩
        · rintro (h1 | ⟨h1, h2⟩)
          · exact .inl h1
          · exact .inr ⟨by omega, h2⟩
    · rename_i hc
      rw [ih]
      constructor
      · rintro (h1 | ⟨h1, h2⟩)
        · exact .inl h1
        · exact .inr ⟨by omega, h2⟩
      · rintro (h1 | ⟨h1, h2⟩)
        · exact .inl h1
        · by_cases h : p = k
          · subst h
            exact absurd h2 hc
          · exact .inr ⟨by omega, h2⟩
theorem getD_mem {bs : List Tb} {k : Nat} (hk : k < bs.length) : bs.getD k tb0 ∈ bs := by
  have e : bs.getD k tb0 = bs[k] := by simp [List.getD, hk]
  rw [e]
  exact List.getElem_mem hk
/-- A round. -/
theorem SInv.step {n : Nat} {bs : List Tb} {ts : List Tab} {m : List Bool} {start next : List Nat} (h : SInv bs ts m start next) (hb : TbsOk n bs) (hf : Fits bs ts) (hm : bs.length ≤ m.length) (hfull : Full n next) {k : Nat} (hk : k < bs.length) {t' : TS}
    (hn : TS.Next (ts.getD k tab0).vars next (ts.getD k tab0).t t') :
    SInv bs (ts.set k { ts.getD k tab0 with t := t' }) ((wakeTo ts next (tDom (ts.getD k tab0).vars next (ts.getD k tab0).t) m ts.length).set k false) start (tDom (ts.getD k tab0).vars next (ts.getD k tab0).t) := by
  have hv := hf.2 k hk
  rw [hv] at hn ⊢
  obtain ⟨hok, hvn⟩ := hb k hk
  have hne := full_out hfull hvn
  have hrep := h.rep k hk
  have hsub := tDom_sub hok h.dm hrep hne
  refine ⟨tDom_dm hok h.dm hrep hne, hsub.trans h.sub, fun d hd hs => tDom_most hok h.dm hrep hne (h.most d hd hs) (hs _ (getD_mem hk)), fun j hj hq => ?_, fun j hj => ?_⟩
  · by_cases e : k = j
    · subst e
      exact tDom_supp hok h.dm hrep hne
    · rw [getD_setB, if_neg (fun x => e x.1)] at hq
      have hw := wakeTo_get ts next (tDom (bs.getD k tb0).vars next (ts.getD k tab0).t) m (by rw [hf.1]; exact hm) j ts.length (Nat.le_refl _)
      have h1 : m.getD j false = false := by
        cases hx : m.getD j false with
        | false => rfl
        | true => rw [hw.2 (.inl hx)] at hq; cases hq
      have h2 : changedB (bs.getD j tb0).vars next (tDom (bs.getD k tb0).vars next (ts.getD k tab0).t) (bs.getD j tb0).vars.length = false := by
        cases hx : changedB (bs.getD j tb0).vars next (tDom (bs.getD k tb0).vars next (ts.getD k tab0).t) (bs.getD j tb0).vars.length with
        | false => rfl
        | true =>
          rw [← hf.2 j hj] at hx
          rw [hw.2 (.inr ⟨by rw [hf.1]; exact hj, hx⟩)] at hq
          cases hq
      exact (h.quiet j hj h1).same (changed_same h2)
  · by_cases e : k = j
    · subst e
      have e2 : ((ts.set k { ts.getD k tab0 with t := t' }).getD k tab0).t = t' := by
        have : k < ts.length := by rw [hf.1]; exact hk
        simp [List.getD, this]
      rw [e2]
      exact (next_rep hok h.dm hrep hne hn).mono hsub
    · have e2 : (ts.set k { ts.getD k tab0 with t := t' }).getD j tab0 = ts.getD j tab0 := by simp [List.getD, e]
      rw [e2]
      exact (h.rep j hj).mono hsub
/-- Nothing waits: it is the closure. -/
theorem SInv.done {n : Nat} {bs : List Tb} {ts : List Tab} {m : List Bool} {start next : List Nat} (h : SInv bs ts m start next) (hfull : Full n next) (hq : ∀ k, k < bs.length → m.getD k false = false) : Closure n bs start next := by
  refine ⟨fun _ => ⟨h.sub, fun b hb => ?_, h.most⟩, fun hc => absurd hfull hc⟩
  obtain ⟨k, hk, e⟩ := List.getElem_of_mem hb
  have e2 : bs.getD k tb0 = b := by simp [List.getD, hk, e]
  rw [← e2]
  exact h.quiet k hk (hq k hk)
/-- A domain is emptied: so are all. -/
theorem SInv.dead {n : Nat} {bs : List Tb} {ts : List Tab} {m : List Bool} {start next : List Nat} (h : SInv bs ts m start next) (hn : 0 < n) (hfull : ¬ Full n next) : Closure n bs start zero8 := by
  refine ⟨fun hc => absurd (zero8_get 0) (hc 0 hn), fun _ => ⟨rfl, fun d hd hs hd2 => hfull fun q hq e => ?_⟩⟩
  obtain ⟨v, hv⟩ := ne_zero_bit (hd2 q hq)
  have := h.most d hd hs q v hv
  rw [e] at this
  simp at this
end Go.Proofs.YtkjfpdfkcfgfkaaGreat

/- The closure of fixed tables, reckoned out. -/
namespace Go.Proofs.YtkjfpdfkcfgfkaaGreat

def coversB (r : List Int) (l : List Nat) : Bool := (List.range l.length).all (fun i => bearsB (r.getD i 0) (l.getD i 0))
theorem coversB_iff (r : List Int) (l : List Nat) : coversB r l = true ↔ Covers r l := by
  simp only [coversB, List.all_eq_true, List.mem_range, Covers]
def allowB (rows : List (List Int)) (nt : Bool) (l : List Nat) : Bool := if nt then rows.all (fun r => !coversB r l) else rows.any (fun r => coversB r l)
theorem getD_rows {rows : List (List Int)} {j : Nat} (hj : j < rows.length) : rows.getD j [] ∈ rows := by
  have e : rows.getD j [] = rows[j] := by simp [List.getD, hj]
  rw [e]
  exact List.getElem_mem hj
theorem mem_rows {rows : List (List Int)} {r : List Int} (h : r ∈ rows) : ∃ j, j < rows.length ∧ rows.getD j [] = r := by
  obtain ⟨j, hj, e⟩ := List.getElem_of_mem h
  exact ⟨j, hj, by simp [List.getD, hj, e]⟩
theorem allowB_iff (rows : List (List Int)) (nt : Bool) (l : List Nat) : allowB rows nt l = true ↔ Allow rows nt l := by
  unfold allowB Allow
  cases nt with
  | true =>
    simp only [if_true, List.all_eq_true, Bool.not_eq_true']
    constructor
    · intro h j hj hc
      have := h _ (getD_rows hj)
      rw [(coversB_iff _ _).2 hc] at this
      cases this
    · intro h r hr
      obtain ⟨j, hj, rfl⟩ := mem_rows hr
      cases hx : coversB (rows.getD j []) l with
      | false => rfl
      | true => exact absurd ((coversB_iff _ _).1 hx) (h j hj)
  | false =>
    simp only [Bool.false_eq_true, if_false, List.any_eq_true]
    constructor
    · rintro ⟨r, hr, hc⟩
      obtain ⟨j, hj, rfl⟩ := mem_rows hr
      exact ⟨j, hj, (coversB_iff _ _).1 hc⟩
    · rintro ⟨j, hj, hc⟩
      exact ⟨_, getD_rows hj, (coversB_iff _ _).2 hc⟩
/-- All lists out of domains. -/
def outs : List Int → List Nat → List (List Nat)
  | [], _ => [[]]
  | v :: vs, d => (vals (d.getD v.toNat 0)).flatMap (fun x => (outs vs d).map (x :: ·))
def supB (b : Tb) (d : List Nat) (i v : Nat) : Bool := (outs b.vars d).any (fun l => (l.getD i 0 == v) && allowB b.rows b.nt l)
def suppAllB (b : Tb) (d : List Nat) : Bool := (List.range b.vars.length).all (fun i => (vals (d.getD (b.vars.getD i 0).toNat 0)).all (fun v => supB b d i v))
/-- A number of these bits. -/
def maskOf (p : Nat → Bool) : Nat := (if p 0 then 1 else 0) + (if p 1 then 2 else 0) + (if p 2 then 4 else 0) + (if p 3 then 8 else 0) + (if p 4 then 16 else 0) + (if p 5 then 32 else 0)
theorem maskOf_bit (p : Nat → Bool) (v : Nat) (hv : v < 6) : (maskOf p).testBit v = p v := by
  have hc : v = 0 ∨ v = 1 ∨ v = 2 ∨ v = 3 ∨ v = 4 ∨ v = 5 := by omega
  unfold maskOf
  rcases hc with rfl | rfl | rfl | rfl | rfl | rfl <;> cases p 0 <;> cases p 1 <;> cases p 2 <;> cases p 3 <;> cases p 4 <;> cases p 5 <;> rfl
theorem maskOf_lt (p : Nat → Bool) : maskOf p < 64 := by
  unfold maskOf
  cases p 0 <;> cases p 1 <;> cases p 2 <;> cases p 3 <;> cases p 4 <;> cases p 5 <;> decide
/-- What one table leaves. -/
def stepD (b : Tb) (d : List Nat) : List Nat := (List.range 8).map (fun q => maskOf (fun v => (d.getD q 0).testBit v && (List.range b.vars.length).all (fun i => (b.vars.getD i 0).toNat != q || supB b d i v)))
def passD (bs : List Tb) (d : List Nat) : List Nat := bs.foldl (fun d b => stepD b d) d
def cloTo (bs : List Tb) : Nat → List Nat → List Nat
  | 0, d => d
  | k + 1, d => cloTo bs k (passD bs d)
def fullB (n : Nat) (d : List Nat) : Bool := (List.range n).all (fun q => d.getD q 0 != 0)
def dmB (d : List Nat) : Bool := d.length == 8 && d.all (fun x => decide (x < 64))
end Go.Proofs.YtkjfpdfkcfgfkaaGreat
