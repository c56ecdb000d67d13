/- Parts of the proof, number 2: contracts of the functions that the statement calls. -/
import Derived.Test.YtkjfpdfkcfgfkaaM1
import Derived.Sort.CutIn

/- Contracts of the diagram's builder: number. -/
namespace Go.Proofs.Ytkjfpdfkcfgfkaa
open Go.RowKit Go.Maps

theorem node_lits (dd : Nat) (n : List Nat) (h : NodeOk n) : Try.prog.keyLits (dd + 1 + 1 + 1) 154 (nodeC n) = some (n.map (fun (x : Nat) => Lit.int .i64 (x : Int))) := by
  obtain ⟨a, b, c, d, e, f, rfl⟩ := list6 h.1
  have hx := h.2
  have ha := wf64 a (hx a (by simp))
  have hb := wf64 b (hx b (by simp))
  have hc := wf64 c (hx c (by simp))
  have hd := wf64 d (hx d (by simp))
  have he := wf64 e (hx e (by simp))
  have hf := wf64 f (hx f (by simp))
  have u1 := Try.underlying154
  have u2 := Try.underlying64
  have u3 := Try.underlying3
  have c1 : Try.prog.cellsOf 154 = 6 := by kernel_rfl
  have c2 : Try.prog.cellsOf 64 = 6 := by kernel_rfl
  have c3 : Try.prog.cellsOf 3 = 1 := by kernel_rfl
  simp [u1, c1, nodeC, Program.keyLits, u2, u3, c2, c3, List.range, List.range.loop, ha, hb, hc, hd, he, hf]
theorem node_formed (n : List Nat) (h : n.length = 6) : (nodeV n).formed Try.prog 154 = true := by
  have u1 := Try.underlying154
  have c1 : Try.prog.cellsOf 154 = 6 := by kernel_rfl
  simp [Value.formed, u1, c1, nodeC, h]
theorem lits_inj : ∀ (a b : List Nat), a.map (fun (x : Nat) => Lit.int .i64 (x : Int)) = b.map (fun (x : Nat) => Lit.int .i64 (x : Int)) → a = b
  | [], [], _ => rfl
  | [], _ :: _, h => by simp at h
  | _ :: _, [], h => by simp at h
  | x :: a, y :: b, h => by
    simp only [List.map_cons, List.cons.injEq, Lit.int.injEq, true_and] at h
    rw [lits_inj a b h.2, show x = y by omega]
theorem nodeV_inj {a b : List Nat} (h : nodeV a = nodeV b) : a = b := by
  have h1 : (nodeC a) = nodeC b := by
    injection h with h
    simpa using congrArg Array.toList h
  clear h
  induction a generalizing b with
  | nil => cases b with
    | nil => rfl
    | cons y b => simp [nodeC] at h1
  | cons x a ih => cases b with
    | nil => simp [nodeC] at h1
    | cons y b =>
      simp only [nodeC, List.map_cons, List.cons.injEq, Value.int.injEq, true_and] at h1
      rw [ih h1.2, show x = y by omega]
/-- == of nodes. -/
theorem eql_node (a b : List Nat) (ha : NodeOk a) (hb : NodeOk b) (w : World) : (binOp .eql 154 (nodeV a) (nodeV b)).run Try.prog w = .ok (.bool (decide (a = b))) w := by
  obtain ⟨r, hr, hiff⟩ := run_equalIn_deep (P := Try.prog) 9997 3 154 (by kernel_rfl) w 3 3 (nodeV a) (nodeV b) _ _ (node_formed a ha.1) (node_formed b hb.1) (node_lits 0 a ha) (node_lits 0 b hb)
  have hr' : (Op.equalIn 10000 154 (nodeV a) (nodeV b)).run Try.prog w = .ok r w := hr
  have e : r = decide (a = b) := by
    rw [Bool.eq_iff_iff, decide_eq_true_iff, hiff]
    exact ⟨lits_inj a b, fun h => by rw [h]⟩
  rw [run_eql_struct, hr', e, Result.andThen_ok]

def zero6 : List Nat := [0, 0, 0, 0, 0, 0]
theorem zero6_ok : NodeOk zero6 := ⟨rfl, by decide⟩
/-- The place of n in a list whose first place is k. -/
def idx (n : List Nat) : List (List Nat) → Nat → Option Nat
  | [], _ => none
  | x :: r, k => if x = n then some k else idx n r (k + 1)
theorem idx_snoc (n m : List Nat) : ∀ (l : List (List Nat)) (k : Nat), idx n (l ++ [m]) k = match idx n l k with
    | some j => some j
    | none => if m = n then some (k + l.length) else none
  | [], k => by simp [idx]
  | x :: r, k => by
    simp only [List.cons_append, idx]
    split
    · rfl
    · rw [idx_snoc n m r (k + 1)]
      simp only [List.length_cons, Nat.add_assoc, Nat.add_comm 1]
/-- The number of a node that has one. -/
def numOf (ns : List (List Nat)) (n : List Nat) : Option Nat := idx n (ns.drop 2) 2
theorem numOf_snoc (ns : List (List Nat)) (h2 : 2 ≤ ns.length) (n m : List Nat) : numOf (ns ++ [m]) n = match numOf ns n with
    | some j => some j
    | none => if m = n then some ns.length else none := by
  unfold numOf
  rw [List.drop_append_of_le_length h2, idx_snoc]
  rw [show 2 + (ns.drop 2).length = ns.length by simp; omega]
/-- What number leaves, and answers. -/
def numberTo (ns : List (List Nat)) (n : List Nat) : List (List Nat) × Nat := if n = zero6 then (ns, 0) else match numOf ns n with
  | some k => (ns, k)
  | none => (ns ++ [n], ns.length)

/-- A builder. -/
structure Bld (w : World) (b M : Nat) (nv : Value) (ns : List (List Nat)) : Prop where
  blk : Blk w b #[nv, .map (some M)] 134
  row : w.ownsRow 0 154 6 nv ns.length (ns.flatMap nodeC)
  map : ∃ f, NumMap w 154 M ns.length f ∧ ∀ n, NodeOk n → f (nodeV n) = numOf ns n
  ok : ∀ n ∈ ns, NodeOk n
  two : 2 ≤ ns.length
  few : ns.length ≤ 100000

theorem list_value {P : Program} {ops : Array Oper} {Q : Exit → Act → World → Prop} {o : Oper} {rest : List Oper} {a : Act} {w w' : World} {v : Value} (hg : o.guard = none) (hr : (execOp a.eval o).run P w = .ok (.value v) w')
    (h : wpList P ops Q rest (a.put o.dst v) w') : wpList P ops Q (o :: rest) a w := wpList_plain hg fun K hK => by
  unfold Oper.wp
  rw [hr]
  exact hK _ _ h
theorem exec_eql {P : Program} {ev : Operand → Value} {o : Oper} {w : World} {r : Value} (x y : Operand) (t tb : TypeId) (ho : o.op = .binOp .eql t x y tb) (hg : (eqGuard .eql t x y (ev x) (ev y)).run P w = .ok () w) (h : (binOp .eql t (ev x) (ev y)).run P w = .ok r w) : (execOp ev o).run P w = .ok (.value r) w := by
  unfold execOp
  simp [ho, hg, h, Result.andThen]

theorem list_skip {P : Program} {ops : Array Oper} {Q : Exit → Act → World → Prop} {o : Oper} {rest : List Oper} {a : Act} {w w' : World} (hg : o.guard = none) (hr : (execOp a.eval o).run P w = .ok .skip w')
    (h : wpList P ops Q rest (a.put o.dst undef) w') : wpList P ops Q (o :: rest) a w := wpList_plain hg fun K hK => by
  unfold Oper.wp
  rw [hr]
  exact hK _ _ h
theorem exec_mapUpdate {P : Program} {ev : Operand → Value} {o : Oper} {w w' : World} (m x v : Operand) (t : TypeId) (ho : o.op = .mapUpdate t m x v) (h : (Instr.mapUpdate t (ev m) (ev x) (ev v)).run P w = .ok () w') : (execOp ev o).run P w = .ok .skip w' := by
  unfold execOp
  simp [ho, h, Result.andThen]

theorem NumMap.ne {w : World} {k : TypeId} {M n g : Nat} {f : Value → Option Nat} {cur : Array Value} {e : TypeId} (h : NumMap w k M n f) (hb : Blk w g cur e) : g ≠ M := fun heq => by
  subst heq
  obtain ⟨D, ⟨es, clock, hh, _⟩, _⟩ := h
  have h' : w.heap[g]? = some (.cells cur e (0, 0)) := hb
  rw [h'] at hh
  cases hh
theorem Try.infoNode : (Try.prog.info? 154).map (fun i => (i.zero, i.size, i.bytes)) = some (some (nodeV zero6), 6, 48) := by kernel_rfl
/-- What an append of one node leaves. -/
theorem app6 {w w1 : World} {e : TypeId} {v v' : Value} {k : Nat} {xs news : List Value} (h1 : w1.ownsRow 0 e 6 v' (k + 1) (xs ++ news))
    (hg : (w.alloc (.cells news.toArray e)).grownBy w1 v.ownBlock) (hat : v'.ownBlock = v.ownBlock ∨ v'.ownBlock = some (w.alloc (.cells news.toArray e)).heap.size) :
    ∃ g cap, v' = .slice (some ⟨g, 0, none⟩) (k + 1) cap ∧ Fr (fun j => v.ownBlock = some j) w w1 ∧ (v.ownBlock = some g ∨ w.heap.size ≤ g) ∧ g < w1.heap.size := by
  have hfr : Fr (fun j => v.ownBlock = some j) w w1 := ((Fr.refl (fun j => v.ownBlock = some j) w).alloc (.cells news.toArray e)).grown hg (fun k hk => .inl hk)
  rcases h1.2 with ⟨_, hn⟩ | ⟨g, cap, cur, rfl, _, hgg, _⟩
  · omega
  · refine ⟨g, cap, rfl, hfr, ?_, lt_of_block hgg⟩
    rcases hat with hat | hat
    · exact .inl hat.symm
    · right
      have : g = w.heap.size + 1 := by simpa [Value.ownBlock] using hat
      omega

theorem ownsRow.fr {S : Nat → Prop} {w w' : World} {v : Value} {e : TypeId} {size n : Nat} {xs : List Value} (h : w.ownsRow 0 e size v n xs) (f : Fr S w w') (hn : ∀ k, v.ownBlock = some k → ¬ S k) : w'.ownsRow 0 e size v n xs := by
  refine ⟨h.1, ?_⟩
  rcases h.2 with h2 | ⟨g, cap, cur, rfl, hb, hg, r⟩
  · exact .inl h2
  · exact .inr ⟨g, cap, cur, rfl, hb, (f.block g (lt_of_block hg) (hn g rfl)).trans hg, r⟩
theorem Bld.fr {S : Nat → Prop} {w w' : World} {b M : Nat} {nv : Value} {ns : List (List Nat)} (h : Bld w b M nv ns) (f : Fr S w w') (h1 : ¬ S b) (h2 : ¬ S M) (h3 : ∀ k, nv.ownBlock = some k → ¬ S k) : Bld w' b M nv ns := by
  obtain ⟨g, hm, hg⟩ := h.map
  exact ⟨h.blk.fr f h1, ownsRow.fr h.row f h3, ⟨g, hm.fr f h2, hg⟩, h.ok, h.two, h.few⟩
theorem Bld.nw {w w' : World} {b M : Nat} {nv : Value} {ns : List (List Nat)} (h : Bld w b M nv ns) (f : Nw w w') : Bld w' b M nv ns := h.fr f (fun x => x) (fun x => x) (fun _ _ x => x)

set_option maxHeartbeats 1600000 in
set_option maxRecDepth 1000000 in
theorem number_any (b M : Nat) (nv : Value) (ns : List (List Nat)) (n : List Nat) (w : World) (hB : Bld w b M nv ns) (hn : NodeOk n) (hlen : ns.length < 100000) :
    Calls Try.prog 84 #[.pointer (some ⟨b, 0, none⟩), nodeV n] w fun e w' => e = .returned (.int .i64 ((numberTo ns n).2 : Nat)) ∧
      ∃ nv', Bld w' b M nv' (numberTo ns n).1 ∧ Fr (fun k => k = b ∨ k = M ∨ nv.ownBlock = some k) w w' ∧ (∀ k, nv'.ownBlock = some k → nv.ownBlock = some k ∨ w.heap.size ≤ k) := by
  obtain ⟨g, cap, hnv⟩ : ∃ g cap, nv = .slice (some ⟨g, 0, none⟩) ns.length cap := by
    rcases hB.row.2 with ⟨_, h0⟩ | ⟨g, cap, cur, h, _⟩
    · have := hB.two; omega
    · exact ⟨g, cap, h⟩
  subst hnv
  obtain ⟨kl, hkl⟩ := node_key n hn
  obtain ⟨v0, v1, v2, v3, v4, v5, hn6⟩ := list6 hn.1
  obtain ⟨W, hW⟩ : ∃ W, W = w.alloc (.cells (nodeC n).toArray 154) := ⟨_, rfl⟩
  have hfW : Nw w W := by rw [hW]; exact (Fr.refl _ w).alloc _
  have hbN : Blk W w.heap.size (nodeC n).toArray 154 := by rw [hW]; exact Blk.new _ _ _
  obtain ⟨f, hmap, hf⟩ := hB.map
  have hmW := hmap.nw hfW
  have hbW := hB.blk.nw hfW
  have c0 : W.cell? ⟨w.heap.size, 0, none⟩ = some (.int .i64 (v0 : Int)) := by rw [hbN.cell, hn6]; rfl
  have c1 : W.cell? ⟨w.heap.size, 1, none⟩ = some (.int .i64 (v1 : Int)) := by rw [hbN.cell, hn6]; rfl
  have c2 : W.cell? ⟨w.heap.size, 2, none⟩ = some (.int .i64 (v2 : Int)) := by rw [hbN.cell, hn6]; rfl
  have c3 : W.cell? ⟨w.heap.size, 3, none⟩ = some (.int .i64 (v3 : Int)) := by rw [hbN.cell, hn6]; rfl
  have c4 : W.cell? ⟨w.heap.size, 4, none⟩ = some (.int .i64 (v4 : Int)) := by rw [hbN.cell, hn6]; rfl
  have c5 : W.cell? ⟨w.heap.size, 5, none⟩ = some (.int .i64 (v5 : Int)) := by rw [hbN.cell, hn6]; rfl
  have HW := hd hW
  have Hn6 := hd hn6
  have hz6 : nodeV [v0, v1, v2, v3, v4, v5] = .agg #[.int .i64 (v0 : Int), .int .i64 (v1 : Int), .int .i64 (v2 : Int), .int .i64 (v3 : Int), .int .i64 (v4 : Int), .int .i64 (v5 : Int)] := rfl
  have hz0 : nodeV zero6 = .agg #[.int .i64 0, .int .i64 0, .int .i64 0, .int .i64 0, .int .i64 0, .int .i64 0] := rfl
  have heq := eql_node n zero6 hn zero6_ok W
  have hnum : numberTo ns n = numberTo ns n := rfl
  clear hW
  by_cases hz : n = zero6
  · rw [decide_eq_true hz, hn6, hz6, hz0] at heq
    have Hz := hd hz
    clear hn6 hz6 hz0 hz
    go_enter Try.func84, Try.ntmps84
    go_upto_region 1 with fail
    rw [← HW.out]
    go_wp2_with (refine list_value rfl (exec_eql (.tmp 7) (.tmp 8) 154 154 rfl (by kernel_rfl) heq) ?_)
    go_ret
    have e : numberTo ns n = (ns, 0) := by rw [numberTo, if_pos Hz.out]
    rw [e]
    exact ⟨rfl, _, hB.nw hfW, hfW.mono (fun i h => h.elim), fun k hk => .inl hk⟩
  · rw [decide_eq_false hz, hn6, hz6, hz0] at heq
    have Hz := hd hz
    clear hz
    have hb0 : W.cell? ⟨b, 0, none⟩ = some (.slice (some ⟨g, 0, none⟩) ns.length cap) := hbW.cell 0
    have hb1 : W.cell? ⟨b, 1, none⟩ = some (.map (some M)) := hbW.cell 1
    have hlook : ∀ W', NumMap W' 154 M ns.length f → (Instr.lookup 132 (.map (some M)) (.agg #[.int .i64 (v0 : Int), .int .i64 (v1 : Int), .int .i64 (v2 : Int), .int .i64 (v3 : Int), .int .i64 (v4 : Int), .int .i64 (v5 : Int)]) true).run Try.prog W' = .ok (.tuple #[.int .i64 ((numOf ns n).getD 0 : Nat), .bool (numOf ns n).isSome]) W' := fun W' h => by
      have h1 := h.look_ok nodeKeyed Try.underlying132 hkl
      rw [hf n hn, hn6] at h1
      rw [hn6]
      exact h1
    have hl1 := hlook W.drew hmW
    have Hlook := hd hlook
    clear hlook hn6 hz6 hz0
    go_enter Try.func84, Try.ntmps84
    go_upto_region 1 with fail
    rw [← HW.out]
    go_upto_region 3 with (refine list_value rfl (exec_eql (.tmp 7) (.tmp 8) 154 154 rfl (by kernel_rfl) heq) ?_)
    simp only [Act.put, List.setIfInBounds_toArray, List.set_cons_zero, List.set_cons_succ]
    cases hnm : numOf ns n with
    | some k =>
      rw [hnm] at hl1
      have Hnm := hd hnm
      clear hnm
      go_still (by kernel_rfl)
      go_wp2
      go_ret
      have e : numberTo ns n = (ns, k) := by rw [numberTo, if_neg Hz.out, Hnm.out]
      rw [e]
      exact ⟨rfl, _, (hB.nw hfW).fr ((Fr.refl (fun _ => False) W).drew) (fun x => x) (fun x => x) (fun _ _ x => x), (hfW.mono (fun i h => h.elim)).drew, fun k hk => .inl hk⟩
    | none =>
      rw [hnm] at hl1
      have Hnm := hd hnm
      clear hnm
      go_still (by kernel_rfl)
      go_upto_region 6 with fail
      show Code.wp _ _ _ _ W.drew
      obtain ⟨V, hV⟩ : ∃ V, V = W.drew := ⟨_, rfl⟩
      have hfV : Nw w V := by rw [hV]; exact hfW.drew
      have hBV := hB.nw hfV
      have hmV : NumMap V 154 M ns.length f := by rw [hV]; exact hmW
      have hNV : Blk V w.heap.size (nodeC n).toArray 154 := by rw [hV]; exact hbN
      rw [← hV]
      clear hV c0 c1 c2 c3 c4 c5 hb0 hb1 hl1 heq
      have c0 : V.cell? ⟨w.heap.size, 0, none⟩ = some (.int .i64 (v0 : Int)) := by rw [hNV.cell, Hn6.out]; rfl
      have c1 : V.cell? ⟨w.heap.size, 1, none⟩ = some (.int .i64 (v1 : Int)) := by rw [hNV.cell, Hn6.out]; rfl
      have c2 : V.cell? ⟨w.heap.size, 2, none⟩ = some (.int .i64 (v2 : Int)) := by rw [hNV.cell, Hn6.out]; rfl
      have c3 : V.cell? ⟨w.heap.size, 3, none⟩ = some (.int .i64 (v3 : Int)) := by rw [hNV.cell, Hn6.out]; rfl
      have c4 : V.cell? ⟨w.heap.size, 4, none⟩ = some (.int .i64 (v4 : Int)) := by rw [hNV.cell, Hn6.out]; rfl
      have c5 : V.cell? ⟨w.heap.size, 5, none⟩ = some (.int .i64 (v5 : Int)) := by rw [hNV.cell, Hn6.out]; rfl
      have hb0 : V.cell? ⟨b, 0, none⟩ = some (.slice (some ⟨g, 0, none⟩) ns.length cap) := hBV.blk.cell 0
      have hb1 : V.cell? ⟨b, 1, none⟩ = some (.map (some M)) := hBV.blk.cell 1
      obtain ⟨w1, hst, hm1, hf1⟩ := NumMap.store (w := V.drew) (t := 132) hmV nodeKeyed Try.underlying132 (by unfold maxLen; omega) hkl ns.length (by omega)
      rw [show nodeV n = .agg #[.int .i64 (v0 : Int), .int .i64 (v1 : Int), .int .i64 (v2 : Int), .int .i64 (v3 : Int), .int .i64 (v4 : Int), .int .i64 (v5 : Int)] by rw [Hn6.out]; rfl] at hst
      have HB := hd hB
      have HmV := hd hmV
      have HNV := hd hNV
      have HBV := hd hBV
      have Hm1 := hd hm1
      clear hB hmV hNV hBV hm1 hmap hmW hbW hbN
      go_still_tail 10, (by kernel_rfl)
      go_wp2_with (refine list_skip rfl (exec_mapUpdate (.tmp 24) (.tmp 25) (.tmp 30) 132 rfl hst) ?_)
      have hf1' : Fr (fun j => j = M) V w1 := hf1.of_drew
      have hMb : b ≠ M := HmV.out.ne HBV.out.blk
      have hMN : w.heap.size ≠ M := HmV.out.ne HNV.out
      have hb1' := HBV.out.blk.fr hf1' hMb
      have hN1 := HNV.out.fr hf1' hMN
      have hr1 := ownsRow.fr HBV.out.row hf1' (fun j hj e => by
        rcases HBV.out.row.2 with ⟨h, _⟩ | ⟨g', cap', cur', h, _, hg', _⟩
        · cases h
        · cases h
          cases hj
          exact HmV.out.ne (show Blk V g cur' _ from hg') e)
      have hK0 : Blk w1.drew b #[.slice (some ⟨g, 0, none⟩) ns.length cap, .map (some M)] 134 ∧ Blk w1.drew w.heap.size (nodeC n).toArray 154 := ⟨hb1'.drew, hN1.drew⟩
      refine region_U (S := fun w'' => Blk w'' b #[.slice (some ⟨g, 0, none⟩) ns.length cap, .map (some M)] 134 ∧ Blk w'' w.heap.size (nodeC n).toArray 154) 10 (by kernel_rfl) ?_
      refine anyU_take (i := 0) (v := .pointer (some ⟨b, 0, none⟩)) (by kernel_rfl) rfl (by kernel_rfl) (by kernel_rfl) (by kernel_rfl) (fun _ _ _ h => h) (.inl ⟨by kernel_rfl, fun w'' hS => by kernel_rfl⟩) hK0 ?_
      refine anyU_take (i := 1) (v := .pointer (some ⟨b, 0, none⟩)) (by kernel_rfl) rfl (by kernel_rfl) (by kernel_rfl) (by kernel_rfl) (fun _ _ _ h => h) (.inl ⟨by kernel_rfl, fun w'' hS => by kernel_rfl⟩) hK0 ?_
      refine anyU_take (i := 2) (v := .pointer (some ⟨b, 0, none⟩)) (by kernel_rfl) rfl (by kernel_rfl) (by kernel_rfl) (by kernel_rfl) (fun _ _ _ h => h) (.inl ⟨by kernel_rfl, fun w'' hS => by kernel_rfl⟩) hK0 ?_
      refine anyU_take (i := 3) (v := .pointer (some ⟨b, 0, none⟩)) (by kernel_rfl) rfl (by kernel_rfl) (by kernel_rfl) (by kernel_rfl) (fun _ _ _ h => h) (.inl ⟨by kernel_rfl, fun w'' hS => by kernel_rfl⟩) hK0 ?_
      refine anyU_take (i := 4) (v := .slice (some ⟨g, 0, none⟩) ns.length cap) (by kernel_rfl) rfl (by kernel_rfl) (by kernel_rfl) (by kernel_rfl) (fun _ _ _ h => h) (.inl ⟨by kernel_rfl, fun w'' hS => ?_⟩) hK0 ?_
      · have q0 : w''.cell? ⟨b, 0, none⟩ = some (.slice (some ⟨g, 0, none⟩) ns.length cap) := hS.1.cell 0
        clear hK0 hf hS HB HmV HNV HBV Hm1 Hlook hst c0 c1 c2 c3 c4 c5 hb0 hb1 hlen
        simp only [Act.put, List.setIfInBounds_toArray, List.set_cons_zero, List.set_cons_succ, List.getElem_toArray, List.getElem_cons_zero, List.getElem_cons_succ]
        go_simp
      refine anyU_take (i := 5) (v := .agg #[.int .i64 (v0 : Int), .int .i64 (v1 : Int), .int .i64 (v2 : Int), .int .i64 (v3 : Int), .int .i64 (v4 : Int), .int .i64 (v5 : Int)]) (by kernel_rfl) rfl (by kernel_rfl) (by kernel_rfl) (by kernel_rfl) (fun _ _ _ h => h) (.inl ⟨by kernel_rfl, fun w'' hS => ?_⟩) hK0 ?_
      · have q0 : w''.cell? ⟨w.heap.size, 0, none⟩ = some (.int .i64 (v0 : Int)) := by rw [hS.2.cell, Hn6.out]; rfl
        have q1 : w''.cell? ⟨w.heap.size, 1, none⟩ = some (.int .i64 (v1 : Int)) := by rw [hS.2.cell, Hn6.out]; rfl
        have q2 : w''.cell? ⟨w.heap.size, 2, none⟩ = some (.int .i64 (v2 : Int)) := by rw [hS.2.cell, Hn6.out]; rfl
        have q3 : w''.cell? ⟨w.heap.size, 3, none⟩ = some (.int .i64 (v3 : Int)) := by rw [hS.2.cell, Hn6.out]; rfl
        have q4 : w''.cell? ⟨w.heap.size, 4, none⟩ = some (.int .i64 (v4 : Int)) := by rw [hS.2.cell, Hn6.out]; rfl
        have q5 : w''.cell? ⟨w.heap.size, 5, none⟩ = some (.int .i64 (v5 : Int)) := by rw [hS.2.cell, Hn6.out]; rfl
        clear hK0 hf hS HB HmV HNV HBV Hm1 Hlook hst c0 c1 c2 c3 c4 c5 hb0 hb1 hlen
        simp only [Act.put, List.setIfInBounds_toArray, List.set_cons_zero, List.set_cons_succ, List.getElem_toArray, List.getElem_cons_zero, List.getElem_cons_succ]
        go_simp
      refine anyU_one (i := 6) (by kernel_rfl) ?_
      refine op_value (v := .slice (some ⟨w1.heap.size, 0, none⟩) 1 1) (w' := w1.drew.alloc (.cells (nodeC n).toArray 154)) rfl (by kernel_rfl) ?_ ⟨fun _ => ⟨hK0.1.alloc _, hK0.2.alloc _⟩, ?_⟩
      · rw [Hn6.out]
        kernel_rfl
      obtain ⟨i0, hi0, hz0, hz1, hz2⟩ := info_parts Try.infoNode
      have hnb : Blk (w1.drew.alloc (.cells (nodeC n).toArray 154)) w1.heap.size (nodeC n).toArray 154 := Blk.new w1.drew _ _
      obtain ⟨v', w3, hr, hown, hgrow, _, hat⟩ := run_append_own_at (P := Try.prog) (w1.drew.alloc (.cells (nodeC n).toArray 154)) 0 131 131 154 i0 (nodeV zero6) 6 48 Try.underlying131 hi0 hz0 hz1 hz2 rfl (by decide) (.slice (some ⟨g, 0, none⟩) ns.length cap) ns.length (ns.flatMap nodeC) (ownsRow.fr hr1 (((Fr.refl (fun _ => False) w1).drew).alloc _) (fun _ _ x => x)) ⟨w1.heap.size, 0, none⟩ 1 1 (nodeC n) (by simp [nodeC, hn.1])
        (fun j u hj => by
          rw [show (⟨w1.heap.size, 0, none⟩ : Addr).add j = ⟨w1.heap.size, j, none⟩ from by by_cases h : j = 0 <;> simp [Addr.add, h], hnb.cell]
          simpa using hj) (fun u hu => by
          simp only [nodeC, List.mem_map] at hu
          obtain ⟨x, _, rfl⟩ := hu
          rfl) (by unfold maxLen; omega) (by omega) (Nat.zero_le _)
      obtain ⟨g2, cap2, rfl, hf3, ha3, hlt3⟩ := app6 (w := w1.drew) hown hgrow hat
      have hf3' : Fr (fun j => (Value.slice (some ⟨g, 0, none⟩) ns.length cap).ownBlock = some j) w1 w3 := hf3.of_drew
      have hgb : g ≠ b := fun e => by
        rcases HBV.out.row.2 with ⟨h, _⟩ | ⟨g', cap', cur', h, _, hg', _⟩
        · cases h
        · cases h
          subst e
          have := (Blk.inj (show Blk V g cur' 154 from hg') HBV.out.blk).2
          revert this
          decide
      have hgN : g ≠ w.heap.size := fun e => by
        have : g < w.heap.size := by
          rcases HB.out.row.2 with ⟨h, _⟩ | ⟨g', cap', cur', h, _, hg', _⟩
          · cases h
          · cases h
            exact lt_of_block hg'
        omega
      have hb3 := hb1'.fr hf3' (fun e => hgb (by cases e; rfl))
      have hN3 := hN1.fr hf3' (fun e => hgN (by cases e; rfl))
      refine anyU_one (i := 7) (by kernel_rfl) ?_
      refine op_value (v := .slice (some ⟨g2, 0, none⟩) (ns.length + 1) cap2) (w' := w3) rfl (by kernel_rfl) ?_ ⟨fun _ => ⟨hb3, hN3⟩, ?_⟩
      · simp only [Act.put, List.setIfInBounds_toArray, List.set_cons_zero, List.set_cons_succ, List.getElem_toArray, List.getElem_cons_zero, List.getElem_cons_succ]
        unfold execOp
        simp only [resolve, invoke, builtin, Sem.run_bind, Sem.run_pure, Result.andThen_ok, List.map_toArray, List.map_cons, List.map_nil, Act.eval]
        erw [hr]
        rfl
      refine anyU_one (i := 8) (by kernel_rfl) ?_
      refine op_value (v := .pointer (some ⟨b, 0, none⟩)) (w' := w3) rfl (by kernel_rfl) (by kernel_rfl) ⟨fun _ => ⟨hb3, hN3⟩, ?_⟩
      refine anyU_one (i := 9) (by kernel_rfl) ?_
      refine op_value (v := .pointer (some ⟨b, 0, none⟩)) (w' := w3) rfl (by kernel_rfl) (by kernel_rfl) ⟨fun _ => ⟨hb3, hN3⟩, ?_⟩
      refine anyU_one (i := 10) (by kernel_rfl) ?_
      have hc3 : w3.cell? ⟨b, 0, none⟩ = some (.slice (some ⟨g, 0, none⟩) ns.length cap) := hb3.cell 0
      have hz3 := hb3.free 0
      obtain ⟨Z, hZ⟩ : ∃ Z, Z = w3.setCell ⟨b, 0, none⟩ (.slice (some ⟨g2, 0, none⟩) (ns.length + 1) cap2) := ⟨_, rfl⟩
      refine op_skip (w' := Z) rfl (by kernel_rfl) ?_ ⟨fun h => absurd rfl h, anyU_done (by kernel_rfl) ?_ _⟩
      · rw [hZ]
        clear hK0 hf HB HmV HNV HBV Hm1 Hlook hst c0 c1 c2 c3 c4 c5 hb0 hb1 hlen hr hown hgrow hat hf3 hf3' hb3 hN3 hr1 hb1' hN1 hnb hZ
        simp only [Act.put, List.setIfInBounds_toArray, List.set_cons_zero, List.set_cons_succ, List.getElem_toArray, List.getElem_cons_zero, List.getElem_cons_succ]
        go_simp
      have hfZ : Fr (fun j => j = b) w3 Z := by rw [hZ]; exact (Fr.refl _ w3).setCell _ _ (.inl rfl)
      have hbZ : Blk Z b #[.slice (some ⟨g2, 0, none⟩) (ns.length + 1) cap2, .map (some M)] 134 := by rw [hZ]; exact hb3.set 0 _
      simp only [Act.put, List.setIfInBounds_toArray, List.set_cons_zero, List.set_cons_succ, List.getElem_toArray, List.getElem_cons_zero, List.getElem_cons_succ]
      simp only [Exit.then]
      have hMl : M < w.heap.size := by have := HB.out.map; obtain ⟨_, h, _⟩ := this; exact h.lt
      have hbl : b < w.heap.size := HB.out.blk.lt
      have hgM : g ≠ M := fun e => by
        rcases HBV.out.row.2 with ⟨h, _⟩ | ⟨g', cap', cur', h, _, hg', _⟩
        · cases h
        · cases h
          exact HmV.out.ne (show Blk V g cur' _ from hg') e
      have hmZ := (Hm1.out.fr hf3' (fun e => hgM (by cases e; rfl))).fr hfZ (fun e => hMb e.symm)
      have hNZ := hN3.fr hfZ (by omega)
      have hlook2 := hmZ.look (t := 132) nodeKeyed Try.underlying132 hkl
      rw [if_pos rfl, Option.getD_some] at hlook2
      have hrZ : Z.ownsRow 0 154 6 (.slice (some ⟨g2, 0, none⟩) (ns.length + 1) cap2) (ns.length + 1) ((ns ++ [n]).flatMap nodeC) := by
        rw [List.flatMap_append, List.flatMap_cons, List.flatMap_nil, List.append_nil]
        refine ownsRow.fr hown hfZ (fun j hj e => ?_)
        have e2 : g2 = j := by cases hj; rfl
        have hs1 := hf1'.size
        have hs2 := hfV.size
        rcases ha3 with ha | ha
        · have : g = g2 := by cases ha; rfl
          omega
        · have ha' : w1.heap.size ≤ g2 := ha
          omega
      have hFV : Fr (fun k => k = b ∨ k = M ∨ (Value.slice (some ⟨g, 0, none⟩) ns.length cap).ownBlock = some k) w Z :=
        (((hfV.mono (fun i h => h.elim)).trans hf1' (fun i h => .inl (.inr (.inl h)))).trans hf3' (fun i h => .inl (.inr (.inr h)))).trans hfZ (fun i h => .inl (.inl h))
      have e : numberTo ns n = (ns ++ [n], ns.length) := by rw [numberTo, if_neg Hz.out, Hnm.out]
      have hfin : Bld Z b M (.slice (some ⟨g2, 0, none⟩) (ns.length + 1) cap2) (ns ++ [n]) := by
        refine ⟨hbZ, by rw [List.length_append]; exact hrZ, ⟨_, by rw [List.length_append]; exact hmZ, fun n' hn' => ?_⟩, fun x hx => ?_, by have := HB.out.two; simp; omega, by simp; omega⟩
        · rw [numOf_snoc ns HB.out.two]
          by_cases hnn : n' = n
          · subst hnn
            rw [Hnm.out, if_pos rfl]
            simp
          · have hne : nodeV n' ≠ nodeV n := fun h => hnn (nodeV_inj h)
            rw [if_neg hne, hf n' hn']
            cases numOf ns n' with
            | some j => rfl
            | none => exact (if_neg (fun h => hnn (Eq.symm h))).symm
        · rcases List.mem_append.1 hx with hx | hx
          · exact HB.out.ok x hx
          · rw [List.mem_singleton.1 hx]
            exact hn
      have Hfin := hd hfin
      have HFV := hd hFV
      have Ha3 : Hid (∀ k, (Value.slice (some ⟨g2, 0, none⟩) (ns.length + 1) cap2).ownBlock = some k → (Value.slice (some ⟨g, 0, none⟩) ns.length cap).ownBlock = some k ∨ w.heap.size ≤ k) := fun k hk => by
        have e2 : g2 = k := by cases hk; rfl
        subst e2
        rcases ha3 with ha | ha
        · exact .inl ha
        · have hs1 := hf1'.size
          have hs2 := hfV.size
          have ha' : w1.heap.size ≤ g2 := ha
          exact .inr (by omega)
      have d0 : Z.cell? ⟨w.heap.size, 0, none⟩ = some (.int .i64 (v0 : Int)) := by rw [hNZ.cell, Hn6.out]; rfl
      have d1 : Z.cell? ⟨w.heap.size, 1, none⟩ = some (.int .i64 (v1 : Int)) := by rw [hNZ.cell, Hn6.out]; rfl
      have d2 : Z.cell? ⟨w.heap.size, 2, none⟩ = some (.int .i64 (v2 : Int)) := by rw [hNZ.cell, Hn6.out]; rfl
      have d3 : Z.cell? ⟨w.heap.size, 3, none⟩ = some (.int .i64 (v3 : Int)) := by rw [hNZ.cell, Hn6.out]; rfl
      have d4 : Z.cell? ⟨w.heap.size, 4, none⟩ = some (.int .i64 (v4 : Int)) := by rw [hNZ.cell, Hn6.out]; rfl
      have d5 : Z.cell? ⟨w.heap.size, 5, none⟩ = some (.int .i64 (v5 : Int)) := by rw [hNZ.cell, Hn6.out]; rfl
      have dB : Z.cell? ⟨b, 1, none⟩ = some (.map (some M)) := hbZ.cell 1
      rw [show nodeV n = .agg #[.int .i64 (v0 : Int), .int .i64 (v1 : Int), .int .i64 (v2 : Int), .int .i64 (v3 : Int), .int .i64 (v4 : Int), .int .i64 (v5 : Int)] by rw [Hn6.out]; rfl] at hlook2
      have hl2 : (Instr.lookup 132 (.map (some M)) (.agg #[.int .i64 (v0 : Int), .int .i64 (v1 : Int), .int .i64 (v2 : Int), .int .i64 (v3 : Int), .int .i64 (v4 : Int), .int .i64 (v5 : Int)]) false).run Try.prog Z.drew = .ok (.int .i64 (ns.length : Int)) Z.drew := by
        have := NumMap.look (w := Z.drew) (t := 132) hmZ nodeKeyed Try.underlying132 hkl
        rw [if_pos rfl, Option.getD_some] at this
        rw [show nodeV n = .agg #[.int .i64 (v0 : Int), .int .i64 (v1 : Int), .int .i64 (v2 : Int), .int .i64 (v3 : Int), .int .i64 (v4 : Int), .int .i64 (v5 : Int)] by rw [Hn6.out]; rfl] at this
        exact this
      clear hlook2 hrZ hFV hfin hNZ hmZ hbZ hfZ hZ hc3 hz3 hb3 hN3 hgrow hat hown hr hnb hr1 hK0 hb1' hN1 hf1 hf1' hf3 hf3' hst c0 c1 c2 c3 c4 c5 hb0 hb1 Hlook HmV HNV Hm1 HBV ha3 hf
      go_upto_region 8 with fail
      go_still (by kernel_rfl)
      go_wp2
      go_ret
      rw [e]
      exact ⟨rfl, _, Hfin.out.fr ((Fr.refl (fun _ => False) Z).drew) (fun x => x) (fun x => x) (fun _ _ x => x), HFV.out.drew, Ha3.out⟩
end Go.Proofs.Ytkjfpdfkcfgfkaa

/- Contracts of the diagram's making: newBuilder, bearing, build, newDiagram. -/
namespace Go.Proofs.Ytkjfpdfkcfgfkaa
open Go.RowKit Go.Maps

set_option maxHeartbeats 800000 in
set_option maxRecDepth 1000000 in
theorem newBuilder_any (w : World) : Calls Try.prog 73 #[] w fun e w' => ∃ b M nv, e = .returned (.pointer (some ⟨b, 0, none⟩)) ∧ Bld w' b M nv [zero6, zero6] ∧ Nw w w' ∧ w.heap.size ≤ b ∧ w.heap.size ≤ M ∧ (∀ k, nv.ownBlock = some k → w.heap.size ≤ k) := by
  have hmm := @run_makeMap Try.prog
  have hms : ∀ w : World, (Instr.makeSlice 131 (.int .i64 2) (.int .i64 2)).run Try.prog w = .ok (.slice (some ⟨w.heap.size, 0, none⟩) 2 2) (w.alloc (.cells ([zero6, zero6].flatMap nodeC).toArray 154)) := fun w => by kernel_rfl
  go_enter Try.func73, Try.ntmps73
  go_wp2
  go_ret
  have hN := Blk.new w ([zero6, zero6].flatMap nodeC).toArray 154
  have hF : Nw w (((w.alloc (.cells ([zero6, zero6].flatMap nodeC).toArray 154)).alloc (.map #[] 0)).alloc (.cells #[.slice (some ⟨w.heap.size, 0, none⟩) 2 2, .map (some (w.heap.size + 1))] 134)) := (((Fr.refl _ w).alloc _).alloc _).alloc _
  have hM := (NumMap.made (w.alloc (.cells ([zero6, zero6].flatMap nodeC).toArray 154)) 154).nw ((Fr.refl _ _).alloc (.cells #[.slice (some ⟨w.heap.size, 0, none⟩) 2 2, .map (some (w.heap.size + 1))] 134))
  have hB := Blk.new ((w.alloc (.cells ([zero6, zero6].flatMap nodeC).toArray 154)).alloc (.map #[] 0)) #[.slice (some ⟨w.heap.size, 0, none⟩) 2 2, .map (some (w.heap.size + 1))] 134
  simp only [alsz] at hM hB
  refine ⟨w.heap.size + 1 + 1, w.heap.size + 1, .slice (some ⟨w.heap.size, 0, none⟩) 2 2, rfl, ⟨hB, ?_, ⟨_, hM.mono (by simp), fun n _ => ?_⟩, fun n hn => ?_, by simp, by simp⟩, hF, by omega, by omega, fun k hk => by cases hk; exact Nat.le_refl _⟩
  · exact ⟨by simp [nodeC, zero6], .inr ⟨w.heap.size, 2, ([zero6, zero6].flatMap nodeC).toArray, rfl, Nat.zero_le _, (hN.alloc _).alloc _, Nat.le_refl _, by unfold maxLen; omega, by simp [nodeC, zero6], by simp [nodeC, zero6]⟩⟩
  · rfl
  · have : n = zero6 := by simpa using hn
    rw [this]
    exact zero6_ok

/-- IntsAt, RowsAt, in blocks of which N holds. -/
def IntsIn (w : World) (N : Nat → Prop) (ao : Option Addr) (zs : List Int) : Prop := ∀ i, i < zs.length → ∃ b o, ao = some ⟨b, o, none⟩ ∧ b < w.heap.size ∧ N b ∧ w.cell? ⟨b, o + i, none⟩ = some (.int .i64 (zs.getD i 0))
def RowsIn (w : World) (N : Nat → Prop) (ao : Option Addr) (rows : List (List Int)) : Prop := ∀ i, i < rows.length → ∃ b o ro rcap, ao = some ⟨b, o, none⟩ ∧ b < w.heap.size ∧ N b ∧
  w.cell? ⟨b, o + i, none⟩ = some (.slice ro (rows.getD i []).length rcap) ∧ IntsIn w N ro (rows.getD i [])
theorem IntsIn.at_ {w : World} {N : Nat → Prop} {ao : Option Addr} {zs : List Int} (h : IntsIn w N ao zs) : IntsAt w ao zs := fun i hi => by
  obtain ⟨b, o, h1, h2, _, h3⟩ := h i hi
  exact ⟨b, o, h1, h2, h3⟩
theorem IntsIn.fr {S N N' : Nat → Prop} {w w' : World} {ao : Option Addr} {zs : List Int} (h : IntsIn w N ao zs) (f : Fr S w w') (hn : ∀ k, k < w.heap.size → N k → ¬ S k ∧ N' k) : IntsIn w' N' ao zs := fun i hi => by
  obtain ⟨b, o, h1, h2, h3, h4⟩ := h i hi
  exact ⟨b, o, h1, Nat.lt_of_lt_of_le h2 f.size, (hn b h2 h3).2, (f.cell h2 (hn b h2 h3).1).trans h4⟩
theorem RowsIn.fr {S N N' : Nat → Prop} {w w' : World} {ao : Option Addr} {rows : List (List Int)} (h : RowsIn w N ao rows) (f : Fr S w w') (hn : ∀ k, k < w.heap.size → N k → ¬ S k ∧ N' k) : RowsIn w' N' ao rows := fun i hi => by
  obtain ⟨b, o, ro, rc, h1, h2, h3, h4, h5⟩ := h i hi
  exact ⟨b, o, ro, rc, h1, Nat.lt_of_lt_of_le h2 f.size, (hn b h2 h3).2, (f.cell h2 (hn b h2 h3).1).trans h4, h5.fr f hn⟩
theorem IntsIn.bk {lo : Nat} {N : Nat → Prop} {A B : World} {ao : Option Addr} {zs : List Int} (h : IntsIn A N ao zs) (hb : Bk lo A B) : IntsIn B N ao zs := by
  intro i hi
  obtain ⟨b, o, rfl, hbl, hN, hc⟩ := h i hi
  obtain ⟨row, hg, hr⟩ := hb
  refine ⟨b, o, rfl, Nat.lt_of_lt_of_le hbl hg.size, hN, ?_⟩
  refine hg.cell hc (fun e => ?_)
  obtain ⟨_, o', ho, hcl⟩ := hr b e.symm
  cases o' <;> simp_all [World.cell?, Obj.isCells]
theorem RowsIn.bk {lo : Nat} {N : Nat → Prop} {A B : World} {ao : Option Addr} {rows : List (List Int)} (h : RowsIn A N ao rows) (hb : Bk lo A B) : RowsIn B N ao rows := by
  intro i hi
  obtain ⟨b, o, ro, rc, rfl, hbl, hN, hc, hI⟩ := h i hi
  have hI' := hI.bk hb
  obtain ⟨row, hg, hr⟩ := hb
  refine ⟨b, o, ro, rc, rfl, Nat.lt_of_lt_of_le hbl hg.size, hN, ?_, hI'⟩
  refine hg.cell hc (fun e => ?_)
  obtain ⟨_, o', ho, hcl⟩ := hr b e.symm
  cases o' <;> simp_all [World.cell?, Obj.isCells]

/-- The slices xs hold the rows. -/
def SlicesAre (w : World) (N : Nat → Prop) (xs : List Value) (rows : List (List Int)) : Prop := xs.length = rows.length ∧ ∀ j, j < rows.length → ∃ ro rcap, xs[j]? = some (.slice ro (rows.getD j []).length rcap) ∧ IntsIn w N ro (rows.getD j [])
theorem SlicesAre.nil (w : World) (N : Nat → Prop) : SlicesAre w N [] [] := ⟨rfl, fun j h => by simp at h⟩
theorem SlicesAre.snoc {w : World} {N : Nat → Prop} {xs : List Value} {rows : List (List Int)} (h : SlicesAre w N xs rows) {ro : Option Addr} {rcap : Nat} {row : List Int} (hi : IntsIn w N ro row) : SlicesAre w N (xs ++ [.slice ro row.length rcap]) (rows ++ [row]) := by
  refine ⟨by simp [h.1], fun j hj => ?_⟩
  by_cases hlt : j < rows.length
  · obtain ⟨ro', rc', hx, hi'⟩ := h.2 j hlt
    refine ⟨ro', rc', ?_, ?_⟩
    · rw [List.getElem?_append_left (by rw [h.1]; exact hlt), hx]
      simp [List.getD, List.getElem?_append_left hlt]
    · simpa [List.getD, List.getElem?_append_left hlt] using hi'
  · obtain rfl : j = rows.length := by simp at hj; omega
    refine ⟨ro, rcap, ?_, ?_⟩
    · rw [List.getElem?_append_right (by rw [h.1]; exact Nat.le_refl _), h.1]
      simp [List.getD]
    · simpa [List.getD] using hi

theorem Try.infoIntsB : (Try.prog.info? 22).map (fun i => (i.zero, i.size, i.bytes)) = some (some (.slice none 0 0), 1, 24) := by kernel_rfl
/-- The rows that bear a value at an entry. -/
def bearRows (rows : List (List Int)) (i v : Nat) : List (List Int) := rows.filter (fun r => bearsB (r.getD i 0) v)
theorem bearRows_snoc (rows : List (List Int)) (row : List Int) (i v : Nat) : bearRows (rows ++ [row]) i v = bearRows rows i v ++ (if bearsB (row.getD i 0) v then [row] else []) := by
  simp [bearRows, List.filter_append, List.filter_cons]

set_option maxHeartbeats 1600000 in
set_option maxRecDepth 1000000 in
theorem bearing_any (ro : Option Addr) (rcap : Nat) (rows : List (List Int)) (i v : Nat) (w : World) (hrl : rows.length ≤ 60) (N : Nat → Prop) (hrs : RowsIn w N ro rows) (hi : ∀ j, j < rows.length → i < (rows.getD j []).length ∧ (rows.getD j []).length ≤ 4) :
    Calls Try.prog 83 #[.slice ro rows.length rcap, .int .i64 i, .int .i64 v] w fun e w' => ∃ ro' rcap', e = .returned (.slice ro' (bearRows rows i v).length rcap') ∧ Nw w w' ∧ RowsIn w' (fun k => N k ∨ w.heap.size ≤ k) ro' (bearRows rows i v) := by
  obtain ⟨i0, hi0, hz0, hz1, hz2⟩ := info_parts Try.infoIntsB
  go_enter Try.func83, Try.ntmps83
  go_wp2_with fail
  go_loopw [7, 12] (fun sv p wr => ∃ (k : Nat) (xs : List Value), k ≤ rows.length ∧ p = .int .i64 k ∧ Row wr sv 22 xs ∧ Hid (SlicesAre w N xs (bearRows (rows.take k) i v)) ∧ xs.length ≤ k ∧ Nw w wr ∧ (∀ j, sv.ownBlock = some j → w.heap.size ≤ j)) (fun _ p _ => rows.length - (intOf p).toNat)
  case atStart => exact ⟨0, [], Nat.zero_le _, rfl, Row.nil _ _, SlicesAre.nil w N, by simp, Fr.refl _ _, fun j h => by cases h⟩
  case round =>
    obtain ⟨k, xs, hk, rfl, hr, hS, hxk, hf, hlo⟩ := hrel
    by_cases hlt : k < rows.length
    · obtain ⟨b, o, rr, rc, rfl, hb, _, hc, hints⟩ := hrs k hlt
      obtain ⟨hil, hl4⟩ := hi k hlt
      have hc' : wr.cell? ⟨b, o + k, none⟩ = some (.slice rr (rows.getD k []).length rc) := (hf.cell hb (fun x => x)).trans hc
      obtain ⟨b2, o2, rfl, hb2, _, hc2⟩ := hints i hil
      have hc2' : wr.cell? ⟨b2, o2 + i, none⟩ = some (.int .i64 ((rows.getD k []).getD i 0)) := (hf.cell hb2 (fun x => x)).trans hc2
      have htake : rows.take (k + 1) = rows.take k ++ [rows.getD k []] := by
        rw [List.take_succ_eq_append_getElem hlt]
        simp [hlt]
      have hbs := bearRows_snoc (rows.take k) (rows.getD k []) i v
      rw [← htake] at hbs
      obtain ⟨row, hrow⟩ : ∃ row, rows.getD k [] = row := ⟨_, rfl⟩
      rw [hrow] at hc' hil hl4 hc2' hbs hints
      obtain ⟨ev, hev⟩ : ∃ ev, row.getD i 0 = ev := ⟨_, rfl⟩
      rw [hev] at hc2' hbs
      have Hbs := hd hbs
      have Hints := hd hints
      have hii : (i : Int) < (row.length : Int) := by omega
      clear hbs htake hrow hev hc hc2 hints hrs
      cases hbear : bearsB ev v with
      | false =>
        have hb' : (ev == -1 || ev == (v : Int)) = false := hbear
        have Hbear := hd hbear
        clear hbear
        go_wp2_with (go_at_call 85; refine (bears_any ev v _).mono ?_; rw [hb']; rintro e w' ⟨rfl, rfl⟩)
        go_roundw
        case rel =>
          refine ⟨k + 1, xs, by omega, by go_num, hr, ?_, by omega, hf, hlo⟩
          show SlicesAre _ _ _ _
          rw [Hbs.out, Hbear.out]
          simpa using hS.out
        case measure => simp [intOf]; omega
      | true =>
        have hb' : (ev == -1 || ev == (v : Int)) = true := hbear
        have Hbear := hd hbear
        clear hbear
        go_wp2_with (first
          | (go_at_call 85; refine (bears_any ev v _).mono ?_; rw [hb']; rintro e w' ⟨rfl, rfl⟩)
          | (at_builtin; refine wpList_append_own_at _ rfl _ _ 25 rfl 0 22 i0 (.slice none 0 0) 1 24 Try.underlying25 hi0 hz0 hz1 hz2 rfl (by decide) _ _ _ rfl (hr.alloc _) ⟨_, 0, none⟩ 1 1 [.slice (some ⟨b2, o2, none⟩) row.length rc] rfl rfl (cell_one_new _ _ _) (by simp [Value.oneCell']) (by unfold maxLen; omega) (by omega) (Nat.zero_le _) ?_; intro v' w1 hown' hgrow _ hat; obtain ⟨g', cap', rfl, hr1, hf1, ha1, hlt1⟩ := app1 hown' hgrow hat; clear hown' hgrow hat))
        refine ⟨⟨k + 1, xs ++ [.slice (some ⟨b2, o2, none⟩) row.length rc], by omega, by go_num, hr1, ?_, by simp; omega, hf.trans hf1 (fun j hj => .inr (hlo j hj)), fun j hj => ?_⟩, by simp [intOf]; omega⟩
        · show SlicesAre _ _ _ _
          rw [Hbs.out, Hbear.out]
          exact hS.out.snoc Hints.out
        · have e2 : g' = j := by cases hj; rfl
          rcases ha1 with h | h
          · exact hlo j (by rw [← e2]; exact h)
          · have := hf.size
            omega
    · obtain rfl : k = rows.length := by omega
      go_wp2
      have hS' := hS.out
      rw [List.take_length] at hS'
      obtain ⟨ao, cap, hform, hao⟩ := hr.form
      rw [hS'.1] at hform
      subst hform
      go_ret
      refine ⟨ao, cap, rfl, hf, fun j hj => ?_⟩
      have hjx : j < xs.length := by rw [hS'.1]; exact hj
      obtain ⟨g, c, he, hown, hcell, _⟩ := hr.cell j hjx
      have hag : ao = some ⟨g, 0, none⟩ := by injection he
      subst hag
      obtain ⟨ro', rc', hx, hI⟩ := hS'.2 j hj
      refine ⟨g, 0, ro', rc', rfl, hr.lt hown, .inr (hlo g hown), ?_, hI.fr hf (fun k _ hk => ⟨fun x => x, .inl hk⟩)⟩
      rw [Nat.zero_add, hcell]
      rw [List.getElem?_eq_getElem hjx] at hx
      exact hx
end Go.Proofs.Ytkjfpdfkcfgfkaa

/- Contract of builder.build. -/
namespace Go.Proofs.Ytkjfpdfkcfgfkaa
open Go.RowKit Go.Maps Go.Shelf
attribute [local go_sem] Oper.semAt_some

/-- One value of an entry: what is built behind it, and its number in the node. -/
def bldStep (f : List (List Int) → List (List Nat) → List (List Nat) × Nat) (rows : List (List Int)) (i : Nat) (st : List (List Nat) × List Nat) (v : Nat) : List (List Nat) × List Nat :=
  ((f (bearRows rows i v) st.1).1, st.2.set v (f (bearRows rows i v) st.1).2)
/-- What build leaves, and answers. -/
def bldTo (vars : List Int) (nt : Bool) (dn : List Nat) : Nat → Nat → List (List Int) → List (List Nat) → List (List Nat) × Nat
  | 0, _, rows, ns => if rows.isEmpty && !nt then (ns, 0) else if nt && !rows.isEmpty then (ns, 0) else (ns, 1)
  | m + 1, i, rows, ns => if rows.isEmpty && !nt then (ns, 0) else
      numberTo ((vals (dn.getD (vars.getD i 0).toNat 0)).foldl (bldStep (bldTo vars nt dn m (i + 1)) rows i) (ns, zero6)).1 ((vals (dn.getD (vars.getD i 0).toNat 0)).foldl (bldStep (bldTo vars nt dn m (i + 1)) rows i) (ns, zero6)).2

/-- The boxes of build's parameters. -/
structure BBox (A : World) (T b : Nat) (tv : Array Value) (rv : Value) (i Dm : Nat) : Prop where
  b0 : Blk A T #[.pointer (some ⟨b, 0, none⟩)] 124
  b1 : Blk A (T + 1) tv 58
  b2 : Blk A (T + 1 + 1) #[rv] 25
  b3 : Blk A (T + 1 + 1 + 1) #[.int .i64 (i : Int)] 3
  b4 : Blk A (T + 1 + 1 + 1 + 1) #[.pointer (some ⟨Dm, 0, none⟩)] 127
theorem BBox.fr {S : Nat → Prop} {A B : World} {T b : Nat} {tv : Array Value} {rv : Value} {i Dm : Nat} (h : BBox A T b tv rv i Dm) (f : Fr S A B) (hn : ∀ k, T ≤ k → k ≤ T + 4 → ¬ S k) : BBox B T b tv rv i Dm :=
  ⟨h.b0.fr f (hn _ (by omega) (by omega)), h.b1.fr f (hn _ (by omega) (by omega)), h.b2.fr f (hn _ (by omega) (by omega)), h.b3.fr f (hn _ (by omega) (by omega)), h.b4.fr f (hn _ (by omega) (by omega))⟩
theorem BBox.bk {lo : Nat} {A B : World} {T b : Nat} {tv : Array Value} {rv : Value} {i Dm : Nat} (h : BBox A T b tv rv i Dm) (hb : Bk lo A B) : BBox B T b tv rv i Dm := ⟨h.b0.bk hb, h.b1.bk hb, h.b2.bk hb, h.b3.bk hb, h.b4.bk hb⟩
def boxedB (w : World) (b : Nat) (tv : Array Value) (rv : Value) (i Dm : Nat) : World := ((((w.alloc (.cells #[.pointer (some ⟨b, 0, none⟩)] 124)).alloc (.cells tv 58)).alloc (.cells #[rv] 25)).alloc (.cells #[.int .i64 (i : Int)] 3)).alloc (.cells #[.pointer (some ⟨Dm, 0, none⟩)] 127)
theorem boxedB_nw (w : World) (b : Nat) (tv : Array Value) (rv : Value) (i Dm : Nat) : Nw w (boxedB w b tv rv i Dm) := (((((Fr.refl _ w).alloc _).alloc _).alloc _).alloc _).alloc _
theorem boxedB_box (w : World) (b : Nat) (tv : Array Value) (rv : Value) (i Dm : Nat) : BBox (boxedB w b tv rv i Dm) w.heap.size b tv rv i Dm := by
  refine ⟨((((Blk.new w _ _).alloc _).alloc _).alloc _).alloc _, ?_, ?_, ?_, ?_⟩
  · have := (((Blk.new (w.alloc (.cells #[.pointer (some ⟨b, 0, none⟩)] 124)) tv 58).alloc (.cells #[rv] 25)).alloc (.cells #[.int .i64 (i : Int)] 3)).alloc (.cells #[.pointer (some ⟨Dm, 0, none⟩)] 127)
    simp only [alsz] at this
    exact this
  · have := ((Blk.new ((w.alloc (.cells #[.pointer (some ⟨b, 0, none⟩)] 124)).alloc (.cells tv 58)) #[rv] 25).alloc (.cells #[.int .i64 (i : Int)] 3)).alloc (.cells #[.pointer (some ⟨Dm, 0, none⟩)] 127)
    simp only [alsz] at this
    exact this
  · have := (Blk.new (((w.alloc (.cells #[.pointer (some ⟨b, 0, none⟩)] 124)).alloc (.cells tv 58)).alloc (.cells #[rv] 25)) #[.int .i64 (i : Int)] 3).alloc (.cells #[.pointer (some ⟨Dm, 0, none⟩)] 127)
    simp only [alsz] at this
    exact this
  · have := Blk.new ((((w.alloc (.cells #[.pointer (some ⟨b, 0, none⟩)] 124)).alloc (.cells tv 58)).alloc (.cells #[rv] 25)).alloc (.cells #[.int .i64 (i : Int)] 3)) #[.pointer (some ⟨Dm, 0, none⟩)] 127
    simp only [alsz] at this
    exact this

set_option maxHeartbeats 1600000 in
set_option maxRecDepth 1000000 in
/-- No row is left, and the table is not Not; or the last entry is behind. -/
theorem build_end (b Dm i n : Nat) (vo ro : Option Addr) (vcap rcap : Nat) (trv : Value) (nt : Bool) (way : Int) (rl : Nat) (w : World) (hn : n ≤ 4) (hrl : rl ≤ 60) (h : (rl = 0 ∧ nt = false) ∨ i = n) :
    Calls Try.prog 74 #[.pointer (some ⟨b, 0, none⟩), .agg #[.slice vo n vcap, trv, .bool nt, .int .i64 way], .slice ro rl rcap, .int .i64 i, .pointer (some ⟨Dm, 0, none⟩)] w fun e w' =>
      e = .returned (.int .i64 (if rl = 0 ∧ nt = false then 0 else if nt = true ∧ rl ≠ 0 then 0 else 1)) ∧ Nw w w' := by
  obtain ⟨W, hW⟩ : ∃ W, W = boxedB w b #[.slice vo n vcap, trv, .bool nt, .int .i64 way] (.slice ro rl rcap) i Dm := ⟨_, rfl⟩
  have hfW : Nw w W := by rw [hW]; exact boxedB_nw ..
  have hbx : BBox W w.heap.size b #[.slice vo n vcap, trv, .bool nt, .int .i64 way] (.slice ro rl rcap) i Dm := by rw [hW]; exact boxedB_box ..
  have a1 : W.cell? ⟨w.heap.size + 1, 0, none⟩ = some (.slice vo n vcap) := hbx.b1.cell 0
  have a2 : W.cell? ⟨w.heap.size + 1, 2, none⟩ = some (.bool nt) := hbx.b1.cell 2
  have a3 : W.cell? ⟨w.heap.size + 1 + 1, 0, none⟩ = some (.slice ro rl rcap) := hbx.b2.cell 0
  have a4 : W.cell? ⟨w.heap.size + 1 + 1 + 1, 0, none⟩ = some (.int .i64 (i : Int)) := hbx.b3.cell 0
  have HW := hd hW
  clear hW hbx
  by_cases hz : rl = 0
  · subst hz
    cases nt with
    | false =>
      go_enter Try.func74, Try.ntmps74
      go_upto_region 1 with fail
      rw [show ((((w.alloc (.cells #[.pointer (some ⟨b, 0, none⟩)] 124)).alloc (.cells #[.slice vo n vcap, trv, .bool false, .int .i64 way] 58)).alloc (.cells #[.slice ro 0 rcap] 25)).alloc (.cells #[.int .i64 (i : Int)] 3)).alloc (.cells #[.pointer (some ⟨Dm, 0, none⟩)] 127) = W from HW.out.symm]
      go_wp2
      go_ret
      exact ⟨by simp, hfW⟩
    | true =>
      have hin : i = n := by simpa using h
      subst hin
      go_enter Try.func74, Try.ntmps74
      go_upto_region 1 with fail
      rw [show ((((w.alloc (.cells #[.pointer (some ⟨b, 0, none⟩)] 124)).alloc (.cells #[.slice vo i vcap, trv, .bool true, .int .i64 way] 58)).alloc (.cells #[.slice ro 0 rcap] 25)).alloc (.cells #[.int .i64 (i : Int)] 3)).alloc (.cells #[.pointer (some ⟨Dm, 0, none⟩)] 127) = W from HW.out.symm]
      go_wp2
      go_ret
      exact ⟨by simp, hfW⟩
  · have hin : i = n := by simpa [hz] using h
    subst hin
    have hz' : ((rl : Int) == 0) = false := by simp; omega
    have hz2 : (0 : Int) < (rl : Int) := by omega
    cases nt with
    | false =>
      go_enter Try.func74, Try.ntmps74
      go_upto_region 1 with fail
      rw [show ((((w.alloc (.cells #[.pointer (some ⟨b, 0, none⟩)] 124)).alloc (.cells #[.slice vo i vcap, trv, .bool false, .int .i64 way] 58)).alloc (.cells #[.slice ro rl rcap] 25)).alloc (.cells #[.int .i64 (i : Int)] 3)).alloc (.cells #[.pointer (some ⟨Dm, 0, none⟩)] 127) = W from HW.out.symm]
      go_wp2
      go_ret
      exact ⟨by simp, hfW⟩
    | true =>
      go_enter Try.func74, Try.ntmps74
      go_upto_region 1 with fail
      rw [show ((((w.alloc (.cells #[.pointer (some ⟨b, 0, none⟩)] 124)).alloc (.cells #[.slice vo i vcap, trv, .bool true, .int .i64 way] 58)).alloc (.cells #[.slice ro rl rcap] 25)).alloc (.cells #[.int .i64 (i : Int)] 3)).alloc (.cells #[.pointer (some ⟨Dm, 0, none⟩)] 127) = W from HW.out.symm]
      go_wp2
      go_ret
      exact ⟨by simp, hfW⟩

/-- How many nodes m entries may make. -/
def cnt : Nat → Nat
  | 0 => 0
  | m + 1 => 6 * cnt m + 1
theorem foldl_count {α β : Type} (R : Nat → β → Prop) (f : β → α → β) : ∀ (l : List α) (k : Nat) (b : β), (∀ k b a, a ∈ l → R k b → R (k + 1) (f b a)) → R k b → R (k + l.length) (l.foldl f b)
  | [], k, b, _, hb => hb
  | a :: l, k, b, h, hb => by
    have := foldl_count R f l (k + 1) (f b a) (fun k' b' a' ha => h k' b' a' (List.mem_cons_of_mem _ ha)) (h k b a (List.mem_cons_self ..) hb)
    rw [List.length_cons, show k + (l.length + 1) = k + 1 + l.length by omega]
    exact this
theorem idx_lt (n : List Nat) : ∀ (l : List (List Nat)) (k j : Nat), idx n l k = some j → j < k + l.length
  | [], k, j, h => by simp [idx] at h
  | x :: r, k, j, h => by
    simp only [idx] at h
    split at h
    · cases h
      simp
    · have := idx_lt n r (k + 1) j h
      simp
      omega
theorem numberTo_len (ns : List (List Nat)) (h2 : 2 ≤ ns.length) (n : List Nat) : ns.length ≤ (numberTo ns n).1.length ∧ (numberTo ns n).1.length ≤ ns.length + 1 ∧ (numberTo ns n).2 ≤ ns.length := by
  unfold numberTo
  split
  · exact ⟨Nat.le_refl _, Nat.le_succ _, Nat.zero_le _⟩
  · split
    · rename_i k hk
      have := idx_lt n (ns.drop 2) 2 k hk
      simp only [List.length_drop] at this
      exact ⟨Nat.le_refl _, Nat.le_succ _, by show k ≤ ns.length; omega⟩
    · simp
theorem vals_len {s : Nat} (h : s < 64) : (vals s).length ≤ 6 := by
  have : ∀ s : Fin 64, (vals s.val).length ≤ 6 := by decide +kernel
  exact this ⟨s, h⟩
theorem set_le {l : List Nat} {B : Nat} (h : l.length = 6 ∧ ∀ x ∈ l, x ≤ B) (v x : Nat) (hx : x ≤ B) : (l.set v x).length = 6 ∧ ∀ y ∈ l.set v x, y ≤ B :=
  ⟨by simpa using h.1, fun y hy => by
    rcases List.mem_or_eq_of_mem_set hy with h1 | h1
    · exact h.2 y h1
    · rw [h1]; exact hx⟩
theorem bldTo_len (vars : List Int) (nt : Bool) (dn : List Nat) (hd : ∀ q, dn.getD q 0 < 64) : ∀ (m i : Nat) (rows : List (List Int)) (ns : List (List Nat)), 2 ≤ ns.length →
    ns.length ≤ (bldTo vars nt dn m i rows ns).1.length ∧ (bldTo vars nt dn m i rows ns).1.length ≤ ns.length + cnt m ∧ (bldTo vars nt dn m i rows ns).2 ≤ ns.length + cnt m
  | 0, i, rows, ns, h2 => by
    unfold bldTo
    split
    · exact ⟨Nat.le_refl _, by simp [cnt], by simp⟩
    · split
      · exact ⟨Nat.le_refl _, by simp [cnt], by simp⟩
      · exact ⟨Nat.le_refl _, by simp [cnt], by simp [cnt]; omega⟩
  | m + 1, i, rows, ns, h2 => by
    unfold bldTo
    split
    · exact ⟨Nat.le_refl _, by simp, by simp⟩
    · have hv := vals_len (hd (vars.getD i 0).toNat)
      have key := foldl_count (fun (k : Nat) (st : List (List Nat) × List Nat) => ns.length ≤ st.1.length ∧ st.1.length ≤ ns.length + k * cnt m) (bldStep (bldTo vars nt dn m (i + 1)) rows i) (vals (dn.getD (vars.getD i 0).toNat 0)) 0 (ns, zero6)
        (fun k st v _ hst => by
          have ih := bldTo_len vars nt dn hd m (i + 1) (bearRows rows i v) st.1 (by omega)
          have : (k + 1) * cnt m = k * cnt m + cnt m := Nat.succ_mul k (cnt m)
          exact ⟨by show ns.length ≤ (bldTo vars nt dn m (i + 1) (bearRows rows i v) st.1).1.length; omega, by show (bldTo vars nt dn m (i + 1) (bearRows rows i v) st.1).1.length ≤ _; omega⟩) ⟨Nat.le_refl _, by simp⟩
      rw [Nat.zero_add] at key
      generalize (vals (dn.getD (vars.getD i 0).toNat 0)).foldl (bldStep (bldTo vars nt dn m (i + 1)) rows i) (ns, zero6) = st at key
      have hm : (vals (dn.getD (vars.getD i 0).toNat 0)).length * cnt m ≤ 6 * cnt m := Nat.mul_le_mul_right _ hv
      have hn := numberTo_len st.1 (by omega) st.2
      simp only [cnt]
      omega

/-- The blocks of a builder, and what is none of them. -/
def FP (b M : Nat) (nv : Value) (k : Nat) : Prop := k = b ∨ k = M ∨ nv.ownBlock = some k
theorem ownsRow.bk {lo : Nat} {A B : World} {v : Value} {e : TypeId} {size n : Nat} {xs : List Value} (h : A.ownsRow 0 e size v n xs) (hb : Bk lo A B) : B.ownsRow 0 e size v n xs := by
  refine ⟨h.1, ?_⟩
  rcases h.2 with h2 | ⟨g, cap, cur, rfl, hbb, hg, r⟩
  · exact .inl h2
  · exact .inr ⟨g, cap, cur, rfl, hbb, Blk.bk (lo := lo) hg hb, r⟩
theorem Bld.bk {lo : Nat} {A B : World} {b M : Nat} {nv : Value} {ns : List (List Nat)} (h : Bld A b M nv ns) (hb : Bk lo A B) (hl : M < lo) : Bld B b M nv ns := by
  obtain ⟨g, hm, hg⟩ := h.map
  exact ⟨h.blk.bk hb, ownsRow.bk h.row hb, ⟨g, hm.bk hb hl, hg⟩, h.ok, h.two, h.few⟩
theorem Bld.drew {A : World} {b M : Nat} {nv : Value} {ns : List (List Nat)} (h : Bld A b M nv ns) : Bld A.drew b M nv ns := h.nw ((Fr.refl _ A).drew)
theorem Bld.lt {w : World} {b M : Nat} {nv : Value} {ns : List (List Nat)} (h : Bld w b M nv ns) {k : Nat} (hk : FP b M nv k) : k < w.heap.size := by
  rcases hk with rfl | rfl | hk
  · exact h.blk.lt
  · obtain ⟨f, hm, _⟩ := h.map
    exact hm.lt
  · exact (World.ownsRow.lt h.row k hk).2
/-- A block of another type is none of a builder's. -/
theorem Bld.other {w : World} {b M : Nat} {nv : Value} {ns : List (List Nat)} (h : Bld w b M nv ns) {k : Nat} {cur : Array Value} {e : TypeId} (hb : Blk w k cur e) (h1 : e ≠ 134) (h2 : e ≠ 154) : ¬ FP b M nv k := by
  rintro (rfl | rfl | hk)
  · exact h1 (hb.inj h.blk).2
  · obtain ⟨f, hm, _⟩ := h.map
    exact hm.ne hb rfl
  · rcases h.row.2 with ⟨rfl, _⟩ | ⟨g, cap, c2, rfl, _, hg, _⟩
    · cases hk
    · cases hk
      exact h2 (hb.inj (show Blk w g c2 154 from hg)).2
theorem Bld.loopy {w : World} {b M : Nat} {nv : Value} {ns : List (List Nat)} (h : Bld w b M nv ns) : ∀ k, FP b M nv k → ∃ o, w.heap[k]? = some o ∧ loopy o = false := by
  rintro k (rfl | rfl | hk)
  · exact ⟨_, h.blk, rfl⟩
  · obtain ⟨f, hm, _⟩ := h.map
    exact hm.map
  · rcases h.row.2 with ⟨rfl, _⟩ | ⟨g, cap, c2, rfl, _, hg, _⟩
    · cases hk
    · cases hk
      exact ⟨_, hg, rfl⟩
end Go.Proofs.Ytkjfpdfkcfgfkaa

/- Contract of builder.build, the middle. -/
namespace Go.Proofs.Ytkjfpdfkcfgfkaa
open Go.RowKit Go.Maps Go.Shelf
attribute [local go_sem] Oper.semAt_some

theorem wpIn_U {Q : Exit → Act → World → Prop} {a : Act} {w : World} {l : List Oper} {id lp k : Nat} {S : World → Prop} (z : Nat) (hnd : noDefer l = true) (hQ : ∀ a w, ¬ Q .outgrown a w)
    (h : wpAnyU Try.prog .any l.toArray Q S z l.toArray.size (Array.replicate l.toArray.size false) a w.drew) : (Code.region id l.toArray true).wpIn (Fence.wide.inRound lp) k Try.prog Q a w := by
  refine wpIn_region_any (by kernel_rfl) (any_in lp k hQ (fun j o ho c hc => ?_) _ _ _ _ (any_of_U _ _ _ _ h))
  have hmem : o ∈ l := List.mem_of_getElem? (l := l) (i := j) (a := o) (by simpa using ho)
  have := List.all_eq_true.1 hnd o hmem
  rw [hc] at this
  cases this

theorem wpIn_H {Q : Exit → Act → World → Prop} {a : Act} {w : World} {l : List Oper} {id lp k : Nat} {S : World → Prop} (hnd : noDefer l = true) (hQ : ∀ a w, ¬ Q .outgrown a w)
    (h : wpAnyH Try.prog .any l.toArray Q S l.toArray.size (Array.replicate l.toArray.size false) a w.drew) : (Code.region id l.toArray true).wpIn (Fence.wide.inRound lp) k Try.prog Q a w := by
  refine wpIn_region_any (by kernel_rfl) (any_in lp k hQ (fun j o ho c hc => ?_) _ _ _ _ (wpAny_of_held _ _ _ _ h))
  have hmem : o ∈ l := List.mem_of_getElem? (l := l) (i := j) (a := o) (by simpa using ho)
  have := List.all_eq_true.1 hnd o hmem
  rw [hc] at this
  cases this

/-- What build does from entry i on, m entries ahead of the end. -/
def BuildOk (b M Dm : Nat) (vo : Option Addr) (vcap : Nat) (trv : Value) (nt : Bool) (way : Int) (vars : List Int) (dn : List Nat) (m i : Nat) : Prop := ∀ (rows : List (List Int)) (ns : List (List Nat)) (nv : Value) (ro : Option Addr) (rcap : Nat) (w : World),
  rows.length ≤ 60 → (∀ j, j < rows.length → (rows.getD j []).length = vars.length) → ns.length + cnt m < 100000 → Bld w b M nv ns → IntsIn w (fun k => ¬ FP b M nv k) vo vars → RowsIn w (fun k => ¬ FP b M nv k) ro rows → Blk w Dm (domV dn) 76 →
  Calls Try.prog 74 #[.pointer (some ⟨b, 0, none⟩), .agg #[.slice vo vars.length vcap, trv, .bool nt, .int .i64 way], .slice ro rows.length rcap, .int .i64 i, .pointer (some ⟨Dm, 0, none⟩)] w fun e w' =>
    e = .returned (.int .i64 ((bldTo vars nt dn m i rows ns).2 : Nat)) ∧ ∃ nv', Bld w' b M nv' (bldTo vars nt dn m i rows ns).1 ∧ Fr (FP b M nv) w w' ∧ (∀ k, nv'.ownBlock = some k → nv.ownBlock = some k ∨ w.heap.size ≤ k)

/-- What holds between two values of an entry. -/
structure BldI (w wr : World) (b M Dm : Nat) (nv : Value) (tv : Array Value) (rv : Value) (i Nn : Nat) (st : List (List Nat) × List Nat) : Prop where
  fr : Fr (FP b M nv) w wr
  bx : BBox wr w.heap.size b tv rv i Dm
  bN : Blk wr Nn (nodeC st.2).toArray 154
  bld : ∃ nvk, Bld wr b M nvk st.1 ∧ (∀ k, nvk.ownBlock = some k → nv.ownBlock = some k ∨ w.heap.size ≤ k) ∧ nvk.ownBlock ≠ some Nn
theorem BldI.bk {w wr wx : World} {b M Dm lo : Nat} {nv : Value} {tv : Array Value} {rv : Value} {i Nn : Nat} {st : List (List Nat) × List Nat} (h : BldI w wr b M Dm nv tv rv i Nn st) (hb : Bk lo wr wx) (hl : w.heap.size ≤ lo) (hM : M < lo) : BldI w wx b M Dm nv tv rv i Nn st := by
  obtain ⟨nvk, h1, h2, h3⟩ := h.bld
  exact ⟨h.fr.bk hb hl, h.bx.bk hb, h.bN.bk hb, ⟨nvk, h1.bk hb hM, h2, h3⟩⟩
theorem BldI.drew {w wr : World} {b M Dm : Nat} {nv : Value} {tv : Array Value} {rv : Value} {i Nn : Nat} {st : List (List Nat) × List Nat} (h : BldI w wr b M Dm nv tv rv i Nn st) : BldI w wr.drew b M Dm nv tv rv i Nn st := by
  obtain ⟨nvk, h1, h2, h3⟩ := h.bld
  exact ⟨h.fr.drew, ⟨h.bx.b0, h.bx.b1, h.bx.b2, h.bx.b3, h.bx.b4⟩, h.bN, ⟨nvk, h1.drew, h2, h3⟩⟩

/-- The bounds behind some values. -/
theorem bldFold (vars : List Int) (nt : Bool) (dn : List Nat) (hd64 : ∀ q, dn.getD q 0 < 64) (m i : Nat) (rows : List (List Int)) (ns : List (List Nat)) (h2 : 2 ≤ ns.length) (l : List Nat) (st : List (List Nat) × List Nat)
    (hst : l.foldl (bldStep (bldTo vars nt dn m (i + 1)) rows i) (ns, zero6) = st) :
    (ns.length ≤ st.1.length ∧ st.1.length ≤ ns.length + l.length * cnt m) ∧ st.2.length = 6 ∧ ∀ x ∈ st.2, x ≤ ns.length + l.length * cnt m := by
  have := foldl_count (fun (k : Nat) (st : List (List Nat) × List Nat) => (ns.length ≤ st.1.length ∧ st.1.length ≤ ns.length + k * cnt m) ∧ st.2.length = 6 ∧ ∀ x ∈ st.2, x ≤ ns.length + k * cnt m) (bldStep (bldTo vars nt dn m (i + 1)) rows i) l 0 (ns, zero6)
    (fun k st v _ hst => by
      have ih := bldTo_len vars nt dn hd64 m (i + 1) (bearRows rows i v) st.1 (by omega)
      have hk : (k + 1) * cnt m = k * cnt m + cnt m := Nat.succ_mul k (cnt m)
      refine ⟨⟨by show ns.length ≤ (bldTo vars nt dn m (i + 1) (bearRows rows i v) st.1).1.length; omega, by show (bldTo vars nt dn m (i + 1) (bearRows rows i v) st.1).1.length ≤ _; omega⟩, ?_⟩
      refine set_le ⟨hst.2.1, fun x hx => ?_⟩ v _ (by omega)
      have := hst.2.2 x hx
      omega) ⟨⟨Nat.le_refl _, by simp⟩, rfl, by simp [zero6]⟩
  rw [Nat.zero_add, hst] at this
  exact this

set_option maxHeartbeats 3200000 in
set_option maxRecDepth 1000000 in
theorem build_goA (b M Dm : Nat) (vo : Option Addr) (vcap : Nat) (trv : Value) (nt : Bool) (way : Int) (vars : List Int) (dn : List Nat) (m i : Nat)
    (h8 : dn.length = 8) (h4 : vars.length ≤ 4) (hv : ∀ i, i < vars.length → 0 ≤ vars.getD i 0 ∧ vars.getD i 0 < 8) (hd64 : ∀ q, dn.getD q 0 < 64)
    (hi : i < vars.length) (ih : BuildOk b M Dm vo vcap trv nt way vars dn m (i + 1)) (rows : List (List Int)) (ns : List (List Nat)) (nv : Value) (ro : Option Addr) (rcap : Nat) (w : World)
    (hrl : rows.length ≤ 60) (hrow : ∀ j, j < rows.length → (rows.getD j []).length = vars.length) (hne : rows ≠ []) (hcnt : ns.length + cnt (m + 1) < 100000) (hB : Bld w b M nv ns) (hvs : IntsIn w (fun k => ¬ FP b M nv k) vo vars) (hrs : RowsIn w (fun k => ¬ FP b M nv k) ro rows) (hDm : Blk w Dm (domV dn) 76) :
    Calls Try.prog 74 #[.pointer (some ⟨b, 0, none⟩), .agg #[.slice vo vars.length vcap, trv, .bool nt, .int .i64 way], .slice ro rows.length rcap, .int .i64 i, .pointer (some ⟨Dm, 0, none⟩)] w fun e w' =>
      e = .returned (.int .i64 ((bldTo vars nt dn (m + 1) i rows ns).2 : Nat)) ∧ ∃ nv', Bld w' b M nv' (bldTo vars nt dn (m + 1) i rows ns).1 ∧ Fr (FP b M nv) w w' ∧ (∀ k, nv'.ownBlock = some k → nv.ownBlock = some k ∨ w.heap.size ≤ k) := by
  have hmf : ∀ (fn : Fn) (first cap : Array Value) (w : World), (Instr.makeFunc fn first cap).run Try.prog w = .ok (.func fn first cap) w := fun _ _ _ _ => rfl
  obtain ⟨hv0, hv8⟩ := hv i hi
  obtain ⟨q, hq⟩ : ∃ q : Nat, vars.getD i 0 = (q : Int) := ⟨(vars.getD i 0).toNat, by omega⟩
  obtain ⟨vb, vof, hvo, hvbl, hvbN, hvc⟩ := hvs i hi
  subst hvo
  rw [hq] at hv0 hv8 hvc
  have hq8 : q < 8 := by omega
  have hDN : ¬ FP b M nv Dm := hB.other hDm (by decide) (by decide)
  obtain ⟨sx, hsxe⟩ : ∃ sx, dn.getD q 0 = sx := ⟨_, rfl⟩
  have hsx := hd64 q
  rw [hsxe] at hsx
  obtain ⟨fin, hfin⟩ : ∃ fin, (vals sx).foldl (bldStep (bldTo vars nt dn m (i + 1)) rows i) (ns, zero6) = fin := ⟨_, rfl⟩
  have hbt : bldTo vars nt dn (m + 1) i rows ns = numberTo fin.1 fin.2 := by
    have hne' : (rows.isEmpty && !nt) = false := by simp [hne]
    rw [bldTo, hne', hq, Int.toNat_natCast, hsxe, hfin]
    simp
  rw [hbt]
  have hg1 : ((rows.length : Int) == 0) = false := by
    have : rows.length ≠ 0 := fun h => hne (List.length_eq_zero_iff.1 h)
    simp; omega
  have hin0 : ((i : Int) == (vars.length : Int)) = false := by simp; omega
  obtain ⟨W, hW⟩ : ∃ W, W = boxedB w b #[.slice (some ⟨vb, vof, none⟩) vars.length vcap, trv, .bool nt, .int .i64 way] (.slice ro rows.length rcap) i Dm := ⟨_, rfl⟩
  have hfW : Nw w W := by rw [hW]; exact boxedB_nw ..
  have hbx : BBox W w.heap.size b #[.slice (some ⟨vb, vof, none⟩) vars.length vcap, trv, .bool nt, .int .i64 way] (.slice ro rows.length rcap) i Dm := by rw [hW]; exact boxedB_box ..
  have hsW : W.heap.size = w.heap.size + 5 := by rw [hW]; simp [boxedB]
  have a1 : W.cell? ⟨w.heap.size + 1, 0, none⟩ = some (.slice (some ⟨vb, vof, none⟩) vars.length vcap) := hbx.b1.cell 0
  have a2 : W.cell? ⟨w.heap.size + 1, 2, none⟩ = some (.bool nt) := hbx.b1.cell 2
  have a3 : W.cell? ⟨w.heap.size + 1 + 1, 0, none⟩ = some (.slice ro rows.length rcap) := hbx.b2.cell 0
  have a4 : W.cell? ⟨w.heap.size + 1 + 1 + 1, 0, none⟩ = some (.int .i64 (i : Int)) := hbx.b3.cell 0
  have HW := hd hW
  have Hbx := hd hbx
  have HsW := hd hsW
  have HB := hd hB
  have Hvs := hd hvs
  have Hrs := hd hrs
  have HDm := hd hDm
  have Hfin := hd hfin
  have Hsxe := hd hsxe
  have Hq := hd hq
  have Hih := hd ih
  clear hW hbx hsW hB hvs hrs hDm hfin hsxe hq hbt ih
  refine (callsIn_wide (n := 9)).1 ?_
  refine callsIn_of_wp_marks Try.func74 rfl trivial ?_ rfl
  simp only [Try.ntmps74, List.size_toArray, List.length_cons, List.length_nil, Nat.reduceAdd, Nat.reduceSub, Array.replicate_succ, Array.replicate_zero, List.push_toArray, List.append_toArray, List.nil_append, List.cons_append]
  gi_upto_region 1 with fail
  rw [show ((((w.alloc (.cells #[.pointer (some ⟨b, 0, none⟩)] 124)).alloc (.cells #[.slice (some ⟨vb, vof, none⟩) vars.length vcap, trv, .bool nt, .int .i64 way] 58)).alloc (.cells #[.slice ro rows.length rcap] 25)).alloc (.cells #[.int .i64 (i : Int)] 3)).alloc (.cells #[.pointer (some ⟨Dm, 0, none⟩)] 127) = W from HW.out.symm]
  clear HW
  gi_upto_region 7 with fail
  gi_upto_region 8 with fail
  obtain ⟨Z, hZ⟩ : ∃ Z, Z = W.alloc (.cells (nodeC zero6).toArray 154) := ⟨_, rfl⟩
  have hfZ : Nw W Z := by rw [hZ]; exact (Fr.refl _ W).alloc _
  have hbZ : Blk Z W.heap.size (nodeC zero6).toArray 154 := by rw [hZ]; exact Blk.new _ _ _
  rw [show W.alloc (Obj.cells #[Value.int .i64 0, .int .i64 0, .int .i64 0, .int .i64 0, .int .i64 0, .int .i64 0] 154) = Z from hZ.symm]
  have hwZ : Nw w Z := hfW.trans hfZ (fun i h => h.elim)
  have hMl : M < w.heap.size := HB.out.lt (.inr (.inl rfl))
  have hbl : b < w.heap.size := HB.out.lt (.inl rfl)
  have hI0 : BldI w Z b M Dm nv #[.slice (some ⟨vb, vof, none⟩) vars.length vcap, trv, .bool nt, .int .i64 way] (.slice ro rows.length rcap) i W.heap.size (ns, zero6) :=
    ⟨hwZ.mono (fun i h => h.elim), Hbx.out.fr hfZ (fun k _ _ x => x), hbZ, ⟨nv, HB.out.nw hwZ, fun k hk => .inl hk, fun e => by have := HB.out.lt (.inr (.inr e)); have := HsW.out; omega⟩⟩
  have a1' : Z.cell? ⟨w.heap.size + 1, 0, none⟩ = some (.slice (some ⟨vb, vof, none⟩) vars.length vcap) := hI0.bx.b1.cell 0
  have a4' : Z.cell? ⟨w.heap.size + 1 + 1 + 1, 0, none⟩ = some (.int .i64 (i : Int)) := hI0.bx.b3.cell 0
  have a5' : Z.cell? ⟨w.heap.size + 1 + 1 + 1 + 1, 0, none⟩ = some (.pointer (some ⟨Dm, 0, none⟩)) := hI0.bx.b4.cell 0
  have aV : Z.cell? ⟨vb, vof + i, none⟩ = some (.int .i64 (q : Int)) := (hwZ.cell hvbl (fun x => x)).trans hvc
  have aD : Z.cell? ⟨Dm, q, none⟩ = some (.int .u8 (sx : Int)) := by rw [← Hsxe.out]; exact ((HDm.out.nw hwZ).cell q).trans (domV_get dn q (by omega))
  have hszZ : w.heap.size + 6 ≤ Z.heap.size := by have := hbZ.lt; have := HsW.out; omega
  have HI0 := hd hI0
  have hiV : (i : Int) < (vars.length : Int) := by omega
  clear hI0 hZ hbZ a1 a2 a3 a4 hvc
  refine wpIn_wide.2 ?_
  go_still (by kernel_rfl)
  go_wp2
  gi_wp2_with fail
  show Code.wpIn _ _ _ _ _ _ Z.drew
  have hszZd : Z.drew.heap.size = Z.heap.size := rfl
  refine wp_each (show sx < 256 by omega) rfl (by simp) (fun pre A => BldI w A b M Dm nv #[.slice (some ⟨vb, vof, none⟩) vars.length vcap, trv, .bool nt, .int .i64 way] (.slice ro rows.length rcap) i W.heap.size (pre.foldl (bldStep (bldTo vars nt dn m (i + 1)) rows i) (ns, zero6)))
    (fun pre A B h hb => h.bk hb (by rw [hszZd]; omega) (by rw [hszZd]; omega)) HI0.out.drew ?body ?done
  case body =>
    rintro l pre v A hpre hI
    have hmem : v ∈ vals sx := hpre.subset (List.mem_append_right pre (List.mem_singleton.2 rfl))
    have hv6 : v < 6 := vals_lt6 hsx hmem
    have hplen : pre.length + 1 ≤ 6 := by
      have h1 := hpre.length_le
      have h2 := vals_len hsx
      simp at h1
      omega
    obtain ⟨st, hst⟩ : ∃ st, pre.foldl (bldStep (bldTo vars nt dn m (i + 1)) rows i) (ns, zero6) = st := ⟨_, rfl⟩
    rw [hst] at hI
    have hstep : (pre ++ [v]).foldl (bldStep (bldTo vars nt dn m (i + 1)) rows i) (ns, zero6) = bldStep (bldTo vars nt dn m (i + 1)) rows i st v := by rw [List.foldl_append, hst]; rfl
    rw [hstep]
    obtain ⟨hlen, hs6, hsx6⟩ := bldFold vars nt dn hd64 m i rows ns HB.out.two pre st hst
    have hcm : st.1.length + cnt m < 100000 := by
      have h1 : pre.length * cnt m ≤ 5 * cnt m := Nat.mul_le_mul_right _ (by omega)
      simp only [cnt] at hcnt
      omega
    obtain ⟨nvk, hBk, hnk, hnN⟩ := hI.bld
    obtain ⟨r, hre⟩ : ∃ r, bldTo vars nt dn m (i + 1) (bearRows rows i v) st.1 = r := ⟨_, rfl⟩
    have hrl2 := bldTo_len vars nt dn hd64 m (i + 1) (bearRows rows i v) st.1 (by have := HB.out.two; omega)
    rw [hre] at hrl2
    obtain ⟨st', hst'⟩ : ∃ st', bldStep (bldTo vars nt dn m (i + 1)) rows i st v = st' := ⟨_, rfl⟩
    have hst2 : st' = (r.1, st.2.set v r.2) := by rw [← hst']; unfold bldStep; rw [hre]
    rw [hst']
    have Hst2 := hd hst2
    clear hst hstep hst' hst2 hpre hmem a1' a4' a5' aV aD HI0
    have HI := hd hI
    have HBk := hd hBk
    have Hre := hd hre
    clear hI hBk hre
    gi_wp2_with fail
    have hK0 : BBox A.drew w.heap.size b #[.slice (some ⟨vb, vof, none⟩) vars.length vcap, trv, .bool nt, .int .i64 way] (.slice ro rows.length rcap) i Dm := ⟨HI.out.bx.b0, HI.out.bx.b1, HI.out.bx.b2, HI.out.bx.b3, HI.out.bx.b4⟩
    refine wpIn_H (S := fun w'' => BBox w'' w.heap.size b #[.slice (some ⟨vb, vof, none⟩) vars.length vcap, trv, .bool nt, .int .i64 way] (.slice ro rows.length rcap) i Dm) (by kernel_rfl) (fun a w h => h) ?_
    refine wpAnyH_take (i := 0) (v := .int .i64 (v : Int)) rfl (by kernel_rfl) (by kernel_rfl) (by kernel_rfl) (fun _ _ _ h => h) (.inl ⟨by kernel_rfl, fun w'' hS => by kernel_rfl⟩) hK0 ?_
    refine wpAnyH_take (i := 1) (v := .pointer (some ⟨b, 0, none⟩)) rfl (by kernel_rfl) (by kernel_rfl) (by kernel_rfl) (fun _ _ _ h => h) (.inl ⟨by kernel_rfl, fun w'' hS => ?_⟩) hK0 ?_
    · have q0 : w''.cell? ⟨w.heap.size, 0, none⟩ = some (.pointer (some ⟨b, 0, none⟩)) := hS.b0.cell 0
      clear hK0 hS hg1 hin0 hcnt hv0 hv8 hcm hlen hrl2 hplen hnk hnN hrow hv hd64 hmf
      simp only [Act.put, List.setIfInBounds_toArray, List.set_cons_zero, List.set_cons_succ, List.getElem_toArray, List.getElem_cons_zero, List.getElem_cons_succ]
      go_simp
    refine wpAnyH_take (i := 2) (v := .agg #[.slice (some ⟨vb, vof, none⟩) vars.length vcap, trv, .bool nt, .int .i64 way]) rfl (by kernel_rfl) (by kernel_rfl) (by kernel_rfl) (fun _ _ _ h => h) (.inl ⟨by kernel_rfl, fun w'' hS => ?_⟩) hK0 ?_
    · have q0 : w''.cell? ⟨w.heap.size + 1, 0, none⟩ = some (.slice (some ⟨vb, vof, none⟩) vars.length vcap) := hS.b1.cell 0
      have q1 : w''.cell? ⟨w.heap.size + 1, 1, none⟩ = some trv := hS.b1.cell 1
      have q2 : w''.cell? ⟨w.heap.size + 1, 2, none⟩ = some (.bool nt) := hS.b1.cell 2
      have q3 : w''.cell? ⟨w.heap.size + 1, 3, none⟩ = some (.int .i64 way) := hS.b1.cell 3
      clear hK0 hS hg1 hin0 hcnt hv0 hv8 hcm hlen hrl2 hplen hnk hnN hrow hv hd64 hmf
      simp only [Act.put, List.setIfInBounds_toArray, List.set_cons_zero, List.set_cons_succ, List.getElem_toArray, List.getElem_cons_zero, List.getElem_cons_succ]
      go_simp
    refine wpAnyH_take (i := 3) (v := .slice ro rows.length rcap) rfl (by kernel_rfl) (by kernel_rfl) (by kernel_rfl) (fun _ _ _ h => h) (.inl ⟨by kernel_rfl, fun w'' hS => ?_⟩) hK0 ?_
    · have q0 : w''.cell? ⟨w.heap.size + 1 + 1, 0, none⟩ = some (.slice ro rows.length rcap) := hS.b2.cell 0
      clear hK0 hS hg1 hin0 hcnt hv0 hv8 hcm hlen hrl2 hplen hnk hnN hrow hv hd64 hmf
      simp only [Act.put, List.setIfInBounds_toArray, List.set_cons_zero, List.set_cons_succ, List.getElem_toArray, List.getElem_cons_zero, List.getElem_cons_succ]
      go_simp
    refine wpAnyH_take (i := 4) (v := .int .i64 (i : Int)) rfl (by kernel_rfl) (by kernel_rfl) (by kernel_rfl) (fun _ _ _ h => h) (.inl ⟨by kernel_rfl, fun w'' hS => ?_⟩) hK0 ?_
    · have q0 : w''.cell? ⟨w.heap.size + 1 + 1 + 1, 0, none⟩ = some (.int .i64 (i : Int)) := hS.b3.cell 0
      clear hK0 hS hg1 hin0 hcnt hv0 hv8 hcm hlen hrl2 hplen hnk hnN hrow hv hd64 hmf
      simp only [Act.put, List.setIfInBounds_toArray, List.set_cons_zero, List.set_cons_succ, List.getElem_toArray, List.getElem_cons_zero, List.getElem_cons_succ]
      go_simp
    refine wpAnyH_take (i := 5) (v := .int .i64 (v : Int)) rfl (by kernel_rfl) (by kernel_rfl) (by kernel_rfl) (fun _ _ _ h => h) (.inl ⟨by kernel_rfl, fun w'' hS => by kernel_rfl⟩) hK0 ?_
    refine wpAnyH_take (i := 7) (v := .int .i64 (i : Int)) rfl (by kernel_rfl) (by kernel_rfl) (by kernel_rfl) (fun _ _ _ h => h) (.inl ⟨by kernel_rfl, fun w'' hS => ?_⟩) hK0 ?_
    · have q0 : w''.cell? ⟨w.heap.size + 1 + 1 + 1, 0, none⟩ = some (.int .i64 (i : Int)) := hS.b3.cell 0
      clear hK0 hS hg1 hin0 hcnt hv0 hv8 hcm hlen hrl2 hplen hnk hnN hrow hv hd64 hmf
      simp only [Act.put, List.setIfInBounds_toArray, List.set_cons_zero, List.set_cons_succ, List.getElem_toArray, List.getElem_cons_zero, List.getElem_cons_succ]
      go_simp
    refine wpAnyH_take (i := 8) (v := .int .i64 ((i + 1 : Nat) : Int)) rfl (by kernel_rfl) (by kernel_rfl) (by kernel_rfl) (fun _ _ _ h => h) (.inl ⟨by kernel_rfl, fun w'' hS => ?_⟩) hK0 ?_
    · clear hK0 hS hg1 hin0 hcnt hv0 hv8 hcm hlen hrl2 hplen hnk hnN hrow hv hd64 hmf
      simp only [Act.put, List.setIfInBounds_toArray, List.set_cons_zero, List.set_cons_succ, List.getElem_toArray, List.getElem_cons_zero, List.getElem_cons_succ]
      go_simp
      rw [IntKind.wrap_i64]
      omega
    refine wpAnyH_take (i := 9) (v := .pointer (some ⟨Dm, 0, none⟩)) rfl (by kernel_rfl) (by kernel_rfl) (by kernel_rfl) (fun _ _ _ h => h) (.inl ⟨by kernel_rfl, fun w'' hS => ?_⟩) hK0 ?_
    · have q0 : w''.cell? ⟨w.heap.size + 1 + 1 + 1 + 1, 0, none⟩ = some (.pointer (some ⟨Dm, 0, none⟩)) := hS.b4.cell 0
      clear hK0 hS hg1 hin0 hcnt hv0 hv8 hcm hlen hrl2 hplen hnk hnN hrow hv hd64 hmf
      simp only [Act.put, List.setIfInBounds_toArray, List.set_cons_zero, List.set_cons_succ, List.getElem_toArray, List.getElem_cons_zero, List.getElem_cons_succ]
      go_simp
    refine wpAnyH_take (i := 11) (v := .pointer (some ⟨W.heap.size, 0, none⟩)) rfl (by kernel_rfl) (by kernel_rfl) (by kernel_rfl) (fun _ _ _ h => h) (.inl ⟨by kernel_rfl, fun w'' hS => by kernel_rfl⟩) hK0 ?_
    refine wpAnyH_all (rs := [6]) (by kernel_rfl) (by simp) (fun j hj => ?_)
    obtain rfl : j = 6 := by simpa using hj
    have hNstep : ∀ k, k < w.heap.size → ¬ FP b M nv k → ¬ FP b M nv k ∧ ¬ FP b M nvk k := fun k hk hn => ⟨hn, fun h => by
      rcases h with h | h | h
      · exact hn (.inl h)
      · exact hn (.inr (.inl h))
      · rcases hnk k h with h1 | h1
        · exact hn (.inr (.inr h1))
        · omega⟩
    have hrsA : RowsIn A (fun k => ¬ FP b M nvk k) ro rows := Hrs.out.fr HI.out.fr hNstep
    have hvsA : IntsIn A (fun k => ¬ FP b M nvk k) (some ⟨vb, vof, none⟩) vars := Hvs.out.fr HI.out.fr hNstep
    have hDA : Blk A Dm (domV dn) 76 := HDm.out.fr HI.out.fr hDN
    refine op_enter (f := 83) (args := #[.slice ro rows.length rcap, .int .i64 (i : Int), .int .i64 (v : Int)]) (w' := A.drew) rfl (by kernel_rfl) (by kernel_rfl) ?_
    refine (bearing_any ro rcap rows i v A.drew hrl (fun k => ¬ FP b M nvk k) (hrsA.fr ((Fr.refl (fun _ => False) A).drew) (fun k _ hk => ⟨fun x => x, hk⟩)) (fun j hj => by rw [hrow j hj]; exact ⟨hi, h4⟩)).mono ?_
    rintro e A1 ⟨ro', rc', rfl, hf1, hrs1⟩
    have hf1' : Nw A A1 := hf1.of_drew
    have hbx1 : BBox A1 w.heap.size b #[.slice (some ⟨vb, vof, none⟩) vars.length vcap, trv, .bool nt, .int .i64 way] (.slice ro rows.length rcap) i Dm := HI.out.bx.fr hf1' (fun k _ _ x => x)
    refine ⟨_, rfl, hbx1, ?_⟩
    refine wpAnyH_all (rs := [10]) (by kernel_rfl) (by simp) (fun j hj => ?_)
    obtain rfl : j = 10 := by simpa using hj
    have hB1 := HBk.out.nw hf1'
    have hrs1' : RowsIn A1 (fun k => ¬ FP b M nvk k) ro' (bearRows rows i v) := hrs1.fr (Fr.refl (fun _ => False) A1) (fun k _ hk => ⟨fun x => x, by
      rcases hk with h | h
      · exact h
      · intro hF
        have := HBk.out.lt hF
        have h' : A.heap.size ≤ k := h
        omega⟩)
    have hbl1 : (bearRows rows i v).length ≤ 60 := Nat.le_trans (List.length_filter_le _ _) hrl
    have hbrow : ∀ j, j < (bearRows rows i v).length → ((bearRows rows i v).getD j []).length = vars.length := fun j hj => by
      have hmem : (bearRows rows i v)[j] ∈ rows := (List.mem_filter.1 (List.getElem_mem hj)).1
      obtain ⟨t, ht, he⟩ := List.getElem_of_mem hmem
      have h1 := hrow t ht
      simp only [List.getD, List.getElem?_eq_getElem ht, Option.getD_some, he] at h1
      simpa [List.getD, hj] using h1
    refine op_enter (f := 74) (args := #[.pointer (some ⟨b, 0, none⟩), .agg #[.slice (some ⟨vb, vof, none⟩) vars.length vcap, trv, .bool nt, .int .i64 way], .slice ro' (bearRows rows i v).length rc', .int .i64 ((i + 1 : Nat) : Int), .pointer (some ⟨Dm, 0, none⟩)]) (w' := A1) rfl (by kernel_rfl) (by kernel_rfl) ?_
    refine (Hih.out (bearRows rows i v) st.1 nvk ro' rc' A1 hbl1 hbrow hcm hB1 (hvsA.fr hf1' (fun k _ hk => ⟨fun x => x, hk⟩)) hrs1' (hDA.nw hf1')).mono ?_
    rw [Hre.out]
    rintro e A2 ⟨rfl, nv2, hB2, hf2, hn2⟩
    have hs1 := hf1'.size
    have hAs : W.heap.size < A.heap.size := HI.out.bN.lt
    have hWs := HsW.out
    have hFPb : ∀ k, FP b M nvk k → k < A.heap.size := fun k hk => HBk.out.lt hk
    have hbxN : ∀ k, w.heap.size ≤ k → k ≤ w.heap.size + 4 → ¬ FP b M nvk k := fun k h1 h2 => by
      have hk : k = w.heap.size ∨ k = w.heap.size + 1 ∨ k = w.heap.size + 1 + 1 ∨ k = w.heap.size + 1 + 1 + 1 ∨ k = w.heap.size + 1 + 1 + 1 + 1 := by omega
      rcases hk with rfl | rfl | rfl | rfl | rfl
      · exact HBk.out.other HI.out.bx.b0 (by decide) (by decide)
      · exact HBk.out.other HI.out.bx.b1 (by decide) (by decide)
      · exact HBk.out.other HI.out.bx.b2 (by decide) (by decide)
      · exact HBk.out.other HI.out.bx.b3 (by decide) (by decide)
      · exact HBk.out.other HI.out.bx.b4 (by decide) (by decide)
    have hNnF : ¬ FP b M nvk W.heap.size := by
      rintro (h | h | h)
      · omega
      · omega
      · exact hnN h
    have hbx2 : BBox A2 w.heap.size b #[.slice (some ⟨vb, vof, none⟩) vars.length vcap, trv, .bool nt, .int .i64 way] (.slice ro rows.length rcap) i Dm := hbx1.fr hf2 hbxN
    have hN2 : Blk A2 W.heap.size (nodeC st.2).toArray 154 := (HI.out.bN.nw hf1').fr hf2 hNnF
    refine ⟨_, rfl, hbx2, ?_⟩
    refine wpAnyH_all (rs := [12]) (by kernel_rfl) (by simp) (fun j hj => ?_)
    obtain rfl : j = 12 := by simpa using hj
    refine op_value (v := .pointer (some ⟨W.heap.size, v, none⟩)) (w' := A2) rfl (by kernel_rfl) ?_ ⟨hbx2, ?_⟩
    · have hv0' : (0 : Int) ≤ (v : Int) := by omega
      have hv6' : (v : Int) < 6 := by omega
      clear hK0 hg1 hin0 hcnt hv0 hv8 hcm hlen hrl2 hplen hnk hnN hrow hv hd64 hmf hrsA hvsA hDA hf1 hrs1 hf1' hbx1 hB1 hrs1' hbl1 hbrow hB2 hf2 hn2 hs1 hAs hWs hFPb hbxN hNnF hbx2 hN2 hNstep
      simp only [Act.put, List.setIfInBounds_toArray, List.set_cons_zero, List.set_cons_succ, List.getElem_toArray, List.getElem_cons_zero, List.getElem_cons_succ]
      go_simp
    refine wpAnyH_all (rs := [13]) (by kernel_rfl) (by simp) (fun j hj => ?_)
    obtain rfl : j = 13 := by simpa using hj
    have hvl : v < (nodeC st.2).toArray.size := by simp [nodeC, hs6]; omega
    obtain ⟨ov, hcN⟩ : ∃ ov, A2.cell? ⟨W.heap.size, v, none⟩ = some ov := ⟨_, (hN2.cell v).trans (Array.getElem?_eq_getElem hvl)⟩
    have hfN := hN2.free v
    obtain ⟨A3, hA3⟩ : ∃ A3, A3 = A2.setCell ⟨W.heap.size, v, none⟩ (.int .i64 (r.2 : Int)) := ⟨_, rfl⟩
    have hf3 : Fr (fun k => k = W.heap.size) A2 A3 := by rw [hA3]; exact (Fr.refl _ A2).setCell _ _ (.inl rfl)
    have hbx3 : BBox A3 w.heap.size b #[.slice (some ⟨vb, vof, none⟩) vars.length vcap, trv, .bool nt, .int .i64 way] (.slice ro rows.length rcap) i Dm := hbx2.fr hf3 (fun k h1 h2 e => by omega)
    have hN3 : Blk A3 W.heap.size (nodeC (st.2.set v r.2)).toArray 154 := by
      rw [hA3]
      have h5 := hN2.set v (.int .i64 (r.2 : Int))
      have e5 : (nodeC st.2).toArray.setIfInBounds v (.int .i64 (r.2 : Int)) = (nodeC (st.2.set v r.2)).toArray := by simp [nodeC, List.map_set]
      rw [e5] at h5
      exact h5
    refine op_skip (w' := A3) rfl (by kernel_rfl) ?_ ⟨hbx3, wpAnyH_done (by kernel_rfl) ?_ _⟩
    · rw [hA3]
      clear hK0 hg1 hin0 hcnt hv0 hv8 hcm hlen hrl2 hplen hnk hnN hrow hv hd64 hmf hrsA hvsA hDA hf1 hrs1 hf1' hbx1 hB1 hrs1' hbl1 hbrow hB2 hf2 hn2 hs1 hAs hWs hFPb hbxN hNnF hbx2 hN2 hNstep hA3 hf3 hbx3 hN3 hvl hs6 hsx6
      simp only [Act.put, List.setIfInBounds_toArray, List.set_cons_zero, List.set_cons_succ, List.getElem_toArray, List.getElem_cons_zero, List.getElem_cons_succ]
      go_simp
    simp only [Act.put, List.setIfInBounds_toArray, List.set_cons_zero, List.set_cons_succ, List.getElem_toArray, List.getElem_cons_zero, List.getElem_cons_succ]
    have hFA2 : Fr (FP b M nvk) A A2 := (hf1'.mono (fun i h => h.elim)).trans hf2 (fun k h => .inl h)
    have hFA3 : Fr (fun k => FP b M nvk k ∨ k = W.heap.size) A A3 := (hFA2.mono (fun k h => .inl (.inl h))).trans hf3 (fun k h => .inl (.inr h))
    have hB3 : Bld A3 b M nv2 r.1 := hB2.fr hf3 (by omega) (by omega) (fun k hk e => by
      rcases hn2 k hk with h | h
      · exact hnN (by rw [← e]; exact h)
      · omega)
    have hI3 : BldI w A3 b M Dm nv #[.slice (some ⟨vb, vof, none⟩) vars.length vcap, trv, .bool nt, .int .i64 way] (.slice ro rows.length rcap) i W.heap.size (r.1, st.2.set v r.2) := by
      refine ⟨HI.out.fr.trans hFA3 (fun k h => ?_), hbx3, hN3, ⟨nv2, hB3, fun k hk => ?_, fun e => ?_⟩⟩
      · rcases h with h | h
        · rcases h with h | h | h
          · exact .inl (.inl h)
          · exact .inl (.inr (.inl h))
          · rcases hnk k h with h1 | h1
            · exact .inl (.inr (.inr h1))
            · exact .inr h1
        · exact .inr (by omega)
      · rcases hn2 k hk with h | h
        · exact hnk k h
        · exact .inr (by omega)
      · rcases hn2 _ e with h | h
        · exact hnN h
        · omega
    have hkp : KeepsLD A A3 := hFA3.keepsM (fun k hk => by
      rcases hk with hk | rfl
      · exact HBk.out.loopy k hk
      · exact ⟨_, HI.out.bN, rfl⟩)
    have HI3 := hd hI3
    have Hkp := hd hkp
    clear hI3 hkp hB3 hFA3 hFA2 hN3 hbx3 hf3 hA3 hN2 hbx2 hB2 hf2 hbx1 hB1 hrs1' hrs1 hf1 hf1' hrsA hvsA hDA
    simp only [Exit.inBlock]
    gi_wp2
    refine ⟨Hkp.out, ?_⟩
    show BldI ..
    rw [Hst2.out]
    exact HI3.out
  case done =>
    rintro D A hD hI hK
    rw [Hfin.out] at hI
    obtain ⟨hlen, hs6, hsx6⟩ := bldFold vars nt dn hd64 m i rows ns HB.out.two (vals sx) fin Hfin.out
    have hvl := vals_len hsx
    have hm6 : (vals sx).length * cnt m ≤ 6 * cnt m := Nat.mul_le_mul_right _ hvl
    simp only [cnt] at hcnt
    have hok : NodeOk fin.2 := ⟨hs6, fun x hx => by have := hsx6 x hx; omega⟩
    obtain ⟨n0, n1, n2, n3, n4, n5, hf6⟩ := list6 hs6
    obtain ⟨nvk, hBk, hnk, hnN⟩ := hI.bld
    have b0 : A.cell? ⟨w.heap.size, 0, none⟩ = some (.pointer (some ⟨b, 0, none⟩)) := hI.bx.b0.cell 0
    have hNA := hI.bN
    have c0 : A.cell? ⟨W.heap.size, 0, none⟩ = some (.int .i64 (n0 : Int)) := by rw [hNA.cell, hf6]; rfl
    have c1 : A.cell? ⟨W.heap.size, 1, none⟩ = some (.int .i64 (n1 : Int)) := by rw [hNA.cell, hf6]; rfl
    have c2 : A.cell? ⟨W.heap.size, 2, none⟩ = some (.int .i64 (n2 : Int)) := by rw [hNA.cell, hf6]; rfl
    have c3 : A.cell? ⟨W.heap.size, 3, none⟩ = some (.int .i64 (n3 : Int)) := by rw [hNA.cell, hf6]; rfl
    have c4 : A.cell? ⟨W.heap.size, 4, none⟩ = some (.int .i64 (n4 : Int)) := by rw [hNA.cell, hf6]; rfl
    have c5 : A.cell? ⟨W.heap.size, 5, none⟩ = some (.int .i64 (n5 : Int)) := by rw [hNA.cell, hf6]; rfl
    have hnv6 : nodeV fin.2 = .agg #[.int .i64 (n0 : Int), .int .i64 (n1 : Int), .int .i64 (n2 : Int), .int .i64 (n3 : Int), .int .i64 (n4 : Int), .int .i64 (n5 : Int)] := by rw [hf6]; rfl
    have Hnum := hd (number_any b M nvk fin.1 fin.2 A hBk hok (by omega))
    rw [hnv6] at Hnum
    have hDle : w.heap.size ≤ D := by
      have : Z.heap.size ≤ D := hD
      omega
    have HI := hd hI
    have HBk := hd hBk
    clear hI hBk hNA hf6 hnv6 hok hs6 hsx6 HI0 Hih a1' a4' a5' aV aD hlen
    gi_wp2_with (refine ⟨trivial, ?_⟩; gi_at_call 84; refine (callsIn_wide.2 Hnum.out).mono ?_; rintro e A1 ⟨rfl, nv2, hB2, hf2, hn2⟩)
    have hK1 := (Fr.keepsM hf2 HBk.out.loopy).same D _ hK rfl
    have hAs : w.heap.size ≤ A.heap.size := HI.out.fr.size
    refine ⟨by simp, .inl ⟨_, _, rfl, run_takeDeferred hK1, ?_⟩⟩
    refine ⟨_, results_tmp rfl _ _ _, rfl, nv2, hB2.bk (Bk.put (.deferred none) hDle hK1 rfl) hMl, ?_, fun k hk => ?_⟩
    · refine (HI.out.fr.trans hf2 (fun k h => ?_)).bk (Bk.put (.deferred none) hDle hK1 rfl) (Nat.le_refl _)
      rcases h with h | h | h
      · exact .inl (.inl h)
      · exact .inl (.inr (.inl h))
      · rcases hnk k h with h1 | h1
        · exact .inl (.inr (.inr h1))
        · exact .inr h1
    · rcases hn2 k hk with h | h
      · exact hnk k h
      · exact .inr (by omega)
end Go.Proofs.Ytkjfpdfkcfgfkaa

/- Contract of builder.build, the middle, where no row is left and the table is Not; and whole. -/
namespace Go.Proofs.Ytkjfpdfkcfgfkaa
open Go.RowKit Go.Maps Go.Shelf
attribute [local go_sem] Oper.semAt_some

set_option maxHeartbeats 3200000 in
set_option maxRecDepth 1000000 in
theorem build_goB (b M Dm : Nat) (vo : Option Addr) (vcap : Nat) (trv : Value) (way : Int) (vars : List Int) (dn : List Nat) (m i : Nat)
    (h8 : dn.length = 8) (h4 : vars.length ≤ 4) (hv : ∀ i, i < vars.length → 0 ≤ vars.getD i 0 ∧ vars.getD i 0 < 8) (hd64 : ∀ q, dn.getD q 0 < 64)
    (hi : i < vars.length) (ih : BuildOk b M Dm vo vcap trv true way vars dn m (i + 1)) (rows : List (List Int)) (ns : List (List Nat)) (nv : Value) (ro : Option Addr) (rcap : Nat) (w : World)
    (hrl : rows.length ≤ 60) (hrow : ∀ j, j < rows.length → (rows.getD j []).length = vars.length) (hne : rows = []) (hcnt : ns.length + cnt (m + 1) < 100000) (hB : Bld w b M nv ns) (hvs : IntsIn w (fun k => ¬ FP b M nv k) vo vars) (hrs : RowsIn w (fun k => ¬ FP b M nv k) ro rows) (hDm : Blk w Dm (domV dn) 76) :
    Calls Try.prog 74 #[.pointer (some ⟨b, 0, none⟩), .agg #[.slice vo vars.length vcap, trv, .bool true, .int .i64 way], .slice ro rows.length rcap, .int .i64 i, .pointer (some ⟨Dm, 0, none⟩)] w fun e w' =>
      e = .returned (.int .i64 ((bldTo vars true dn (m + 1) i rows ns).2 : Nat)) ∧ ∃ nv', Bld w' b M nv' (bldTo vars true dn (m + 1) i rows ns).1 ∧ Fr (FP b M nv) w w' ∧ (∀ k, nv'.ownBlock = some k → nv.ownBlock = some k ∨ w.heap.size ≤ k) := by
  have hmf : ∀ (fn : Fn) (first cap : Array Value) (w : World), (Instr.makeFunc fn first cap).run Try.prog w = .ok (.func fn first cap) w := fun _ _ _ _ => rfl
  obtain ⟨hv0, hv8⟩ := hv i hi
  obtain ⟨q, hq⟩ : ∃ q : Nat, vars.getD i 0 = (q : Int) := ⟨(vars.getD i 0).toNat, by omega⟩
  obtain ⟨vb, vof, hvo, hvbl, hvbN, hvc⟩ := hvs i hi
  subst hvo
  rw [hq] at hv0 hv8 hvc
  have hq8 : q < 8 := by omega
  have hDN : ¬ FP b M nv Dm := hB.other hDm (by decide) (by decide)
  obtain ⟨sx, hsxe⟩ : ∃ sx, dn.getD q 0 = sx := ⟨_, rfl⟩
  have hsx := hd64 q
  rw [hsxe] at hsx
  obtain ⟨fin, hfin⟩ : ∃ fin, (vals sx).foldl (bldStep (bldTo vars true dn m (i + 1)) rows i) (ns, zero6) = fin := ⟨_, rfl⟩
  have hbt : bldTo vars true dn (m + 1) i rows ns = numberTo fin.1 fin.2 := by
    have hne' : (rows.isEmpty && !true) = false := by simp
    rw [bldTo, hne', hq, Int.toNat_natCast, hsxe, hfin]
    simp
  rw [hbt]
  have hg1 : ((rows.length : Int) == 0) = true := by rw [hne]; rfl
  have Hne := hd hne
  clear hne
  have hin0 : ((i : Int) == (vars.length : Int)) = false := by simp; omega
  obtain ⟨W, hW⟩ : ∃ W, W = boxedB w b #[.slice (some ⟨vb, vof, none⟩) vars.length vcap, trv, .bool true, .int .i64 way] (.slice ro rows.length rcap) i Dm := ⟨_, rfl⟩
  have hfW : Nw w W := by rw [hW]; exact boxedB_nw ..
  have hbx : BBox W w.heap.size b #[.slice (some ⟨vb, vof, none⟩) vars.length vcap, trv, .bool true, .int .i64 way] (.slice ro rows.length rcap) i Dm := by rw [hW]; exact boxedB_box ..
  have hsW : W.heap.size = w.heap.size + 5 := by rw [hW]; simp [boxedB]
  have a1 : W.cell? ⟨w.heap.size + 1, 0, none⟩ = some (.slice (some ⟨vb, vof, none⟩) vars.length vcap) := hbx.b1.cell 0
  have a2 : W.cell? ⟨w.heap.size + 1, 2, none⟩ = some (.bool true) := hbx.b1.cell 2
  have a3 : W.cell? ⟨w.heap.size + 1 + 1, 0, none⟩ = some (.slice ro rows.length rcap) := hbx.b2.cell 0
  have a4 : W.cell? ⟨w.heap.size + 1 + 1 + 1, 0, none⟩ = some (.int .i64 (i : Int)) := hbx.b3.cell 0
  have HW := hd hW
  have Hbx := hd hbx
  have HsW := hd hsW
  have HB := hd hB
  have Hvs := hd hvs
  have Hrs := hd hrs
  have HDm := hd hDm
  have Hfin := hd hfin
  have Hsxe := hd hsxe
  have Hq := hd hq
  have Hih := hd ih
  clear hW hbx hsW hB hvs hrs hDm hfin hsxe hq hbt ih
  refine (callsIn_wide (n := 9)).1 ?_
  refine callsIn_of_wp_marks Try.func74 rfl trivial ?_ rfl
  simp only [Try.ntmps74, List.size_toArray, List.length_cons, List.length_nil, Nat.reduceAdd, Nat.reduceSub, Array.replicate_succ, Array.replicate_zero, List.push_toArray, List.append_toArray, List.nil_append, List.cons_append]
  gi_upto_region 1 with fail
  rw [show ((((w.alloc (.cells #[.pointer (some ⟨b, 0, none⟩)] 124)).alloc (.cells #[.slice (some ⟨vb, vof, none⟩) vars.length vcap, trv, .bool true, .int .i64 way] 58)).alloc (.cells #[.slice ro rows.length rcap] 25)).alloc (.cells #[.int .i64 (i : Int)] 3)).alloc (.cells #[.pointer (some ⟨Dm, 0, none⟩)] 127) = W from HW.out.symm]
  clear HW
  gi_upto_region 7 with fail
  gi_upto_region 8 with fail
  obtain ⟨Z, hZ⟩ : ∃ Z, Z = W.alloc (.cells (nodeC zero6).toArray 154) := ⟨_, rfl⟩
  have hfZ : Nw W Z := by rw [hZ]; exact (Fr.refl _ W).alloc _
  have hbZ : Blk Z W.heap.size (nodeC zero6).toArray 154 := by rw [hZ]; exact Blk.new _ _ _
  rw [show W.alloc (Obj.cells #[Value.int .i64 0, .int .i64 0, .int .i64 0, .int .i64 0, .int .i64 0, .int .i64 0] 154) = Z from hZ.symm]
  have hwZ : Nw w Z := hfW.trans hfZ (fun i h => h.elim)
  have hMl : M < w.heap.size := HB.out.lt (.inr (.inl rfl))
  have hbl : b < w.heap.size := HB.out.lt (.inl rfl)
  have hI0 : BldI w Z b M Dm nv #[.slice (some ⟨vb, vof, none⟩) vars.length vcap, trv, .bool true, .int .i64 way] (.slice ro rows.length rcap) i W.heap.size (ns, zero6) :=
    ⟨hwZ.mono (fun i h => h.elim), Hbx.out.fr hfZ (fun k _ _ x => x), hbZ, ⟨nv, HB.out.nw hwZ, fun k hk => .inl hk, fun e => by have := HB.out.lt (.inr (.inr e)); have := HsW.out; omega⟩⟩
  have a1' : Z.cell? ⟨w.heap.size + 1, 0, none⟩ = some (.slice (some ⟨vb, vof, none⟩) vars.length vcap) := hI0.bx.b1.cell 0
  have a4' : Z.cell? ⟨w.heap.size + 1 + 1 + 1, 0, none⟩ = some (.int .i64 (i : Int)) := hI0.bx.b3.cell 0
  have a5' : Z.cell? ⟨w.heap.size + 1 + 1 + 1 + 1, 0, none⟩ = some (.pointer (some ⟨Dm, 0, none⟩)) := hI0.bx.b4.cell 0
  have aV : Z.cell? ⟨vb, vof + i, none⟩ = some (.int .i64 (q : Int)) := (hwZ.cell hvbl (fun x => x)).trans hvc
  have aD : Z.cell? ⟨Dm, q, none⟩ = some (.int .u8 (sx : Int)) := by rw [← Hsxe.out]; exact ((HDm.out.nw hwZ).cell q).trans (domV_get dn q (by omega))
  have hszZ : w.heap.size + 6 ≤ Z.heap.size := by have := hbZ.lt; have := HsW.out; omega
  have HI0 := hd hI0
  have hiV : (i : Int) < (vars.length : Int) := by omega
  clear hI0 hZ hbZ a1 a2 a3 a4 hvc
  refine wpIn_wide.2 ?_
  go_still (by kernel_rfl)
  go_wp2
  gi_wp2_with fail
  show Code.wpIn _ _ _ _ _ _ Z.drew
  have hszZd : Z.drew.heap.size = Z.heap.size := rfl
  refine wp_each (show sx < 256 by omega) rfl (by simp) (fun pre A => BldI w A b M Dm nv #[.slice (some ⟨vb, vof, none⟩) vars.length vcap, trv, .bool true, .int .i64 way] (.slice ro rows.length rcap) i W.heap.size (pre.foldl (bldStep (bldTo vars true dn m (i + 1)) rows i) (ns, zero6)))
    (fun pre A B h hb => h.bk hb (by rw [hszZd]; omega) (by rw [hszZd]; omega)) HI0.out.drew ?body ?done
  case body =>
    rintro l pre v A hpre hI
    have hmem : v ∈ vals sx := hpre.subset (List.mem_append_right pre (List.mem_singleton.2 rfl))
    have hv6 : v < 6 := vals_lt6 hsx hmem
    have hplen : pre.length + 1 ≤ 6 := by
      have h1 := hpre.length_le
      have h2 := vals_len hsx
      simp at h1
      omega
    obtain ⟨st, hst⟩ : ∃ st, pre.foldl (bldStep (bldTo vars true dn m (i + 1)) rows i) (ns, zero6) = st := ⟨_, rfl⟩
    rw [hst] at hI
    have hstep : (pre ++ [v]).foldl (bldStep (bldTo vars true dn m (i + 1)) rows i) (ns, zero6) = bldStep (bldTo vars true dn m (i + 1)) rows i st v := by rw [List.foldl_append, hst]; rfl
    rw [hstep]
    obtain ⟨hlen, hs6, hsx6⟩ := bldFold vars true dn hd64 m i rows ns HB.out.two pre st hst
    have hcm : st.1.length + cnt m < 100000 := by
      have h1 : pre.length * cnt m ≤ 5 * cnt m := Nat.mul_le_mul_right _ (by omega)
      simp only [cnt] at hcnt
      omega
    obtain ⟨nvk, hBk, hnk, hnN⟩ := hI.bld
    obtain ⟨r, hre⟩ : ∃ r, bldTo vars true dn m (i + 1) (bearRows rows i v) st.1 = r := ⟨_, rfl⟩
    have hrl2 := bldTo_len vars true dn hd64 m (i + 1) (bearRows rows i v) st.1 (by have := HB.out.two; omega)
    rw [hre] at hrl2
    obtain ⟨st', hst'⟩ : ∃ st', bldStep (bldTo vars true dn m (i + 1)) rows i st v = st' := ⟨_, rfl⟩
    have hst2 : st' = (r.1, st.2.set v r.2) := by rw [← hst']; unfold bldStep; rw [hre]
    rw [hst']
    have Hst2 := hd hst2
    clear hst hstep hst' hst2 hpre hmem a1' a4' a5' aV aD HI0
    have HI := hd hI
    have HBk := hd hBk
    have Hre := hd hre
    clear hI hBk hre
    gi_wp2_with fail
    have hK0 : BBox A.drew w.heap.size b #[.slice (some ⟨vb, vof, none⟩) vars.length vcap, trv, .bool true, .int .i64 way] (.slice ro rows.length rcap) i Dm := ⟨HI.out.bx.b0, HI.out.bx.b1, HI.out.bx.b2, HI.out.bx.b3, HI.out.bx.b4⟩
    refine wpIn_H (S := fun w'' => BBox w'' w.heap.size b #[.slice (some ⟨vb, vof, none⟩) vars.length vcap, trv, .bool true, .int .i64 way] (.slice ro rows.length rcap) i Dm) (by kernel_rfl) (fun a w h => h) ?_
    refine wpAnyH_take (i := 0) (v := .int .i64 (v : Int)) rfl (by kernel_rfl) (by kernel_rfl) (by kernel_rfl) (fun _ _ _ h => h) (.inl ⟨by kernel_rfl, fun w'' hS => by kernel_rfl⟩) hK0 ?_
    refine wpAnyH_take (i := 1) (v := .pointer (some ⟨b, 0, none⟩)) rfl (by kernel_rfl) (by kernel_rfl) (by kernel_rfl) (fun _ _ _ h => h) (.inl ⟨by kernel_rfl, fun w'' hS => ?_⟩) hK0 ?_
    · have q0 : w''.cell? ⟨w.heap.size, 0, none⟩ = some (.pointer (some ⟨b, 0, none⟩)) := hS.b0.cell 0
      clear hK0 hS hg1 hin0 hcnt hv0 hv8 hcm hlen hrl2 hplen hnk hnN hrow hv hd64 hmf
      simp only [Act.put, List.setIfInBounds_toArray, List.set_cons_zero, List.set_cons_succ, List.getElem_toArray, List.getElem_cons_zero, List.getElem_cons_succ]
      go_simp
    refine wpAnyH_take (i := 2) (v := .agg #[.slice (some ⟨vb, vof, none⟩) vars.length vcap, trv, .bool true, .int .i64 way]) rfl (by kernel_rfl) (by kernel_rfl) (by kernel_rfl) (fun _ _ _ h => h) (.inl ⟨by kernel_rfl, fun w'' hS => ?_⟩) hK0 ?_
    · have q0 : w''.cell? ⟨w.heap.size + 1, 0, none⟩ = some (.slice (some ⟨vb, vof, none⟩) vars.length vcap) := hS.b1.cell 0
      have q1 : w''.cell? ⟨w.heap.size + 1, 1, none⟩ = some trv := hS.b1.cell 1
      have q2 : w''.cell? ⟨w.heap.size + 1, 2, none⟩ = some (.bool true) := hS.b1.cell 2
      have q3 : w''.cell? ⟨w.heap.size + 1, 3, none⟩ = some (.int .i64 way) := hS.b1.cell 3
      clear hK0 hS hg1 hin0 hcnt hv0 hv8 hcm hlen hrl2 hplen hnk hnN hrow hv hd64 hmf
      simp only [Act.put, List.setIfInBounds_toArray, List.set_cons_zero, List.set_cons_succ, List.getElem_toArray, List.getElem_cons_zero, List.getElem_cons_succ]
      go_simp
    refine wpAnyH_take (i := 3) (v := .slice ro rows.length rcap) rfl (by kernel_rfl) (by kernel_rfl) (by kernel_rfl) (fun _ _ _ h => h) (.inl ⟨by kernel_rfl, fun w'' hS => ?_⟩) hK0 ?_
    · have q0 : w''.cell? ⟨w.heap.size + 1 + 1, 0, none⟩ = some (.slice ro rows.length rcap) := hS.b2.cell 0
      clear hK0 hS hg1 hin0 hcnt hv0 hv8 hcm hlen hrl2 hplen hnk hnN hrow hv hd64 hmf
      simp only [Act.put, List.setIfInBounds_toArray, List.set_cons_zero, List.set_cons_succ, List.getElem_toArray, List.getElem_cons_zero, List.getElem_cons_succ]
      go_simp
    refine wpAnyH_take (i := 4) (v := .int .i64 (i : Int)) rfl (by kernel_rfl) (by kernel_rfl) (by kernel_rfl) (fun _ _ _ h => h) (.inl ⟨by kernel_rfl, fun w'' hS => ?_⟩) hK0 ?_
    · have q0 : w''.cell? ⟨w.heap.size + 1 + 1 + 1, 0, none⟩ = some (.int .i64 (i : Int)) := hS.b3.cell 0
      clear hK0 hS hg1 hin0 hcnt hv0 hv8 hcm hlen hrl2 hplen hnk hnN hrow hv hd64 hmf
      simp only [Act.put, List.setIfInBounds_toArray, List.set_cons_zero, List.set_cons_succ, List.getElem_toArray, List.getElem_cons_zero, List.getElem_cons_succ]
      go_simp
    refine wpAnyH_take (i := 5) (v := .int .i64 (v : Int)) rfl (by kernel_rfl) (by kernel_rfl) (by kernel_rfl) (fun _ _ _ h => h) (.inl ⟨by kernel_rfl, fun w'' hS => by kernel_rfl⟩) hK0 ?_
    refine wpAnyH_take (i := 7) (v := .int .i64 (i : Int)) rfl (by kernel_rfl) (by kernel_rfl) (by kernel_rfl) (fun _ _ _ h => h) (.inl ⟨by kernel_rfl, fun w'' hS => ?_⟩) hK0 ?_
    · have q0 : w''.cell? ⟨w.heap.size + 1 + 1 + 1, 0, none⟩ = some (.int .i64 (i : Int)) := hS.b3.cell 0
      clear hK0 hS hg1 hin0 hcnt hv0 hv8 hcm hlen hrl2 hplen hnk hnN hrow hv hd64 hmf
      simp only [Act.put, List.setIfInBounds_toArray, List.set_cons_zero, List.set_cons_succ, List.getElem_toArray, List.getElem_cons_zero, List.getElem_cons_succ]
      go_simp
    refine wpAnyH_take (i := 8) (v := .int .i64 ((i + 1 : Nat) : Int)) rfl (by kernel_rfl) (by kernel_rfl) (by kernel_rfl) (fun _ _ _ h => h) (.inl ⟨by kernel_rfl, fun w'' hS => ?_⟩) hK0 ?_
    · clear hK0 hS hg1 hin0 hcnt hv0 hv8 hcm hlen hrl2 hplen hnk hnN hrow hv hd64 hmf
      simp only [Act.put, List.setIfInBounds_toArray, List.set_cons_zero, List.set_cons_succ, List.getElem_toArray, List.getElem_cons_zero, List.getElem_cons_succ]
      go_simp
      rw [IntKind.wrap_i64]
      omega
    refine wpAnyH_take (i := 9) (v := .pointer (some ⟨Dm, 0, none⟩)) rfl (by kernel_rfl) (by kernel_rfl) (by kernel_rfl) (fun _ _ _ h => h) (.inl ⟨by kernel_rfl, fun w'' hS => ?_⟩) hK0 ?_
    · have q0 : w''.cell? ⟨w.heap.size + 1 + 1 + 1 + 1, 0, none⟩ = some (.pointer (some ⟨Dm, 0, none⟩)) := hS.b4.cell 0
      clear hK0 hS hg1 hin0 hcnt hv0 hv8 hcm hlen hrl2 hplen hnk hnN hrow hv hd64 hmf
      simp only [Act.put, List.setIfInBounds_toArray, List.set_cons_zero, List.set_cons_succ, List.getElem_toArray, List.getElem_cons_zero, List.getElem_cons_succ]
      go_simp
    refine wpAnyH_take (i := 11) (v := .pointer (some ⟨W.heap.size, 0, none⟩)) rfl (by kernel_rfl) (by kernel_rfl) (by kernel_rfl) (fun _ _ _ h => h) (.inl ⟨by kernel_rfl, fun w'' hS => by kernel_rfl⟩) hK0 ?_
    refine wpAnyH_all (rs := [6]) (by kernel_rfl) (by simp) (fun j hj => ?_)
    obtain rfl : j = 6 := by simpa using hj
    have hNstep : ∀ k, k < w.heap.size → ¬ FP b M nv k → ¬ FP b M nv k ∧ ¬ FP b M nvk k := fun k hk hn => ⟨hn, fun h => by
      rcases h with h | h | h
      · exact hn (.inl h)
      · exact hn (.inr (.inl h))
      · rcases hnk k h with h1 | h1
        · exact hn (.inr (.inr h1))
        · omega⟩
    have hrsA : RowsIn A (fun k => ¬ FP b M nvk k) ro rows := Hrs.out.fr HI.out.fr hNstep
    have hvsA : IntsIn A (fun k => ¬ FP b M nvk k) (some ⟨vb, vof, none⟩) vars := Hvs.out.fr HI.out.fr hNstep
    have hDA : Blk A Dm (domV dn) 76 := HDm.out.fr HI.out.fr hDN
    refine op_enter (f := 83) (args := #[.slice ro rows.length rcap, .int .i64 (i : Int), .int .i64 (v : Int)]) (w' := A.drew) rfl (by kernel_rfl) (by kernel_rfl) ?_
    refine (bearing_any ro rcap rows i v A.drew hrl (fun k => ¬ FP b M nvk k) (hrsA.fr ((Fr.refl (fun _ => False) A).drew) (fun k _ hk => ⟨fun x => x, hk⟩)) (fun j hj => by rw [hrow j hj]; exact ⟨hi, h4⟩)).mono ?_
    rintro e A1 ⟨ro', rc', rfl, hf1, hrs1⟩
    have hf1' : Nw A A1 := hf1.of_drew
    have hbx1 : BBox A1 w.heap.size b #[.slice (some ⟨vb, vof, none⟩) vars.length vcap, trv, .bool true, .int .i64 way] (.slice ro rows.length rcap) i Dm := HI.out.bx.fr hf1' (fun k _ _ x => x)
    refine ⟨_, rfl, hbx1, ?_⟩
    refine wpAnyH_all (rs := [10]) (by kernel_rfl) (by simp) (fun j hj => ?_)
    obtain rfl : j = 10 := by simpa using hj
    have hB1 := HBk.out.nw hf1'
    have hrs1' : RowsIn A1 (fun k => ¬ FP b M nvk k) ro' (bearRows rows i v) := hrs1.fr (Fr.refl (fun _ => False) A1) (fun k _ hk => ⟨fun x => x, by
      rcases hk with h | h
      · exact h
      · intro hF
        have := HBk.out.lt hF
        have h' : A.heap.size ≤ k := h
        omega⟩)
    have hbl1 : (bearRows rows i v).length ≤ 60 := Nat.le_trans (List.length_filter_le _ _) hrl
    have hbrow : ∀ j, j < (bearRows rows i v).length → ((bearRows rows i v).getD j []).length = vars.length := fun j hj => by
      have hmem : (bearRows rows i v)[j] ∈ rows := (List.mem_filter.1 (List.getElem_mem hj)).1
      obtain ⟨t, ht, he⟩ := List.getElem_of_mem hmem
      have h1 := hrow t ht
      simp only [List.getD, List.getElem?_eq_getElem ht, Option.getD_some, he] at h1
      simpa [List.getD, hj] using h1
    refine op_enter (f := 74) (args := #[.pointer (some ⟨b, 0, none⟩), .agg #[.slice (some ⟨vb, vof, none⟩) vars.length vcap, trv, .bool true, .int .i64 way], .slice ro' (bearRows rows i v).length rc', .int .i64 ((i + 1 : Nat) : Int), .pointer (some ⟨Dm, 0, none⟩)]) (w' := A1) rfl (by kernel_rfl) (by kernel_rfl) ?_
    refine (Hih.out (bearRows rows i v) st.1 nvk ro' rc' A1 hbl1 hbrow hcm hB1 (hvsA.fr hf1' (fun k _ hk => ⟨fun x => x, hk⟩)) hrs1' (hDA.nw hf1')).mono ?_
    rw [Hre.out]
    rintro e A2 ⟨rfl, nv2, hB2, hf2, hn2⟩
    have hs1 := hf1'.size
    have hAs : W.heap.size < A.heap.size := HI.out.bN.lt
    have hWs := HsW.out
    have hFPb : ∀ k, FP b M nvk k → k < A.heap.size := fun k hk => HBk.out.lt hk
    have hbxN : ∀ k, w.heap.size ≤ k → k ≤ w.heap.size + 4 → ¬ FP b M nvk k := fun k h1 h2 => by
      have hk : k = w.heap.size ∨ k = w.heap.size + 1 ∨ k = w.heap.size + 1 + 1 ∨ k = w.heap.size + 1 + 1 + 1 ∨ k = w.heap.size + 1 + 1 + 1 + 1 := by omega
      rcases hk with rfl | rfl | rfl | rfl | rfl
      · exact HBk.out.other HI.out.bx.b0 (by decide) (by decide)
      · exact HBk.out.other HI.out.bx.b1 (by decide) (by decide)
      · exact HBk.out.other HI.out.bx.b2 (by decide) (by decide)
      · exact HBk.out.other HI.out.bx.b3 (by decide) (by decide)
      · exact HBk.out.other HI.out.bx.b4 (by decide) (by decide)
    have hNnF : ¬ FP b M nvk W.heap.size := by
      rintro (h | h | h)
      · omega
      · omega
      · exact hnN h
    have hbx2 : BBox A2 w.heap.size b #[.slice (some ⟨vb, vof, none⟩) vars.length vcap, trv, .bool true, .int .i64 way] (.slice ro rows.length rcap) i Dm := hbx1.fr hf2 hbxN
    have hN2 : Blk A2 W.heap.size (nodeC st.2).toArray 154 := (HI.out.bN.nw hf1').fr hf2 hNnF
    refine ⟨_, rfl, hbx2, ?_⟩
    refine wpAnyH_all (rs := [12]) (by kernel_rfl) (by simp) (fun j hj => ?_)
    obtain rfl : j = 12 := by simpa using hj
    refine op_value (v := .pointer (some ⟨W.heap.size, v, none⟩)) (w' := A2) rfl (by kernel_rfl) ?_ ⟨hbx2, ?_⟩
    · have hv0' : (0 : Int) ≤ (v : Int) := by omega
      have hv6' : (v : Int) < 6 := by omega
      clear hK0 hg1 hin0 hcnt hv0 hv8 hcm hlen hrl2 hplen hnk hnN hrow hv hd64 hmf hrsA hvsA hDA hf1 hrs1 hf1' hbx1 hB1 hrs1' hbl1 hbrow hB2 hf2 hn2 hs1 hAs hWs hFPb hbxN hNnF hbx2 hN2 hNstep
      simp only [Act.put, List.setIfInBounds_toArray, List.set_cons_zero, List.set_cons_succ, List.getElem_toArray, List.getElem_cons_zero, List.getElem_cons_succ]
      go_simp
    refine wpAnyH_all (rs := [13]) (by kernel_rfl) (by simp) (fun j hj => ?_)
    obtain rfl : j = 13 := by simpa using hj
    have hvl : v < (nodeC st.2).toArray.size := by simp [nodeC, hs6]; omega
    obtain ⟨ov, hcN⟩ : ∃ ov, A2.cell? ⟨W.heap.size, v, none⟩ = some ov := ⟨_, (hN2.cell v).trans (Array.getElem?_eq_getElem hvl)⟩
    have hfN := hN2.free v
    obtain ⟨A3, hA3⟩ : ∃ A3, A3 = A2.setCell ⟨W.heap.size, v, none⟩ (.int .i64 (r.2 : Int)) := ⟨_, rfl⟩
    have hf3 : Fr (fun k => k = W.heap.size) A2 A3 := by rw [hA3]; exact (Fr.refl _ A2).setCell _ _ (.inl rfl)
    have hbx3 : BBox A3 w.heap.size b #[.slice (some ⟨vb, vof, none⟩) vars.length vcap, trv, .bool true, .int .i64 way] (.slice ro rows.length rcap) i Dm := hbx2.fr hf3 (fun k h1 h2 e => by omega)
    have hN3 : Blk A3 W.heap.size (nodeC (st.2.set v r.2)).toArray 154 := by
      rw [hA3]
      have h5 := hN2.set v (.int .i64 (r.2 : Int))
      have e5 : (nodeC st.2).toArray.setIfInBounds v (.int .i64 (r.2 : Int)) = (nodeC (st.2.set v r.2)).toArray := by simp [nodeC, List.map_set]
      rw [e5] at h5
      exact h5
    refine op_skip (w' := A3) rfl (by kernel_rfl) ?_ ⟨hbx3, wpAnyH_done (by kernel_rfl) ?_ _⟩
    · rw [hA3]
      clear hK0 hg1 hin0 hcnt hv0 hv8 hcm hlen hrl2 hplen hnk hnN hrow hv hd64 hmf hrsA hvsA hDA hf1 hrs1 hf1' hbx1 hB1 hrs1' hbl1 hbrow hB2 hf2 hn2 hs1 hAs hWs hFPb hbxN hNnF hbx2 hN2 hNstep hA3 hf3 hbx3 hN3 hvl hs6 hsx6
      simp only [Act.put, List.setIfInBounds_toArray, List.set_cons_zero, List.set_cons_succ, List.getElem_toArray, List.getElem_cons_zero, List.getElem_cons_succ]
      go_simp
    simp only [Act.put, List.setIfInBounds_toArray, List.set_cons_zero, List.set_cons_succ, List.getElem_toArray, List.getElem_cons_zero, List.getElem_cons_succ]
    have hFA2 : Fr (FP b M nvk) A A2 := (hf1'.mono (fun i h => h.elim)).trans hf2 (fun k h => .inl h)
    have hFA3 : Fr (fun k => FP b M nvk k ∨ k = W.heap.size) A A3 := (hFA2.mono (fun k h => .inl (.inl h))).trans hf3 (fun k h => .inl (.inr h))
    have hB3 : Bld A3 b M nv2 r.1 := hB2.fr hf3 (by omega) (by omega) (fun k hk e => by
      rcases hn2 k hk with h | h
      · exact hnN (by rw [← e]; exact h)
      · omega)
    have hI3 : BldI w A3 b M Dm nv #[.slice (some ⟨vb, vof, none⟩) vars.length vcap, trv, .bool true, .int .i64 way] (.slice ro rows.length rcap) i W.heap.size (r.1, st.2.set v r.2) := by
      refine ⟨HI.out.fr.trans hFA3 (fun k h => ?_), hbx3, hN3, ⟨nv2, hB3, fun k hk => ?_, fun e => ?_⟩⟩
      · rcases h with h | h
        · rcases h with h | h | h
          · exact .inl (.inl h)
          · exact .inl (.inr (.inl h))
          · rcases hnk k h with h1 | h1
            · exact .inl (.inr (.inr h1))
            · exact .inr h1
        · exact .inr (by omega)
      · rcases hn2 k hk with h | h
        · exact hnk k h
        · exact .inr (by omega)
      · rcases hn2 _ e with h | h
        · exact hnN h
        · omega
    have hkp : KeepsLD A A3 := hFA3.keepsM (fun k hk => by
      rcases hk with hk | rfl
      · exact HBk.out.loopy k hk
      · exact ⟨_, HI.out.bN, rfl⟩)
    have HI3 := hd hI3
    have Hkp := hd hkp
    clear hI3 hkp hB3 hFA3 hFA2 hN3 hbx3 hf3 hA3 hN2 hbx2 hB2 hf2 hbx1 hB1 hrs1' hrs1 hf1 hf1' hrsA hvsA hDA
    simp only [Exit.inBlock]
    gi_wp2
    refine ⟨Hkp.out, ?_⟩
    show BldI ..
    rw [Hst2.out]
    exact HI3.out
  case done =>
    rintro D A hD hI hK
    rw [Hfin.out] at hI
    obtain ⟨hlen, hs6, hsx6⟩ := bldFold vars true dn hd64 m i rows ns HB.out.two (vals sx) fin Hfin.out
    have hvl := vals_len hsx
    have hm6 : (vals sx).length * cnt m ≤ 6 * cnt m := Nat.mul_le_mul_right _ hvl
    simp only [cnt] at hcnt
    have hok : NodeOk fin.2 := ⟨hs6, fun x hx => by have := hsx6 x hx; omega⟩
    obtain ⟨n0, n1, n2, n3, n4, n5, hf6⟩ := list6 hs6
    obtain ⟨nvk, hBk, hnk, hnN⟩ := hI.bld
    have b0 : A.cell? ⟨w.heap.size, 0, none⟩ = some (.pointer (some ⟨b, 0, none⟩)) := hI.bx.b0.cell 0
    have hNA := hI.bN
    have c0 : A.cell? ⟨W.heap.size, 0, none⟩ = some (.int .i64 (n0 : Int)) := by rw [hNA.cell, hf6]; rfl
    have c1 : A.cell? ⟨W.heap.size, 1, none⟩ = some (.int .i64 (n1 : Int)) := by rw [hNA.cell, hf6]; rfl
    have c2 : A.cell? ⟨W.heap.size, 2, none⟩ = some (.int .i64 (n2 : Int)) := by rw [hNA.cell, hf6]; rfl
    have c3 : A.cell? ⟨W.heap.size, 3, none⟩ = some (.int .i64 (n3 : Int)) := by rw [hNA.cell, hf6]; rfl
    have c4 : A.cell? ⟨W.heap.size, 4, none⟩ = some (.int .i64 (n4 : Int)) := by rw [hNA.cell, hf6]; rfl
    have c5 : A.cell? ⟨W.heap.size, 5, none⟩ = some (.int .i64 (n5 : Int)) := by rw [hNA.cell, hf6]; rfl
    have hnv6 : nodeV fin.2 = .agg #[.int .i64 (n0 : Int), .int .i64 (n1 : Int), .int .i64 (n2 : Int), .int .i64 (n3 : Int), .int .i64 (n4 : Int), .int .i64 (n5 : Int)] := by rw [hf6]; rfl
    have Hnum := hd (number_any b M nvk fin.1 fin.2 A hBk hok (by omega))
    rw [hnv6] at Hnum
    have hDle : w.heap.size ≤ D := by
      have : Z.heap.size ≤ D := hD
      omega
    have HI := hd hI
    have HBk := hd hBk
    clear hI hBk hNA hf6 hnv6 hok hs6 hsx6 HI0 Hih a1' a4' a5' aV aD hlen
    gi_wp2_with (refine ⟨trivial, ?_⟩; gi_at_call 84; refine (callsIn_wide.2 Hnum.out).mono ?_; rintro e A1 ⟨rfl, nv2, hB2, hf2, hn2⟩)
    have hK1 := (Fr.keepsM hf2 HBk.out.loopy).same D _ hK rfl
    have hAs : w.heap.size ≤ A.heap.size := HI.out.fr.size
    refine ⟨by simp, .inl ⟨_, _, rfl, run_takeDeferred hK1, ?_⟩⟩
    refine ⟨_, results_tmp rfl _ _ _, rfl, nv2, hB2.bk (Bk.put (.deferred none) hDle hK1 rfl) hMl, ?_, fun k hk => ?_⟩
    · refine (HI.out.fr.trans hf2 (fun k h => ?_)).bk (Bk.put (.deferred none) hDle hK1 rfl) (Nat.le_refl _)
      rcases h with h | h | h
      · exact .inl (.inl h)
      · exact .inl (.inr (.inl h))
      · rcases hnk k h with h1 | h1
        · exact .inl (.inr (.inr h1))
        · exact .inr h1
    · rcases hn2 k hk with h | h
      · exact hnk k h
      · exact .inr (by omega)

/-- build from any entry on. -/
theorem build_any (b M Dm : Nat) (vo : Option Addr) (vcap : Nat) (trv : Value) (nt : Bool) (way : Int) (vars : List Int) (dn : List Nat) (h8 : dn.length = 8) (h4 : vars.length ≤ 4) (hv : ∀ i, i < vars.length → 0 ≤ vars.getD i 0 ∧ vars.getD i 0 < 8) (hd64 : ∀ q, dn.getD q 0 < 64) :
    ∀ m i, i + m = vars.length → BuildOk b M Dm vo vcap trv nt way vars dn m i
  | 0, i, hm, rows, ns, nv, ro, rcap, w, hrl, _, _, hB, _, _, _ => by
    obtain rfl : i = vars.length := by omega
    refine (build_end b Dm vars.length vars.length vo ro vcap rcap trv nt way rows.length w h4 hrl (.inr rfl)).mono ?_
    rintro e w' ⟨rfl, hf⟩
    have e0 : bldTo vars nt dn 0 vars.length rows ns = (ns, if rows.length = 0 ∧ nt = false then 0 else if nt = true ∧ rows.length ≠ 0 then 0 else 1) := by
      unfold bldTo
      cases rows <;> cases nt <;> simp
    rw [e0]
    exact ⟨by split <;> first | rfl | (split <;> rfl), nv, hB.nw hf, hf.mono (fun i h => h.elim), fun k hk => .inl hk⟩
  | m + 1, i, hm, rows, ns, nv, ro, rcap, w, hrl, hrow, hcnt, hB, hvs, hrs, hDm => by
    have ih := build_any b M Dm vo vcap trv nt way vars dn h8 h4 hv hd64 m (i + 1) (by omega)
    by_cases hz : rows = []
    · cases hnt : nt with
      | false =>
        have hlen : rows.length = 0 := by rw [hz]; rfl
        refine (build_end b Dm i vars.length vo ro vcap rcap trv false way rows.length w h4 hrl (.inl ⟨hlen, rfl⟩)).mono ?_
        rintro e w' ⟨rfl, hf⟩
        have e0 : bldTo vars false dn (m + 1) i rows ns = (ns, 0) := by
          rw [bldTo, hz]
          rfl
        rw [e0, if_pos ⟨hlen, rfl⟩]
        exact ⟨rfl, nv, hB.nw hf, hf.mono (fun i h => h.elim), fun k hk => .inl hk⟩
      | true =>
        subst hnt
        exact build_goB b M Dm vo vcap trv way vars dn m i h8 h4 hv hd64 (by omega) ih rows ns nv ro rcap w hrl hrow hz hcnt hB hvs hrs hDm
    · exact build_goA b M Dm vo vcap trv nt way vars dn m i h8 h4 hv hd64 (by omega) ih rows ns nv ro rcap w hrl hrow hz hcnt hB hvs hrs hDm
end Go.Proofs.Ytkjfpdfkcfgfkaa

/- Contract of newDiagram. -/
namespace Go.Proofs.Ytkjfpdfkcfgfkaa
open Go.RowKit Go.Maps

/-- A diagram: its variables, its nodes, its root. -/
structure DAt (w : World) (G g cap : Nat) (nv : Value) (vars : List Int) (ns : List (List Nat)) (root : Nat) : Prop where
  blk : Blk w G #[.slice (some ⟨g, 0, none⟩) vars.length cap, nv, .int .i64 (root : Int)] 136
  rv : Row w (.slice (some ⟨g, 0, none⟩) vars.length cap) 3 (vars.map (Value.int .i64))
  row : w.ownsRow 0 154 6 nv ns.length (ns.flatMap nodeC)
  ok : ∀ n ∈ ns, NodeOk n
  two : 2 ≤ ns.length

set_option maxHeartbeats 3200000 in
set_option maxRecDepth 1000000 in
theorem newDiagram_any (vb vof : Nat) (ro : Option Addr) (vcap rcap : Nat) (vars : List Int) (rows : List (List Int)) (nt : Bool) (way : Int) (dn : List Nat) (w : World) (h8 : dn.length = 8) (hv0 : 0 < vars.length) (h4 : vars.length ≤ 4)
    (hv : ∀ i, i < vars.length → 0 ≤ vars.getD i 0 ∧ vars.getD i 0 < 8) (hd64 : ∀ q, dn.getD q 0 < 64) (hrl : rows.length ≤ 60) (hrow : ∀ j, j < rows.length → (rows.getD j []).length = vars.length)
    (hvs : IntsAt w (some ⟨vb, vof, none⟩) vars) (hrs : RowsAt w ro rows) :
    Calls Try.prog 63 #[.agg #[.slice (some ⟨vb, vof, none⟩) vars.length vcap, .slice ro rows.length rcap, .bool nt, .int .i64 way], .agg (domV dn)] w fun e w' =>
      ∃ G g cap nv, e = .returned (.pointer (some ⟨G, 0, none⟩)) ∧ Nw w w' ∧ DAt w' G g cap nv vars (bldTo vars nt dn vars.length 0 rows [zero6, zero6]).1 (bldTo vars nt dn vars.length 0 rows [zero6, zero6]).2 ∧ w.heap.size ≤ G ∧ w.heap.size ≤ g ∧ (∀ k, nv.ownBlock = some k → w.heap.size ≤ k) := by
  obtain ⟨W, hW⟩ : ∃ W, W = (w.alloc (.cells #[.slice (some ⟨vb, vof, none⟩) vars.length vcap, .slice ro rows.length rcap, .bool nt, .int .i64 way] 58)).alloc (.cells (domV dn) 76) := ⟨_, rfl⟩
  have hfW : Nw w W := by rw [hW]; exact ((Fr.refl _ w).alloc _).alloc _
  have hbT : Blk W w.heap.size #[.slice (some ⟨vb, vof, none⟩) vars.length vcap, .slice ro rows.length rcap, .bool nt, .int .i64 way] 58 := by rw [hW]; exact (Blk.new _ _ _).alloc _
  have hbD : Blk W (w.heap.size + 1) (domV dn) 76 := by
    rw [hW]
    have := Blk.new (w.alloc (.cells #[.slice (some ⟨vb, vof, none⟩) vars.length vcap, .slice ro rows.length rcap, .bool nt, .int .i64 way] 58)) (domV dn) 76
    rw [alsz] at this
    exact this
  have hsW : W.heap.size = w.heap.size + 2 := by rw [hW]; simp
  have HW := hd hW
  have HbT := hd hbT
  have HbD := hd hbD
  have HsW := hd hsW
  clear hW hbT hbD hsW
  obtain ⟨res, hres⟩ : ∃ res, bldTo vars nt dn vars.length 0 rows [zero6, zero6] = res := ⟨_, rfl⟩
  rw [hres]
  have Hres := hd hres
  clear hres
  go_enter Try.func63, Try.ntmps63
  go_upto_region 1 with fail
  rw [← HW.out]
  clear HW
  go_upto_region 2 with (go_at_call 73; refine (newBuilder_any W).mono ?_; rintro e w1 ⟨b, M, nv1, rfl, hB1, hf1, hbl, hMl, hnl⟩)
  have hT1 := HbT.out.nw hf1
  have t0 : w1.cell? ⟨w.heap.size, 0, none⟩ = some (.slice (some ⟨vb, vof, none⟩) vars.length vcap) := hT1.cell 0
  have t1 : w1.cell? ⟨w.heap.size, 1, none⟩ = some (.slice ro rows.length rcap) := hT1.cell 1
  have t2 : w1.cell? ⟨w.heap.size, 2, none⟩ = some (.bool nt) := hT1.cell 2
  have t3 : w1.cell? ⟨w.heap.size, 3, none⟩ = some (.int .i64 way) := hT1.cell 3
  have hnF : ∀ k, k < W.heap.size → ¬ FP b M nv1 k := fun k hk h => by
    rcases h with h | h | h
    · omega
    · omega
    · have := hnl k h; omega
  have hF1 : Nw w w1 := hfW.trans hf1 (fun i h => h.elim)
  have hs1 := hF1.size
  have hsW := HsW.out
  have hvs1 : IntsIn w1 (fun k => ¬ FP b M nv1 k) (some ⟨vb, vof, none⟩) vars := fun i hi => by
    obtain ⟨b', o', e', hl', hc'⟩ := hvs i hi
    exact ⟨b', o', e', by omega, hnF b' (by omega), (hF1.cell hl' (fun x => x)).trans hc'⟩
  have hrs1 : RowsIn w1 (fun k => ¬ FP b M nv1 k) ro rows := fun i hi => by
    obtain ⟨b', o', r', rc', e', hl', hc', hI'⟩ := hrs i hi
    refine ⟨b', o', r', rc', e', by omega, hnF b' (by omega), (hF1.cell hl' (fun x => x)).trans hc', fun j hj => ?_⟩
    obtain ⟨b2, o2, e2, hl2, hc2⟩ := hI' j hj
    exact ⟨b2, o2, e2, by omega, hnF b2 (by omega), (hF1.cell hl2 (fun x => x)).trans hc2⟩
  have Hb := hd (build_any b M (w.heap.size + 1) (some ⟨vb, vof, none⟩) vcap (.slice ro rows.length rcap) nt way vars dn h8 h4 hv hd64 vars.length 0 (by omega) rows [zero6, zero6] nv1 ro rcap w1 hrl hrow (by
      have : cnt vars.length ≤ 259 := by
        have hl : vars.length = 1 ∨ vars.length = 2 ∨ vars.length = 3 ∨ vars.length = 4 := by omega
        rcases hl with h | h | h | h <;> rw [h] <;> decide
      simp; omega) hB1 hvs1 hrs1 (HbD.out.nw hf1))
  rw [Hres.out] at Hb
  go_upto_region 3 with (go_at_call 74; refine Hb.out.mono ?_; rintro e w2 ⟨rfl, nv2, hB2, hf2, hn2⟩)
  obtain ⟨ng, ncap, hnv2⟩ : ∃ ng ncap, nv2 = .slice (some ⟨ng, 0, none⟩) res.1.length ncap := by
    rcases hB2.row.2 with ⟨_, h0⟩ | ⟨ng, ncap, cur, h, _⟩
    · have := hB2.two; omega
    · exact ⟨ng, ncap, h⟩
  subst hnv2
  have hT2 : Blk w2 w.heap.size #[.slice (some ⟨vb, vof, none⟩) vars.length vcap, .slice ro rows.length rcap, .bool nt, .int .i64 way] 58 := hT1.fr hf2 (hnF _ (by omega))
  have hK0 : Blk w2.drew w.heap.size #[.slice (some ⟨vb, vof, none⟩) vars.length vcap, .slice ro rows.length rcap, .bool nt, .int .i64 way] 58 ∧ Blk w2.drew b #[.slice (some ⟨ng, 0, none⟩) res.1.length ncap, .map (some M)] 134 := ⟨hT2.drew, hB2.blk.drew⟩
  refine wp_region_held (S := fun w'' => Blk w'' w.heap.size #[.slice (some ⟨vb, vof, none⟩) vars.length vcap, .slice ro rows.length rcap, .bool nt, .int .i64 way] 58 ∧ Blk w'' b #[.slice (some ⟨ng, 0, none⟩) res.1.length ncap, .map (some M)] 134) (by kernel_rfl) ?_
  refine wpAnyH_take (i := 0) (v := .pointer (some ⟨w.heap.size, 0, none⟩)) rfl (by kernel_rfl) (by kernel_rfl) (by kernel_rfl) (fun _ _ _ h => h) (.inl ⟨by kernel_rfl, fun w'' hS => by kernel_rfl⟩) hK0 ?_
  refine wpAnyH_take (i := 1) (v := .slice (some ⟨vb, vof, none⟩) vars.length vcap) rfl (by kernel_rfl) (by kernel_rfl) (by kernel_rfl) (fun _ _ _ h => h) (.inl ⟨by kernel_rfl, fun w'' hS => ?_⟩) hK0 ?_
  · have q0 : w''.cell? ⟨w.heap.size, 0, none⟩ = some (.slice (some ⟨vb, vof, none⟩) vars.length vcap) := hS.1.cell 0
    clear hK0 hS hv hd64 hrow hvs hrs t0 t1 t2 t3 hnF hF1 hvs1 hrs1 Hb hB2 hf2 hn2 hT2 hf1 hnl hB1
    simp only [Act.put, List.setIfInBounds_toArray, List.set_cons_zero, List.set_cons_succ, List.getElem_toArray, List.getElem_cons_zero, List.getElem_cons_succ]
    go_simp
  refine wpAnyH_take (i := 3) (v := .pointer (some ⟨b, 0, none⟩)) rfl (by kernel_rfl) (by kernel_rfl) (by kernel_rfl) (fun _ _ _ h => h) (.inl ⟨by kernel_rfl, fun w'' hS => by kernel_rfl⟩) hK0 ?_
  refine wpAnyH_take (i := 4) (v := .pointer (some ⟨b, 0, none⟩)) rfl (by kernel_rfl) (by kernel_rfl) (by kernel_rfl) (fun _ _ _ h => h) (.inl ⟨by kernel_rfl, fun w'' hS => by kernel_rfl⟩) hK0 ?_
  refine wpAnyH_take (i := 5) (v := .pointer (some ⟨b, 0, none⟩)) rfl (by kernel_rfl) (by kernel_rfl) (by kernel_rfl) (fun _ _ _ h => h) (.inl ⟨by kernel_rfl, fun w'' hS => by kernel_rfl⟩) hK0 ?_
  refine wpAnyH_take (i := 6) (v := .slice (some ⟨ng, 0, none⟩) res.1.length ncap) rfl (by kernel_rfl) (by kernel_rfl) (by kernel_rfl) (fun _ _ _ h => h) (.inl ⟨by kernel_rfl, fun w'' hS => ?_⟩) hK0 ?_
  · have q0 : w''.cell? ⟨b, 0, none⟩ = some (.slice (some ⟨ng, 0, none⟩) res.1.length ncap) := hS.2.cell 0
    clear hK0 hS hv hd64 hrow hvs hrs t0 t1 t2 t3 hnF hF1 hvs1 hrs1 Hb hB2 hf2 hn2 hT2 hf1 hnl hB1
    simp only [Act.put, List.setIfInBounds_toArray, List.set_cons_zero, List.set_cons_succ, List.getElem_toArray, List.getElem_cons_zero, List.getElem_cons_succ]
    go_simp
  refine wpAnyH_take (i := 7) (v := .int .i64 (res.2 : Int)) rfl (by kernel_rfl) (by kernel_rfl) (by kernel_rfl) (fun _ _ _ h => h) (.inl ⟨by kernel_rfl, fun w'' hS => by kernel_rfl⟩) hK0 ?_
  refine wpAnyH_all (rs := [2]) (by kernel_rfl) (by simp) (fun j hj => ?_)
  obtain rfl : j = 2 := by simpa using hj
  have hF2 : Fr (FP b M nv1) w w2 := (hF1.mono (fun i h => h.elim)).trans hf2 (fun i h => .inl h)
  have hvs2 : IntsAt w2.drew (some ⟨vb, vof, none⟩) vars := IntsAt.nw (hvs1.fr hf2 (N' := fun _ => True) (fun k _ hk => ⟨hk, trivial⟩)).at_ ((Fr.refl _ w2).drew)
  refine op_enter (f := 75) (args := #[.slice (some ⟨vb, vof, none⟩) vars.length vcap]) (w' := w2.drew) rfl (by kernel_rfl) (by kernel_rfl) ?_
  refine (newScope_any vb vof vcap vars w2.drew (by omega) hv0 hvs2).mono ?_
  rintro e w3 ⟨g, cap, rfl, hf3, hr3, hg3⟩
  have hf3' : Nw w2 w3 := hf3.of_drew
  refine ⟨_, rfl, ⟨hT2.nw hf3', hB2.blk.nw hf3'⟩, ?_⟩
  refine wpAnyH_all (rs := [8]) (by kernel_rfl) (by simp) (fun j hj => ?_)
  obtain rfl : j = 8 := by simpa using hj
  refine op_value (v := .agg #[.slice (some ⟨g, 0, none⟩) vars.length cap, .slice (some ⟨ng, 0, none⟩) res.1.length ncap, .int .i64 (res.2 : Int)]) (w' := w3) rfl (by kernel_rfl) ?_ ⟨⟨hT2.nw hf3', hB2.blk.nw hf3'⟩, ?_⟩
  · kernel_rfl
  refine wpAnyH_all (rs := [9]) (by kernel_rfl) (by simp) (fun j hj => ?_)
  obtain rfl : j = 9 := by simpa using hj
  refine op_value (v := .pointer (some ⟨w3.heap.size, 0, none⟩)) (w' := w3.alloc (.cells #[.slice (some ⟨g, 0, none⟩) vars.length cap, .slice (some ⟨ng, 0, none⟩) res.1.length ncap, .int .i64 (res.2 : Int)] 136)) rfl (by kernel_rfl) ?_ ⟨⟨(hT2.nw hf3').alloc _, (hB2.blk.nw hf3').alloc _⟩, ?_⟩
  · kernel_rfl
  refine wpAnyH_all (rs := [10]) (by kernel_rfl) (by simp) (fun j hj => ?_)
  obtain rfl : j = 10 := by simpa using hj
  refine op_value (v := .pointer (some ⟨w3.heap.size, 0, none⟩)) (w' := w3.alloc (.cells #[.slice (some ⟨g, 0, none⟩) vars.length cap, .slice (some ⟨ng, 0, none⟩) res.1.length ncap, .int .i64 (res.2 : Int)] 136)) rfl (by kernel_rfl) (by kernel_rfl) ⟨⟨(hT2.nw hf3').alloc _, (hB2.blk.nw hf3').alloc _⟩, wpAnyH_done (by kernel_rfl) ?_ _⟩
  simp only [Act.put, List.setIfInBounds_toArray, List.set_cons_zero, List.set_cons_succ, List.getElem_toArray, List.getElem_cons_zero, List.getElem_cons_succ]
  have hF3 : Nw w w3 := (hF2.mono (S' := fun _ => False) (fun k h => .inr (by
    rcases h with h | h | h
    · omega
    · omega
    · have := hnl k h; omega))).trans hf3' (fun i h => h.elim)
  have hDA : DAt (w3.alloc (.cells #[.slice (some ⟨g, 0, none⟩) vars.length cap, .slice (some ⟨ng, 0, none⟩) res.1.length ncap, .int .i64 (res.2 : Int)] 136)) w3.heap.size g cap (.slice (some ⟨ng, 0, none⟩) res.1.length ncap) vars res.1 res.2 :=
    ⟨Blk.new _ _ _, hr3.alloc _, ownsRow.fr hB2.row ((hf3').alloc _) (fun _ _ x => x), hB2.ok, hB2.two⟩
  have HF3 := hd (hF3.alloc (.cells #[.slice (some ⟨g, 0, none⟩) vars.length cap, .slice (some ⟨ng, 0, none⟩) res.1.length ncap, .int .i64 (res.2 : Int)] 136))
  have HDA := hd hDA
  have hs2 := hF2.size
  have hs3 := hf3'.size
  have hg3' : w2.heap.size ≤ g := hg3
  clear hF3 hDA t0 t1 t2 t3 hK0
  simp only [Exit.then]
  go_wp2
  go_ret
  refine ⟨w3.heap.size, g, cap, _, rfl, HF3.out, HDA.out, by omega, by omega, fun k hk => ?_⟩
  rcases hn2 k hk with h | h
  · have := hnl k h; omega
  · omega
end Go.Proofs.Ytkjfpdfkcfgfkaa

/- What cutter.cut does, as a function; its bounds; a cutter in memory; the ends of cut. -/
namespace Go.Proofs.Ytkjfpdfkcfgfkaa
open Go.RowKit Go.Maps Go.Shelf
attribute [local go_sem] Oper.semAt_some

/-- What a cutter holds: new nodes, what is supported, from old numbers to new ones (at most c of them). -/
structure CS where
  ns : List (List Nat)
  sp : List Nat
  mv : Nat → Option Nat
  c : Nat
def nodeAt (os : List (List Nat)) (old v : Nat) : Nat := (os.getD old []).getD v 0
def CS.mark (s : CS) (q v r : Nat) : CS := ⟨s.ns, if r = 0 then s.sp else s.sp.set q (s.sp.getD q 0 ||| 2 ^ v), s.mv, s.c⟩
def cutStep (f : Nat → CS → CS × Nat) (os : List (List Nat)) (old q : Nat) (st : CS × List Nat) (v : Nat) : CS × List Nat :=
  ((f (nodeAt os old v) st.1).1.mark q v (f (nodeAt os old v) st.1).2, st.2.set v (f (nodeAt os old v) st.1).2)
def CS.put (s : CS) (n : List Nat) (old : Nat) : CS × Nat := (⟨(numberTo s.ns n).1, s.sp, fun k => if k = old then some (numberTo s.ns n).2 else s.mv k, s.c + 1⟩, (numberTo s.ns n).2)
/-- What cut leaves, and answers. -/
def cutTo (os : List (List Nat)) (vars : List Int) (dn : List Nat) : Nat → Nat → Nat → CS → CS × Nat
  | 0, _, old, s => (s, old)
  | m + 1, i, old, s => if old < 2 then (s, old) else match s.mv old with
    | some k => (s, k)
    | none => ((vals (dn.getD (vars.getD i 0).toNat 0)).foldl (cutStep (cutTo os vars dn m (i + 1)) os old (vars.getD i 0).toNat) (s, zero6)).1.put
        ((vals (dn.getD (vars.getD i 0).toNat 0)).foldl (cutStep (cutTo os vars dn m (i + 1)) os old (vars.getD i 0).toNat) (s, zero6)).2 old
/-- Node old has m entries ahead of it. -/
def levOk (os : List (List Nat)) : Nat → Nat → Prop
  | 0, old => old < 2
  | m + 1, old => old = 0 ∨ (2 ≤ old ∧ old < os.length ∧ ∀ v, v < 6 → levOk os m (nodeAt os old v))

structure CSok (s : CS) (B : Nat) : Prop where
  two : 2 ≤ s.ns.length
  ns : s.ns.length ≤ B
  c : s.c ≤ B
  sp : s.sp.length = 8
  sp6 : ∀ q, s.sp.getD q 0 < 64
  mv : ∀ k x, s.mv k = some x → x ≤ B
theorem CSok.mono {s : CS} {B B' : Nat} (h : CSok s B) (hb : B ≤ B') : CSok s B' := ⟨h.two, Nat.le_trans h.ns hb, Nat.le_trans h.c hb, h.sp, h.sp6, fun k x hx => Nat.le_trans (h.mv k x hx) hb⟩
theorem CSok.mark {s : CS} {B q v r : Nat} (h : CSok s B) (hv : v < 6) : CSok (s.mark q v r) B := by
  refine ⟨h.two, h.ns, h.c, ?_, ?_, h.mv⟩
  · unfold CS.mark
    dsimp only
    split
    · exact h.sp
    · simpa using h.sp
  · unfold CS.mark
    dsimp only
    split
    · exact h.sp6
    · exact getD_set_lt h.sp6 (Nat.or_lt_two_pow (n := 6) (h.sp6 _) (Nat.pow_lt_pow_right (by omega) hv))
theorem CSok.put {s : CS} {B : Nat} (h : CSok s B) (n : List Nat) (old : Nat) : CSok (s.put n old).1 (B + 1) ∧ (s.put n old).2 ≤ B := by
  have hn := numberTo_len s.ns h.two n
  have h2 := h.two
  have h3 := h.ns
  have h4 := h.c
  refine ⟨⟨by show 2 ≤ (numberTo s.ns n).1.length; omega, by show (numberTo s.ns n).1.length ≤ B + 1; omega, by show s.c + 1 ≤ B + 1; omega, h.sp, h.sp6, fun k x hx => ?_⟩, by show (numberTo s.ns n).2 ≤ B; omega⟩
  have hx' : (if k = old then some (numberTo s.ns n).2 else s.mv k) = some x := hx
  split at hx'
  · have : (numberTo s.ns n).2 = x := Option.some.inj hx'
    omega
  · have := h.mv k x hx'
    omega
theorem cutFold (os : List (List Nat)) (q : Nat) (f : Nat → CS → CS × Nat) (old K B : Nat) (s : CS) (h : CSok s B) (hf : ∀ v s' B', v < 6 → B ≤ B' → CSok s' B' → CSok (f (nodeAt os old v) s').1 (B' + K) ∧ (f (nodeAt os old v) s').2 ≤ B' + K)
    (l : List Nat) (hl : ∀ v ∈ l, v < 6) (st : CS × List Nat) (hst : l.foldl (cutStep f os old q) (s, zero6) = st) : CSok st.1 (B + l.length * K) ∧ st.2.length = 6 ∧ ∀ x ∈ st.2, x ≤ B + l.length * K := by
  have := foldl_count (fun (k : Nat) (st : CS × List Nat) => CSok st.1 (B + k * K) ∧ st.2.length = 6 ∧ ∀ x ∈ st.2, x ≤ B + k * K) (cutStep f os old q) l 0 (s, zero6)
    (fun k st v hv hst => by
      have h1 := hf v st.1 (B + k * K) (hl v hv) (by omega) hst.1
      have hk : (k + 1) * K = k * K + K := Nat.succ_mul k K
      refine ⟨?_, ?_⟩
      · have := h1.1.mark (q := q) (v := v) (r := (f (nodeAt os old v) st.1).2) (hl v hv)
        exact this.mono (by omega)
      · refine set_le ⟨hst.2.1, fun x hx => ?_⟩ v _ (by omega)
        have := hst.2.2 x hx
        omega) ⟨by simpa using h, rfl, by simp [zero6]⟩
  rw [Nat.zero_add, hst] at this
  exact this
theorem cutTo_ok (os : List (List Nat)) (vars : List Int) (dn : List Nat) (hd : ∀ q, dn.getD q 0 < 64) : ∀ (m i old : Nat) (s : CS) (B : Nat), 2 ≤ B → levOk os m old → CSok s B → CSok (cutTo os vars dn m i old s).1 (B + cnt m) ∧ (cutTo os vars dn m i old s).2 ≤ B + cnt m
  | 0, i, old, s, B, hB, hl, h => by
    have hl' : old < 2 := hl
    exact ⟨h, by show old ≤ _; simp [cnt]; omega⟩
  | m + 1, i, old, s, B, hB, hl, h => by
    unfold cutTo
    by_cases ho : old < 2
    · rw [if_pos ho]
      exact ⟨h.mono (by omega), by show old ≤ _; omega⟩
    · rw [if_neg ho]
      cases hm : s.mv old with
      | some k => exact ⟨h.mono (by omega), by have := h.mv old k hm; show k ≤ _; omega⟩
      | none =>
        dsimp only
        have hl' : old < os.length ∧ ∀ v, v < 6 → levOk os m (nodeAt os old v) := by
          rcases hl with h1 | h1
          · exact absurd (by omega) ho
          · exact h1.2
        obtain ⟨st, hst⟩ : ∃ st, (vals (dn.getD (vars.getD i 0).toNat 0)).foldl (cutStep (cutTo os vars dn m (i + 1)) os old (vars.getD i 0).toNat) (s, zero6) = st := ⟨_, rfl⟩
        have key := cutFold os (vars.getD i 0).toNat (cutTo os vars dn m (i + 1)) old (cnt m) B s h (fun v s' B' hv hB' hs' => cutTo_ok os vars dn hd m (i + 1) (nodeAt os old v) s' B' (by omega) (hl'.2 v hv) hs') _ (fun v hv => vals_lt6 (hd _) hv) st hst
        rw [hst]
        have hlen := vals_len (hd (vars.getD i 0).toNat)
        have hmul : (vals (dn.getD (vars.getD i 0).toNat 0)).length * cnt m ≤ 6 * cnt m := Nat.mul_le_mul_right _ hlen
        have hp := key.1.put st.2 old
        have e : cnt (m + 1) = 6 * cnt m + 1 := rfl
        exact ⟨hp.1.mono (by omega), by omega⟩
end Go.Proofs.Ytkjfpdfkcfgfkaa

/- A cutter in memory; the ends of cut. -/
namespace Go.Proofs.Ytkjfpdfkcfgfkaa
open Go.RowKit Go.Maps Go.Shelf
attribute [local go_sem] Oper.semAt_some

/-- The cells of a cutter. -/
def cutCells (b G : Nat) (dn sp : List Nat) (Mv : Nat) : Array Value := (.pointer (some ⟨b, 0, none⟩) :: .pointer (some ⟨G, 0, none⟩) :: (dn.map (fun (x : Nat) => Value.int .u8 (x : Int)) ++ (sp.map (fun (x : Nat) => Value.int .u8 (x : Int)) ++ [.map (some Mv)]))).toArray
theorem cutCells_dn (b G : Nat) (dn sp : List Nat) (Mv q : Nat) (h8 : dn.length = 8) (hq : q < 8) : (cutCells b G dn sp Mv)[2 + q]? = some (.int .u8 (dn.getD q 0 : Nat)) := by
  rw [Nat.add_comm]
  simp [cutCells, List.getElem?_append_left, h8, hq]
theorem cutCells_sp (b G : Nat) (dn sp : List Nat) (Mv q : Nat) (h8 : dn.length = 8) (hs : sp.length = 8) (hq : q < 8) : (cutCells b G dn sp Mv)[10 + q]? = some (.int .u8 (sp.getD q 0 : Nat)) := by
  rw [show 10 + q = 8 + q + 2 by omega]
  simp only [cutCells, List.getElem?_toArray, List.getElem?_cons_succ]
  rw [List.getElem?_append_right (by simp; omega), List.getElem?_append_left (by simp; omega)]
  simp [h8, hs, hq]
theorem cutCells_mv (b G : Nat) (dn sp : List Nat) (Mv : Nat) (h8 : dn.length = 8) (hs : sp.length = 8) : (cutCells b G dn sp Mv)[18]? = some (.map (some Mv)) := by
  simp only [cutCells, List.getElem?_toArray, List.getElem?_cons_succ]
  rw [List.getElem?_append_right (by simp; omega), List.getElem?_append_right (by simp; omega)]
  simp [h8, hs]
theorem cutCells_size (b G : Nat) (dn sp : List Nat) (Mv : Nat) (h8 : dn.length = 8) (hs : sp.length = 8) : (cutCells b G dn sp Mv).size = 19 := by simp [cutCells, h8, hs]
theorem cutCells_set (b G : Nat) (dn sp : List Nat) (Mv q x : Nat) (h8 : dn.length = 8) (hs : sp.length = 8) (hq : q < 8) : (cutCells b G dn sp Mv).setIfInBounds (10 + q) (.int .u8 (x : Int)) = cutCells b G dn (sp.set q x) Mv := by
  rw [show 10 + q = 8 + q + 2 by omega]
  simp only [cutCells, List.setIfInBounds_toArray, List.set_cons_succ, List.map_set]
  rw [List.set_append_right _ _ (by simp; omega), List.set_append_left _ _ (by simp; omega)]
  simp [h8]

structure CutAt (w : World) (C b M Mv G : Nat) (nv : Value) (dn : List Nat) (s : CS) : Prop where
  blk : Blk w C (cutCells b G dn s.sp Mv) 180
  bld : Bld w b M nv s.ns
  mov : ∃ f, NumMap w 3 Mv s.c f ∧ ∀ k : Nat, k < 4294967296 → f (.int .i64 (k : Int)) = s.mv k
  ne : Mv ≠ M
/-- The blocks that cut may write. -/
def FC (C b M Mv : Nat) (nv : Value) (k : Nat) : Prop := k = C ∨ k = Mv ∨ FP b M nv k
theorem CutAt.fr {S : Nat → Prop} {w w' : World} {C b M Mv G : Nat} {nv : Value} {dn : List Nat} {s : CS} (h : CutAt w C b M Mv G nv dn s) (f : Fr S w w') (hn : ∀ k, FC C b M Mv nv k → ¬ S k) : CutAt w' C b M Mv G nv dn s := by
  obtain ⟨g, hm, hg⟩ := h.mov
  exact ⟨h.blk.fr f (hn _ (.inl rfl)), h.bld.fr f (hn _ (.inr (.inr (.inl rfl)))) (hn _ (.inr (.inr (.inr (.inl rfl))))) (fun k hk => hn _ (.inr (.inr (.inr (.inr hk))))), ⟨g, hm.fr f (hn _ (.inr (.inl rfl))), hg⟩, h.ne⟩
theorem CutAt.nw {w w' : World} {C b M Mv G : Nat} {nv : Value} {dn : List Nat} {s : CS} (h : CutAt w C b M Mv G nv dn s) (f : Nw w w') : CutAt w' C b M Mv G nv dn s := h.fr f (fun _ _ x => x)
theorem CutAt.drew {w : World} {C b M Mv G : Nat} {nv : Value} {dn : List Nat} {s : CS} (h : CutAt w C b M Mv G nv dn s) : CutAt w.drew C b M Mv G nv dn s := h.nw ((Fr.refl _ w).drew)
theorem CutAt.bk {lo : Nat} {w w' : World} {C b M Mv G : Nat} {nv : Value} {dn : List Nat} {s : CS} (h : CutAt w C b M Mv G nv dn s) (hb : Bk lo w w') (h1 : M < lo) (h2 : Mv < lo) : CutAt w' C b M Mv G nv dn s := by
  obtain ⟨g, hm, hg⟩ := h.mov
  exact ⟨h.blk.bk hb, h.bld.bk hb h1, ⟨g, hm.bk hb h2, hg⟩, h.ne⟩
theorem CutAt.lt {w : World} {C b M Mv G : Nat} {nv : Value} {dn : List Nat} {s : CS} (h : CutAt w C b M Mv G nv dn s) {k : Nat} (hk : FC C b M Mv nv k) : k < w.heap.size := by
  rcases hk with rfl | rfl | hk
  · exact h.blk.lt
  · obtain ⟨f, hm, _⟩ := h.mov
    exact hm.lt
  · exact h.bld.lt hk
theorem CutAt.other {w : World} {C b M Mv G : Nat} {nv : Value} {dn : List Nat} {s : CS} (h : CutAt w C b M Mv G nv dn s) {k : Nat} {cur : Array Value} {e : TypeId} (hb : Blk w k cur e) (h1 : e ≠ 134) (h2 : e ≠ 154) (h3 : e ≠ 180) : ¬ FC C b M Mv nv k := by
  rintro (rfl | rfl | hk)
  · exact h3 (hb.inj h.blk).2
  · obtain ⟨f, hm, _⟩ := h.mov
    exact hm.ne hb rfl
  · exact h.bld.other hb h1 h2 hk
theorem CutAt.loopy {w : World} {C b M Mv G : Nat} {nv : Value} {dn : List Nat} {s : CS} (h : CutAt w C b M Mv G nv dn s) : ∀ k, FC C b M Mv nv k → ∃ o, w.heap[k]? = some o ∧ loopy o = false := by
  rintro k (rfl | rfl | hk)
  · exact ⟨_, h.blk, rfl⟩
  · obtain ⟨f, hm, _⟩ := h.mov
    exact hm.map
  · exact h.bld.loopy k hk

/-- The boxes of cut's parameters. -/
structure CBox (A : World) (T C old i : Nat) : Prop where
  b0 : Blk A T #[.pointer (some ⟨C, 0, none⟩)] 182
  b1 : Blk A (T + 1) #[.int .i64 (old : Int)] 3
  b2 : Blk A (T + 1 + 1) #[.int .i64 (i : Int)] 3
theorem CBox.fr {S : Nat → Prop} {A B : World} {T C old i : Nat} (h : CBox A T C old i) (f : Fr S A B) (hn : ∀ k, T ≤ k → k ≤ T + 2 → ¬ S k) : CBox B T C old i :=
  ⟨h.b0.fr f (hn _ (by omega) (by omega)), h.b1.fr f (hn _ (by omega) (by omega)), h.b2.fr f (hn _ (by omega) (by omega))⟩
theorem CBox.bk {lo : Nat} {A B : World} {T C old i : Nat} (h : CBox A T C old i) (hb : Bk lo A B) : CBox B T C old i := ⟨h.b0.bk hb, h.b1.bk hb, h.b2.bk hb⟩
def boxedC (w : World) (C old i : Nat) : World := ((w.alloc (.cells #[.pointer (some ⟨C, 0, none⟩)] 182)).alloc (.cells #[.int .i64 (old : Int)] 3)).alloc (.cells #[.int .i64 (i : Int)] 3)
theorem boxedC_nw (w : World) (C old i : Nat) : Nw w (boxedC w C old i) := (((Fr.refl _ w).alloc _).alloc _).alloc _
theorem boxedC_box (w : World) (C old i : Nat) : CBox (boxedC w C old i) w.heap.size C old i := by
  refine ⟨((Blk.new w _ _).alloc _).alloc _, ?_, ?_⟩
  · have := (Blk.new (w.alloc (.cells #[.pointer (some ⟨C, 0, none⟩)] 182)) #[.int .i64 (old : Int)] 3).alloc (.cells #[.int .i64 (i : Int)] 3)
    simp only [alsz] at this
    exact this
  · have := Blk.new ((w.alloc (.cells #[.pointer (some ⟨C, 0, none⟩)] 182)).alloc (.cells #[.int .i64 (old : Int)] 3)) #[.int .i64 (i : Int)] 3
    simp only [alsz] at this
    exact this

set_option maxHeartbeats 1600000 in
set_option maxRecDepth 1000000 in
theorem cut_small (C old i : Nat) (w : World) (ho : old < 2) :
    Calls Try.prog 110 #[.pointer (some ⟨C, 0, none⟩), .int .i64 old, .int .i64 i] w fun e w' => e = .returned (.int .i64 old) ∧ Nw w w' := by
  have hlt : (old : Int) < 2 := by omega
  go_enter Try.func110, Try.ntmps110
  go_wp2
  go_ret
  exact ⟨rfl, boxedC_nw w C old i⟩

theorem int_key (k : Nat) (h : k < 4294967296) : keyOf Try.prog 3 (.int .i64 (k : Int)) = some (.int .i64 (k : Int)) := keyOf_int_mk Try.underlying3 (wf64 k h)

set_option maxHeartbeats 1600000 in
set_option maxRecDepth 1000000 in
theorem cut_known (C b M Mv G : Nat) (nv : Value) (dn : List Nat) (s : CS) (old i k : Nat) (w : World) (h8 : dn.length = 8) (hC : CutAt w C b M Mv G nv dn s) (hs8 : s.sp.length = 8) (ho : ¬ old < 2) (ho32 : old < 4294967296) (hk : s.mv old = some k) :
    Calls Try.prog 110 #[.pointer (some ⟨C, 0, none⟩), .int .i64 old, .int .i64 i] w fun e w' => e = .returned (.int .i64 k) ∧ Nw w w' := by
  have hlt : ¬ (old : Int) < 2 := by omega
  obtain ⟨W, hW⟩ : ∃ W, W = boxedC w C old i := ⟨_, rfl⟩
  have hfW : Nw w W := by rw [hW]; exact boxedC_nw ..
  have hbx : CBox W w.heap.size C old i := by rw [hW]; exact boxedC_box ..
  have hCW := hC.nw hfW
  obtain ⟨f, hm, hf⟩ := hCW.mov
  have hl := NumMap.look_ok (w := W.drew) (t := 178) hm intKeyed Try.underlying178 (int_key old ho32)
  rw [hf old ho32, hk] at hl
  have a0 : W.cell? ⟨w.heap.size, 0, none⟩ = some (.pointer (some ⟨C, 0, none⟩)) := hbx.b0.cell 0
  have a1 : W.cell? ⟨w.heap.size + 1, 0, none⟩ = some (.int .i64 (old : Int)) := hbx.b1.cell 0
  have a2 : W.cell? ⟨C, 18, none⟩ = some (.map (some Mv)) := (hCW.blk.cell 18).trans (cutCells_mv _ _ _ _ _ h8 hs8)
  have HW := hd hW
  clear hW hbx hC hCW hm hf
  go_enter Try.func110, Try.ntmps110
  go_upto_region 1 with fail
  rw [show ((w.alloc (.cells #[.pointer (some ⟨C, 0, none⟩)] 182)).alloc (.cells #[.int .i64 (old : Int)] 3)).alloc (.cells #[.int .i64 (i : Int)] 3) = W from HW.out.symm]
  go_upto_region 3 with fail
  go_still (by kernel_rfl)
  go_wp2
  go_ret
  exact ⟨rfl, hfW.drew⟩
end Go.Proofs.Ytkjfpdfkcfgfkaa
