/- 'for value := range s.Each { .. }': the iterator's contract, and a law for the statement. -/
import Derived.Test.YtkjfpdfkcfgfkaaBits
import Derived.RangeFuncNested
import Derived.RangeFuncBound
import Derived.RangeFuncCalls
import Derived.RangeFuncLeaves
import Derived.Shelf.Abstract
import Derived.Shelf.RegionOpen
import Derived.OwnWalkIn
import Derived.TacticsInMore
import Derived.LoopNIn
import Derived.LoopIn
import Derived.Laws.BitsAllLaws
namespace Go.Proofs.Ytkjfpdfkcfgfkaa
open Go.RowKit Go.Shelf
attribute [local go_sem] Oper.semAt_some

/-- The values of a set, the least first. -/
def vals (s : Nat) : List Nat := (List.range 8).filter (fun i => s.testBit i)
theorem vals_fin : ∀ s : Fin 256, s.val ≠ 0 → vals s.val = tz s.val :: vals (s.val &&& (s.val - 1)) ∧ s.val &&& (s.val - 1) < s.val ∧ tz s.val < 8 := by decide +kernel
theorem vals_cons (s : Nat) (h : s < 256) (h0 : s ≠ 0) : vals s = tz s :: vals (s &&& (s - 1)) ∧ s &&& (s - 1) < s ∧ tz s < 8 := vals_fin ⟨s, h⟩ h0
theorem vals_zero : vals 0 = [] := by decide

set_option maxHeartbeats 800000 in
theorem each_in (n s l : Nat) (hs : s < 256) (J : List Nat → World → Prop) (W : World) (h0 : J [] W)
    (hY : ∀ (pre : List Nat) (v : Nat) (W1 : World), J pre W1 → (pre ++ [v]) <+: vals s → YieldAt Fence.wide (n - 1) Try.prog l #[.int .i64 (v : Int)] W1 fun e W' => e = .returned (.bool true) ∧ J (pre ++ [v]) W') :
    CallsIn Fence.wide n Try.prog 60 #[.int .u8 s, .func (.yield l) #[] #[]] W fun e W' => (∃ v, e = .returned v) ∧ J (vals s) W' := by
  refine callsIn_of_wp Try.func60 rfl trivial ?_ rfl
  simp only [Try.ntmps60, List.size_toArray, List.length_cons, List.length_nil, Nat.reduceAdd, Nat.reduceSub, Array.replicate_succ, Array.replicate_zero, List.push_toArray, List.append_toArray, List.nil_append, List.cons_append]
  gi_wp2
  gi_loopw [4] (fun p wr => ∃ (pre : List Nat) (r : Nat), p = .int .u8 r ∧ r < 256 ∧ Hid (pre ++ vals r = vals s) ∧ J pre wr) (fun p _ => (intOf p).toNat)
  case atStart => exact ⟨[], s, rfl, hs, rfl, h0⟩
  case round =>
    obtain ⟨pre, r, rfl, hr, HP, hJ⟩ := hrel
    by_cases hr0 : r = 0
    · subst hr0
      gi_wp2
      go_end0
      exact ⟨⟨_, rfl⟩, by have := HP.out; rw [vals_zero, List.append_nil] at this; rw [← this]; exact hJ⟩
    · obtain ⟨hv1, hv2, hv3⟩ := vals_cons r hr hr0
      have hpos : (0 : Int) < (r : Int) := by omega
      have hr1 : ((r : Int) != 0) = true := by simp; omega
      obtain ⟨fn, tmps, assign, body, hy, hR⟩ := hY pre (tz r) wr hJ ⟨vals (r &&& (r - 1)), by rw [← HP.out, hv1]; simp⟩
      have HV := hd hv1
      clear hv1
      gi_wp2_with fail
      refine ⟨trivial, (fun h => by cases h), ?_⟩
      refine (callsIn_wide.2 (tz_any r _ hr)).mono ?_
      rintro e w' ⟨rfl, rfl⟩
      gi_wp2_with fail
      refine ⟨(fun h => by cases h), ?_⟩
      refine hR.mono ?_
      rintro e W3 ⟨rfl, hJ3⟩
      gi_wp2
      have e1 : bits .and .u8 (r : Int) ((r : Int) - 1) = ((r &&& (r - 1) : Nat) : Int) := by
        have := u8_and_nat r (r - 1) (by omega) (by omega)
        rw [← this, show (((r - 1 : Nat) : Int)) = (r : Int) - 1 from by omega]
      rw [e1]
      refine ⟨⟨pre ++ [tz r], r &&& (r - 1), rfl, by omega, ?_, hJ3⟩, by simp [intOf]; omega⟩
      show _ = _
      rw [← HP.out, HV.out]
      simp

/-- What the book-keeping of a range over a function does to the world: new blocks; a block from lo on, that holds no cells, is turned. -/
def Bk (lo : Nat) (A B : World) : Prop := ∃ row, A.grownBy B row ∧ ∀ r, row = some r → lo ≤ r ∧ ∃ o : Obj, A.heap[r]? = some o ∧ o.isCells = false
theorem Bk.alloc (lo : Nat) (A : World) (o : Obj) : Bk lo A (A.alloc o) := ⟨none, World.grownBy_alloc A o none, fun r h => by cases h⟩
theorem Bk.put {lo : Nat} {A : World} {l : Nat} {o : Obj} (o' : Obj) (hB : lo ≤ l) (hl : A.heap[l]? = some o) (ho : o.isCells = false) : Bk lo A (A.putObj l o') :=
  ⟨some l, grownBy_putObj' A l o', fun r e => by cases e; exact ⟨hB, o, hl, ho⟩⟩
theorem Blk.bk {lo : Nat} {A B : World} {g : Nat} {cur : Array Value} {e : TypeId} (h : Blk A g cur e) (hb : Bk lo A B) : Blk B g cur e := by
  obtain ⟨row, hg, hr⟩ := hb
  refine (hg.block g h.lt (fun e' => ?_)).trans h
  obtain ⟨_, o, ho, hc⟩ := hr g e'.symm
  have h' : A.heap[g]? = some (.cells cur e (0, 0)) := h
  rw [h'] at ho
  cases ho
  cases hc
theorem Fr.bk {S : Nat → Prop} {lo : Nat} {w A B : World} (h : Fr S w A) (hb : Bk lo A B) (hl : w.heap.size ≤ lo) : Fr S w B := by
  obtain ⟨row, hg, hr⟩ := hb
  exact h.grown hg (fun k hk => .inr (Nat.le_trans hl (hr k hk).1))
theorem Row.bk {lo : Nat} {A B : World} {v : Value} {e : TypeId} {xs : List Value} (h : Row A v e xs) (hb : Bk lo A B) : Row B v e xs := by
  refine ⟨h.1, ?_⟩
  rcases h.2 with h2 | ⟨g, cap, cur, rfl, hbb, hg, r⟩
  · exact .inl h2
  · exact .inr ⟨g, cap, cur, rfl, hbb, Blk.bk (lo := lo) hg hb, r⟩

theorem IntsAt.bk {lo : Nat} {A B : World} {ao : Option Addr} {zs : List Int} (h : IntsAt A ao zs) (hb : Bk lo A B) : IntsAt B ao zs := by
  intro i hi
  obtain ⟨b, o, rfl, hbl, hc⟩ := h i hi
  obtain ⟨row, hg, hr⟩ := hb
  refine ⟨b, o, rfl, Nat.lt_of_lt_of_le hbl hg.size, ?_⟩
  refine hg.cell hc (fun e => ?_)
  obtain ⟨_, o', ho, hcl⟩ := hr b e.symm
  cases o' <;> simp_all [World.cell?, Obj.isCells]

/-- Fr with writes to blocks of cells alone leaves whatever is no cells as it was. -/
def loopy : Obj → Bool
  | .loop _ => true
  | .deferred _ => true
  | _ => false
/-- The records of ranges over functions, and their marks, are as they were. -/
structure KeepsLD (W W' : World) : Prop where
  size : W.heap.size ≤ W'.heap.size
  same : ∀ (k : Nat) (o : Obj), W.heap[k]? = some o → loopy o = true → W'.heap[k]? = some o
theorem KeepsLD.trans {A B C : World} (h : KeepsLD A B) (k : KeepsLD B C) : KeepsLD A C := ⟨Nat.le_trans h.size k.size, fun i o ho hl => k.same i o (h.same i o ho hl) hl⟩
theorem Fr.keepsM {S : Nat → Prop} {A B : World} (h : Fr S A B) (hs : ∀ k, S k → ∃ o, A.heap[k]? = some o ∧ loopy o = false) : KeepsLD A B :=
  ⟨h.size, fun k o ho hc => (h.block k (lt_of_block ho) (fun hk => by
    obtain ⟨o', ho', hl⟩ := hs k hk
    rw [ho'] at ho
    cases ho
    rw [hl] at hc
    cases hc)).trans ho⟩
theorem Fr.keeps {S : Nat → Prop} {A B : World} (h : Fr S A B) (hs : ∀ k, S k → ∃ cur e, Blk A k cur e) : KeepsLD A B :=
  ⟨h.size, fun k o ho hc => (h.block k (lt_of_block ho) (fun hk => by
    obtain ⟨cur, e, hb⟩ := hs k hk
    have h' : A.heap[k]? = some (.cells cur e (0, 0)) := hb
    rw [h'] at ho
    cases ho
    cases hc)).trans ho⟩

/-- The mark that a range over a function leaves among the activation's deferred calls. -/
abbrev mark (D : Nat) : Deferred := { target := .collected D, args := #[] }

/-- How the body of a round is left: at its end. -/
def eachPost (I : World → Prop) (W : World) : Exit → Act → World → Prop
  | .normal, _, W' => KeepsLD W W' ∧ I W'
  | _, _, _ => False

/-- **'for value := range s.Each { body }', where no body leaves early.** I pre: the values pre have come. -/
theorem wp_each {n s : Nat} (hs : s < 256) {g : Operand} {t d : Tmp} {rid : Nat} {ty : TypeId} {pos : String} {body : Code} {Q : Exit → Act → World → Prop} {a : Act} {w : World}
    (hg : a.eval g = .func (.func 60) #[.int .u8 s] #[]) (ht : t < a.tmps.size) (I : List Nat → World → Prop) (hI : ∀ pre A B, I pre A → Bk w.heap.size A B → I pre B) (h0 : I [] w)
    (hround : ∀ (l : Nat) (pre : List Nat) (v : Nat) (W : World), (pre ++ [v]) <+: vals s → I pre W →
      body.wpIn (Fence.wide.inRound l) (n - 1 - 1) Try.prog (eachPost (I (pre ++ [v])) W) { tmps := (a.tmps.setIfInBounds t (.int .i64 (v : Int))).setIfInBounds d (.int .i64 (v : Int)), defers := [] } W)
    (hdone : ∀ (D : Nat) (W : World), w.heap.size ≤ D → I (vals s) W → W.heap[D]? = some (.deferred (some [])) → Q .normal { a with defers := mark D :: a.defers } W) :
    (Code.rangeFunc g #[t] (Code.region rid #[{ dst := some d, op := .assign (.tmp t), type := ty, pos := pos, after := #[], guard := none }] false) body).wpIn Fence.wide n Try.prog Q a w := by
  generalize hA : Code.region rid #[{ dst := some d, op := Op.assign (.tmp t), type := ty, pos := pos, after := #[], guard := none }] false = assign
  have hassign : ∀ (l : Nat) (v : Nat) (W : World) (K : Act → World → Prop), K { tmps := (a.tmps.setIfInBounds t (.int .i64 (v : Int))).setIfInBounds d (.int .i64 (v : Int)), defers := [] } W →
      assign.wpIn (Fence.wide.inRound l) (n - 1 - 1) Try.prog (Exit.then K (fun _ _ _ => False)) { tmps := a.tmps.setIfInBounds t (.int .i64 (v : Int)), defers := [] } W := by
    intro l v W K hK
    subst hA
    have hget : (a.tmps.setIfInBounds t (Value.int .i64 (v : Int))).getD t undef = .int .i64 (v : Int) := by
      simp [ht]
    gi_wp2
    exact hK
  refine wpIn_rangeFunc ?_
  intro fn hfn
  obtain ⟨rec, hrec⟩ : ∃ rec : LoopState → Option Code → Loop, rec = fun st pe => { state := st, pending := pe, fn, tmps := a.tmps, params := #[t], assign, body, defers := w.heap.size } := ⟨_, rfl⟩
  obtain ⟨W1, hW1⟩ : ∃ W1, (w.alloc (.deferred (some []))).alloc (.loop (rec .ready none)) = W1 := ⟨_, rfl⟩
  have hL1 : W1.heap[w.heap.size + 1]? = some (.loop (rec .ready none)) := by
    rw [← hW1]
    have := heap_alloc_new (w.alloc (.deferred (some []))) (.loop (rec .ready none))
    simpa using this
  have hK1 : W1.heap[w.heap.size]? = some (.deferred (some [])) := by
    rw [← hW1]; exact (Below.heap_alloc _ _ _ (by simp)).trans (heap_alloc_new w _)
  have hI1 : I [] W1 := by rw [← hW1]; exact hI _ _ _ (hI _ _ _ h0 (Bk.alloc _ _ _)) (Bk.alloc _ _ _)
  refine ⟨w.heap.size + 1, [mark w.heap.size], W1, { target := .fn (.func 60) #[], args := #[.int .u8 s, .func (.yield (w.heap.size + 1)) #[] #[]] }, W1, 60,
    #[.int .u8 s, .func (.yield (w.heap.size + 1)) #[] #[]], W1, ?_, ?_, ?_, ?_, (fun h => by cases h), ?_⟩
  · rw [← hW1, hrec]; exact run_enterLoop_outer _ _ _ _ _
  · simp only [resolve, hg]
    simp [go_sem]
  · intro f' _; trivial
  · simp [invoke, go_sem]
  · refine (each_in (n - 1) s (w.heap.size + 1) hs
      (fun pre W => I pre W ∧ W.heap[w.heap.size + 1]? = some (.loop (rec .ready none)) ∧ W.heap[w.heap.size]? = some (.deferred (some []))) W1 ⟨hI1, hL1, hK1⟩ ?_).mono ?_
    · rintro pre v W ⟨hi, hl, hk⟩ hpre
      have hlt : w.heap.size + 1 < W.heap.size := (Array.getElem?_eq_some_iff.1 hl).1
      have hy := run_yield (P := Try.prog) (args := #[.int .i64 (v : Int)]) hl (by rw [hrec]; rfl)
      rw [hrec] at hy
      dsimp only at hy
      have hfold : ((#[t] : Array Tmp).zip #[Value.int .i64 (v : Int)]).foldl (fun tmps (x : Tmp × Value) => match x with | (t, a) => tmps.setIfInBounds t a) a.tmps = a.tmps.setIfInBounds t (.int .i64 (v : Int)) := by simp
      rw [hfold] at hy
      have hl2 : (W.putObj (w.heap.size + 1) (.loop { rec .ready none with state := .busy })).heap[w.heap.size + 1]? = some (.loop { rec .ready none with state := .busy }) := World.putObj_heap_same hlt
      have hk2 : (W.putObj (w.heap.size + 1) (.loop { rec .ready none with state := .busy })).heap[w.heap.size]? = some (.deferred (some [])) := (World.putObj_heap_other (by omega)).trans hk
      have hbody := hround (w.heap.size + 1) pre v _ hpre (hI _ _ _ hi (Bk.put (.loop { rec .ready none with state := .busy }) (by omega) hl rfl))
      refine ⟨fn, _, assign, body, hy, roundIn_of_wpIn hfn ?_⟩
      refine hassign _ v W _ ?_
      refine ⟨_, run_beginRound hl (by rw [hrec]), ?_⟩
      refine wpIn_mono hbody ?_
      rintro e a3 W3 hp
      cases e with
      | normal =>
        obtain ⟨hk3, hi3⟩ := hp
        have hl3 := hk3.same _ _ hl2 rfl
        have hend := run_endRound (P := Try.prog) none hl3
        refine ⟨_, _, hend, rfl, hI _ _ _ hi3 (Bk.put _ (by omega) hl3 rfl), ?_, (World.putObj_heap_other (by omega)).trans (hk3.same _ _ hk2 rfl)⟩
        rw [World.putObj_heap_same (Array.getElem?_eq_some_iff.1 hl3).1, hrec]
        rfl
      | ret => exact hp.elim
      | exit id => exact hp.elim
      | goto t => exact hp.elim
      | panic ch => exact hp.elim
      | outgrown => exact hp.elim
    · rintro e W2 ⟨⟨v, rfl⟩, hi, hl, hk⟩
      refine ⟨none, _, ?_, hdone w.heap.size _ (Nat.le_refl _) (hI _ _ _ hi (Bk.put (.loop { rec .ready none with state := .exhausted }) (by omega) hl rfl)) ((World.putObj_heap_other (by omega)).trans hk)⟩
      have := run_endLoop (P := Try.prog) hl (by rw [hrec]; simp)
      rw [hrec] at this ⊢
      exact this
end Go.Proofs.Ytkjfpdfkcfgfkaa
