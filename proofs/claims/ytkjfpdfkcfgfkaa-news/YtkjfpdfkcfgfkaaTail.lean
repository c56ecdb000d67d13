/- A region that draws its order, whose last operations alone write: in a round of a range over a function. -/
import Derived.Test.YtkjfpdfkcfgfkaaMarks
import Derived.StillTailTactics
namespace Go.Proofs.Ytkjfpdfkcfgfkaa
open Go.RowKit Go.Shelf

/-- Whatever order is drawn: the first n operations leave the world, the others come last, in their order. -/
theorem any_tail {P : Program} {Q : Exit → Act → World → Prop} {a : Act} {w : World} {l : List Oper} (n : Nat) (hB : Region.lexTailB .any l.toArray n = true)
    (h : wpStill P l.toArray w (fun a' => wpList P l.toArray Q (l.drop n) a' w) (l.take n) a) :
    wpAny P .any l.toArray Q l.toArray.size (Array.replicate l.toArray.size false) a w := by
  simp only [Region.lexTailB, Bool.and_eq_true, decide_eq_true_eq] at hB
  have hn : n < l.length := by simpa using hB.1.1.1.2
  have ht : (l.take n).length = n := by rw [List.length_take]; omega
  have hr : (l.drop n).length = l.toArray.size - n := by simp
  have start : HeadInv .any l.toArray n (Array.replicate l.toArray.size false) := by
    refine ⟨by simp, fun j oj _ hj => ?_, fun t _ h2 => getD_in (by simpa using h2) (getD_replicate_false _ _)⟩
    rw [getD_replicate_false] at hj
    cases hj
  have hhead := wpAnyL_lex (md := .any) (g := l.toArray.size - n) hB.1.1.1.1 hB.1.1.2 hB.1.2 hB.1.1.1.2 (l.take n) 0 _ a
    (fun j hj => by rw [ht] at hj; simp [hj]) (by rw [Nat.zero_add]; exact ht) start (by rw [ht]; exact hB.2) h
  have hall := wpAny_of_head (Q' := Q) (g := l.toArray.size - n) (fun listed a' hL => by
    have hseq := wpAny_of_seq (md := .any) (Q' := Q) (l.drop n) n listed a' w (fun j => by simp [List.getElem?_drop]) (by rw [hr]; exact hL.1) hL.2
    rwa [hr] at hseq) _ _ _ hhead
  rw [ht, show n + (l.toArray.size - n) = l.toArray.size by simp; omega] at hall
  exact hall

/-- An operation that is no defer statement, in a round. -/
theorem oper_in {P : Program} {o : Oper} {a : Act} {w : World} {K : Act → World → Prop} {Q : Exit → Act → World → Prop} (lp m : Nat) (hnd : ∀ c, o.op ≠ .defer c)
    (h : o.wp P a w K Q) : o.wpIn (Fence.wide.inRound lp) m P a w K Q := by
  refine ⟨fun _ _ => trivial, ?_⟩
  rw [Oper.semAt_eq _ _ _ hnd]
  unfold Oper.wp at h
  generalize hr : (execOp a.eval o).run P w = r at *
  cases r with
  | ok x w' =>
    cases x with
    | enter f args => exact ⟨(fun h => by cases h), CallsIn.inRound lp (callsIn_wide.2 h)⟩
    | row row args => exact ⟨(fun h => by cases h), fun c cs _ => let ⟨v, w2, r, s⟩ := h c cs; ⟨v, w2, r, stepsIn_wide.2 s⟩⟩
    | round l f tmps assign body => exact (h : False).elim
    | _ => exact h
  | halt x w' => cases x <;> exact h

theorem any_in {P : Program} {md : Region.Mode} {ops : Array Oper} {Q : Exit → Act → World → Prop} (lp m : Nat) (hQ : ∀ a w, ¬ Q .outgrown a w) (hnd : ∀ (j : Nat) (o : Oper), ops[j]? = some o → ∀ c, o.op ≠ .defer c) :
    ∀ (fuel : Nat) (listed : Array Bool) (a : Act) (w : World), wpAny P md ops Q fuel listed a w → wpAnyIn (Fence.wide.inRound lp) m P md ops Q fuel listed a w
  | 0, _, _, _, h => h
  | fuel + 1, listed, a, w, h => by
    refine ⟨h.1, fun i hi => ?_⟩
    have hw := h.2 i hi
    unfold wpOp at hw
    unfold wpOpIn
    cases ho : ops[i]? with
    | none => simp only [ho] at hw; exact any_in lp m hQ hnd fuel _ _ _ hw
    | some o =>
      simp only [ho] at hw
      by_cases hwant : Region.wanted o (yielded ops a.tmps) = true
      · simp only [hwant, if_true] at hw ⊢
        rcases hw with hw | ⟨_, x, y, hxy⟩
        · exact Oper.wpIn_mono (fun a w h' => any_in lp m hQ hnd fuel _ a w h') (oper_in lp m (hnd i o ho) hw)
        · exact (hQ x y hxy).elim
      · simp only [hwant] at hw ⊢
        exact ⟨fun _ _ => trivial, any_in lp m hQ hnd fuel _ _ _ hw⟩

/-- No operation of a list is a defer statement. -/
def noDefer (l : List Oper) : Bool := l.all (fun o => match o.op with | .defer _ => false | _ => true)

/-- **A region that draws its order, in a round**: the first m operations read, the others write. -/
theorem wpIn_tail {Q : Exit → Act → World → Prop} {a : Act} {w : World} {l : List Oper} {id lp k : Nat} (m : Nat) (hB : Region.lexTailB .any l.toArray m = true) (hnd : noDefer l = true) (hQ : ∀ a w, ¬ Q .outgrown a w)
    (h : wpStill Try.prog l.toArray w.drew (fun a' => wpList Try.prog l.toArray Q (l.drop m) a' w.drew) (l.take m) a) :
    (Code.region id l.toArray true).wpIn (Fence.wide.inRound lp) k Try.prog Q a w := by
  refine wpIn_region_any (by kernel_rfl) (any_in lp k hQ (fun j o ho c hc => ?_) _ _ _ _ (any_tail m hB h))
  have hmem : o ∈ l := by
    have := List.mem_of_getElem? (l := l) (i := j) (a := o) (by simpa using ho)
    exact this
  have := List.all_eq_true.1 hnd o hmem
  rw [hc] at this
  cases this
end Go.Proofs.Ytkjfpdfkcfgfkaa
