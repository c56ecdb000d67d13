/- Parts of the proof, number 6: contracts of the functions that the statement calls. -/
import Derived.Test.YtkjfpdfkcfgfkaaM5
import Derived.Test.YtkjfpdfkcfgfkaaM4
import Derived.BigQuiet

/- Kept: no solution is lost, and they come in order. -/
namespace Go.Proofs.Ytkjfpdfkcfgfkaa
open Go.RowKit

/-- All lists out of domains, in order, that go on from l. -/
def extD (st : List Nat) : Nat → List Nat → List (List Nat)
  | 0, l => [l]
  | m + 1, l => (vals (st.getD l.length 0)).flatMap (fun v => extD st m (l ++ [v]))
/-- All tables allow it. -/
def goodB (bs : List Tb) (x : List Nat) : Bool := bs.all (fun b => allowB b.rows b.nt (picks b.vars x))
theorem getD_last (l : List Nat) (v : Nat) : (l ++ [v]).getD l.length 0 = v := by simp [List.getD]
theorem getD_before (l r : List Nat) (q : Nat) (h : q < l.length) : (l ++ r).getD q 0 = l.getD q 0 := by simp [List.getD, List.getElem?_append_left h]
theorem prefix_get {l x : List Nat} (h : l <+: x) (q : Nat) (hq : q < l.length) : x.getD q 0 = l.getD q 0 := by
  obtain ⟨r, rfl⟩ := h
  exact getD_before l r q hq
theorem extD_in {st : List Nat} (hd : ∀ q, st.getD q 0 < 64) : ∀ m l x, x ∈ extD st m l → (∀ q, q < l.length → (st.getD q 0).testBit (l.getD q 0) = true) → x.length = l.length + m ∧ l <+: x ∧ ∀ q, q < x.length → (st.getD q 0).testBit (x.getD q 0) = true
  | 0, l, x, hx, hl => by
    obtain rfl := List.mem_singleton.1 hx
    exact ⟨rfl, List.prefix_refl _, hl⟩
  | m + 1, l, x, hx, hl => by
    unfold extD at hx
    obtain ⟨v, hv, hx⟩ := List.mem_flatMap.1 hx
    obtain ⟨h1, h2, h3⟩ := extD_in hd m (l ++ [v]) x hx (fun q hq => by
      rw [List.length_append, List.length_singleton] at hq
      by_cases h : q < l.length
      · rw [getD_before _ _ _ h]
        exact hl q h
      · obtain rfl : q = l.length := by omega
        rw [getD_last]
        exact (vals_mem (hd _)).1 hv)
    rw [List.length_append, List.length_singleton] at h1
    exact ⟨by omega, (List.prefix_append _ _).trans h2, h3⟩
theorem flatMap_if {α β : Type} (p : α → Bool) (f : α → List β) : ∀ l : List α, (l.filter p).flatMap f = l.flatMap (fun a => if p a then f a else [])
  | [] => rfl
  | a :: l => by
    by_cases h : p a = true
    · rw [List.filter_cons_of_pos h, List.flatMap_cons, List.flatMap_cons, if_pos h, flatMap_if p f l]
    · rw [List.filter_cons_of_neg h, List.flatMap_cons, if_neg h, flatMap_if p f l]
      rfl
theorem picks_prefix {vars : List Int} {l x : List Nat} (h : l <+: x) (hv : ∀ i, i < vars.length → (vars.getD i 0).toNat < l.length) : picks vars x = picks vars l := by
  unfold picks
  refine List.map_congr_left fun v hv' => ?_
  obtain ⟨i, hi, e⟩ := List.getElem_of_mem hv'
  have h1 := hv i hi
  have e2 : vars.getD i 0 = v := by simp [List.getD, hi, e]
  rw [e2] at h1
  exact prefix_get h _ h1
theorem lastOf_ge {vars : List Int} (i : Nat) (h : i < vars.length) : vars.getD i 0 ≤ lastOf vars := maxTo_ge vars _ i h
theorem goodB_not {bs : List Tb} {x : List Nat} {b : Tb} (hb : b ∈ bs) (h : allowB b.rows b.nt (picks b.vars x) = false) : goodB bs x = false := by
  cases hg : goodB bs x with
  | false => rfl
  | true =>
    have := List.all_eq_true.1 hg b hb
    rw [h] at this
    cases this
/-- The solutions are what all tables allow. -/
theorem solN_filter {d st : List Nat} {bs : List Tb} {n : Nat} (hst : ∀ q, st.getD q 0 < 64) (hsub : SubD d st) (hv : ∀ b ∈ bs, lastOf b.vars < (n : Int) ∧ ∀ i, i < b.vars.length → 0 ≤ b.vars.getD i 0)
    (hall : ∀ x : List Nat, x.length = n → (∀ q, q < n → (st.getD q 0).testBit (x.getD q 0) = true) → goodB bs x = true → ∀ q, q < n → (d.getD q 0).testBit (x.getD q 0) = true) :
    ∀ m l, l.length + m = n → (∀ q, q < l.length → (st.getD q 0).testBit (l.getD q 0) = true) → (∀ b ∈ bs, lastOf b.vars < (l.length : Int) → allowB b.rows b.nt (picks b.vars l) = true) → solN d bs m l = (extD st m l).filter (goodB bs)
  | 0, l, hn, _, hp => by
    have hg : goodB bs l = true := List.all_eq_true.2 fun b hb => hp b hb (by have := (hv b hb).1; omega)
    simp [solN, extD, hg]
  | m + 1, l, hn, hl, hp => by
    unfold solN extD
    rw [List.filter_flatMap]
    have e1 : vals (d.getD l.length 0) = (List.range 8).filter (fun i => (d.getD l.length 0).testBit i) := rfl
    have e2 : vals (st.getD l.length 0) = (List.range 8).filter (fun i => (st.getD l.length 0).testBit i) := rfl
    rw [e1, e2, flatMap_if, flatMap_if]
    congr 1
    funext v
    by_cases hs : (st.getD l.length 0).testBit v = true
    · have hl' : ∀ q, q < (l ++ [v]).length → (st.getD q 0).testBit ((l ++ [v]).getD q 0) = true := fun q hq => by
        rw [List.length_append, List.length_singleton] at hq
        by_cases h : q < l.length
        · rw [getD_before _ _ _ h]
          exact hl q h
        · obtain rfl : q = l.length := by omega
          rw [getD_last]
          exact hs
      have hlen : (l ++ [v]).length + m = n := by rw [List.length_append, List.length_singleton]; omega
      rw [if_pos hs]
      by_cases hd : (d.getD l.length 0).testBit v = true
      · rw [if_pos hd]
        by_cases hf : fitsB bs (l ++ [v]) = true
        · rw [if_pos hf]
          refine solN_filter hst hsub hv hall m (l ++ [v]) hlen hl' fun b hb hlt => ?_
          rw [List.length_append, List.length_singleton] at hlt
          by_cases hlast : lastOf b.vars = (l.length : Int)
          · have := List.all_eq_true.1 hf b hb
            simp only [Bool.or_eq_true, decide_eq_true_eq, List.length_append, List.length_singleton] at this
            rcases this with h | h
            · exact absurd (by omega) h
            · exact h
          · have h1 : lastOf b.vars < (l.length : Int) := by omega
            rw [picks_prefix (List.prefix_append l [v]) (fun i hi => by have := lastOf_ge i hi; have := (hv b hb).2 i hi; omega)]
            exact hp b hb h1
        · rw [if_neg hf]
          symm
          rw [List.filter_eq_nil_iff]
          intro x hx
          obtain ⟨h1, h2, h3⟩ := extD_in hst m (l ++ [v]) x hx hl'
          have hnf : fitsB bs (l ++ [v]) = false := by simpa using hf
          unfold fitsB at hnf
          rw [List.all_eq_false] at hnf
          obtain ⟨b, hb, hbn⟩ := hnf
          simp only [Bool.or_eq_true, decide_eq_true_eq, not_or, Decidable.not_not, List.length_append, List.length_singleton] at hbn
          obtain ⟨g1, g2⟩ := hbn
          rw [goodB_not hb (by
            rw [picks_prefix h2 (fun i hi => by
              have := lastOf_ge i hi
              have := (hv b hb).2 i hi
              rw [List.length_append, List.length_singleton]
              omega)]
            simpa using g2)]
          simp
      · rw [if_neg hd]
        symm
        rw [List.filter_eq_nil_iff]
        intro x hx hg
        obtain ⟨h1, h2, h3⟩ := extD_in hst m (l ++ [v]) x hx hl'
        have hx1 : x.length = n := by omega
        have := hall x hx1 (fun q hq => h3 q (by omega)) hg l.length (by omega)
        rw [prefix_get h2 l.length (by simp), getD_last] at this
        exact hd this
    · have hd : ¬ (d.getD l.length 0).testBit v = true := fun h => hs (hsub _ _ h)
      rw [if_neg hs, if_neg hd]
/-- What all tables allow lies within the closure. -/
theorem clo_all {n : Nat} {bs : List Tb} {st d x : List Nat} (h : Closure n bs st d) (hx : x.length = n) (hin : ∀ q, q < n → (st.getD q 0).testBit (x.getD q 0) = true) (hg : goodB bs x = true) (hv : ∀ b ∈ bs, lastOf b.vars < (n : Int) ∧ ∀ i, i < b.vars.length → 0 ≤ b.vars.getD i 0) :
    ∀ q, q < n → (d.getD q 0).testBit (x.getD q 0) = true := by
  have hget : ∀ q, q < n → (x.map (fun k => 2 ^ k)).getD q 0 = 2 ^ (x.getD q 0) := fun q hq => by simp [List.getD, hx, hq]
  have hout : ∀ q, ¬ q < n → (x.map (fun k => 2 ^ k)).getD q 0 = 0 := fun q hq => by
    simp only [List.getD, List.getElem?_map]
    rw [List.getElem?_eq_none (by omega)]
    rfl
  have hbit : ∀ q u, ((x.map (fun k => 2 ^ k)).getD q 0).testBit u = true → q < n ∧ u = x.getD q 0 := fun q u hu => by
    by_cases hq : q < n
    · rw [hget q hq, Nat.testBit_two_pow] at hu
      exact ⟨hq, by simpa using (of_decide_eq_true hu).symm⟩
    · rw [hout q hq] at hu
      simp at hu
  have hsub : SubD (x.map (fun k => 2 ^ k)) st := fun q u hu => by
    obtain ⟨h1, rfl⟩ := hbit q u hu
    exact hin q h1
  have hsup : ∀ b ∈ bs, SuppAll b (x.map (fun k => 2 ^ k)) := fun b hb i v hi hb' => by
    obtain ⟨h1, rfl⟩ := hbit _ _ hb'
    refine ⟨picks b.vars x, ⟨by simp [picks], fun j hj => ?_⟩, picks_get b.vars x i hi, (allowB_iff _ _ _).1 (List.all_eq_true.1 hg b hb)⟩
    have h2 := lastOf_ge j hj
    have h3 := (hv b hb).1
    have h4 := (hv b hb).2 j hj
    rw [picks_get b.vars x j hj, hget _ (by omega), Nat.testBit_two_pow]
    simp
  have hfull : Full n (x.map (fun k => 2 ^ k)) := fun q hq => by
    rw [hget q hq]
    exact Nat.ne_of_gt (Nat.two_pow_pos _)
  by_cases hF : Full n d
  · intro q hq
    refine (h.full hF).2.2 _ hsub hsup q _ ?_
    rw [hget q hq, Nat.testBit_two_pow]
    simp
  · exact absurd hfull ((h.none hF).2 _ hsub hsup)
/-- A Work's solutions are what all tables allow, out of what was not removed. -/
theorem PSem.sols {w : World} {X : Nat} {zs : List Int} {s : WS} {bs : List Tb} {st : List Nat} (hA : WAt w X zs s) (h : PSem zs s bs st) (hv : ∀ b ∈ bs, lastOf b.vars < (zs.length : Int) ∧ ∀ i, i < b.vars.length → 0 ≤ b.vars.getD i 0) :
    solN s.d s.bs zs.length [] = (extD st zs.length []).filter (goodB bs) := by
  have hall : ∀ x : List Nat, x.length = zs.length → (∀ q, q < zs.length → (st.getD q 0).testBit (x.getD q 0) = true) → goodB bs x = true → ∀ q, q < zs.length → (s.d.getD q 0).testBit (x.getD q 0) = true := fun x hx h1 h2 => clo_all h.clo hx h1 h2 hv
  by_cases hF : Full zs.length s.d
  · rw [h.all hF]
    exact solN_filter h.sdm.lt (h.clo.full hF).1 hv hall zs.length [] (by simp) (fun q hq => absurd hq (Nat.not_lt_zero _)) (fun b hb hlt => by
      exfalso
      by_cases hp : 0 < b.vars.length
      · have h1 := lastOf_ge 0 hp
        have h2 := (hv b hb).2 0 hp
        simp at hlt
        omega
      · have : b.vars = [] := List.eq_nil_of_length_eq_zero (by omega)
        have hk := hA.mem.tbok
        have hb2 : b ∈ s.bs := by rw [h.all hF]; exact hb
        obtain ⟨k, hk1, hk2⟩ := List.getElem_of_mem hb2
        have e : s.bs.getD k tb0 = b := by simp [List.getD, hk1, hk2]
        have := (hk k hk1).1.pos
        rw [e] at this
        omega)
  · have hz := hA.dead_iff.2 hF
    obtain ⟨m, hm⟩ : ∃ m, zs.length = m + 1 := ⟨zs.length - 1, by have := (okSizes_len hA.mem.zok).1; omega⟩
    have e1 : solN s.d s.bs zs.length [] = [] := by rw [hm]; exact solN_dead _ hz m
    rw [e1]
    symm
    rw [List.filter_eq_nil_iff]
    intro x hx hg
    obtain ⟨h1, _, h3⟩ := extD_in h.sdm.lt zs.length [] x hx (fun q hq => absurd hq (Nat.not_lt_zero _))
    have hx1 : x.length = zs.length := by simpa using h1
    have := hall x hx1 (fun q hq => h3 q (by omega)) hg 0 (by omega)
    rw [hz] at this
    simp at this
/-- All lists of values, in order. -/
def cntL : List Nat → List (List Nat)
  | [] => [[]]
  | z :: zs => (List.range z).flatMap (fun v => (cntL zs).map (v :: ·))
/-- Those from a list on. -/
def rest : List Nat → List Nat → List (List Nat)
  | z :: zs, v :: l => (rest zs l).map (v :: ·) ++ (List.range' (v + 1) (z - (v + 1))).flatMap (fun u => (cntL zs).map (u :: ·))
  | _, _ => [[]]
/-- The next one. -/
def nxt : List Nat → List Nat → Option (List Nat)
  | z :: zs, v :: l => match nxt zs l with
    | some l' => some (v :: l')
    | none => if v + 1 < z then some ((v + 1) :: List.replicate zs.length 0) else none
  | _, _ => none
def nxtL (zs : List Nat) : Option (List Nat) → List (List Nat)
  | some l => rest zs l
  | none => []
end Go.Proofs.Ytkjfpdfkcfgfkaa

/- Squares: the numbers. -/
namespace Go.Proofs.Ytkjfpdfkcfgfkaa
open Go.RowKit

def rowsQ : List (List Int) := [[0, 0], [1, 1], [2, 2]]
def tbQ (a b : Int) : Tb := ⟨[a, b], rowsQ, true⟩
def bsQ : List Tb := [tbQ 0 1, tbQ 3 4, tbQ 0 3, tbQ 1 2, tbQ 4 5, tbQ 1 4, tbQ 2 0, tbQ 5 3, tbQ 2 5]
def zsQ : List Int := [3, 3, 3, 3, 3, 3]
def stQ : List Nat := [7, 7, 7, 7, 7, 7, 0, 0]
theorem fullQ : fullTo zsQ zsQ.length = stQ := by decide
/-- Six digits, the least first. -/
def dig (c : Nat) : List Nat := [c % 3, c / 3 % 3, c / 3 / 3 % 3, c / 3 / 3 / 3 % 3, c / 3 / 3 / 3 / 3 % 3, c / 3 / 3 / 3 / 3 / 3 % 3]
def undig : List Nat → Nat
  | [a, b, c, d, e, f] => a + 3 * (b + 3 * (c + 3 * (d + 3 * (e + 3 * f))))
  | _ => 0
theorem allQ : extD stQ 6 [] = (List.range 729).map (fun c => (dig c).reverse) := by decide +kernel
theorem digQ : ((List.range 729).map dig).map undig = List.range 729 := by decide +kernel
theorem gidQ : ((List.range 729).map (fun c => (dig c).reverse)).map (fun x => undig x.reverse) = List.range 729 := by decide +kernel
theorem inQ1 : ((List.range 729).map dig).all (fun x => (dig (undig x.reverse)).reverse == x && decide (undig x.reverse < 729)) = true := by decide +kernel
theorem inQ2 : ((List.range 729).map (fun c => (dig c).reverse)).all (fun x => dig (undig x) == x && decide (undig x < 729)) = true := by decide +kernel
theorem permQ : (extD stQ 6 []).Perm ((List.range 729).map dig) := by
  rw [allQ]
  refine (List.perm_ext_iff_of_nodup ?_ ?_).2 fun x => ⟨fun h => ?_, fun h => ?_⟩
  · have h : (((List.range 729).map (fun c => (dig c).reverse)).map (fun x => undig x.reverse)).Nodup := by rw [gidQ]; exact List.nodup_range
    exact h.of_map _ (fun a b hn e => hn (by rw [e]))
  · have h : (((List.range 729).map dig).map undig).Nodup := by rw [digQ]; exact List.nodup_range
    exact h.of_map _ (fun a b hn e => hn (by rw [e]))
  · have := List.all_eq_true.1 inQ2 x h
    simp only [Bool.and_eq_true, beq_iff_eq, decide_eq_true_eq] at this
    exact List.mem_map.2 ⟨undig x, List.mem_range.2 this.2, this.1⟩
  · have := List.all_eq_true.1 inQ1 x h
    simp only [Bool.and_eq_true, beq_iff_eq, decide_eq_true_eq] at this
    exact List.mem_map.2 ⟨undig x.reverse, List.mem_range.2 this.2, this.1⟩
theorem twelve : ((extD stQ 6 []).filter (goodB bsQ)).length = 12 := by decide +kernel
theorem someQ : goodB bsQ [0, 1, 2, 1, 2, 0] = true := by decide +kernel
/-- What was given holds. -/
def wantB (want : List (Nat × Nat)) (x : List Nat) : Bool := want.all (fun p => x.getD p.1 0 == p.2)
def fixAll (st : List Nat) (l : List (Nat × Nat)) : List Nat := l.foldl (fun st p => st.set p.1 (fixV (st.getD p.1 0) p.2)) st
theorem fixAll_one (st : List Nat) (l : List (Nat × Nat)) (p : Nat × Nat) : fixAll st (l ++ [p]) = (fixAll st l).set p.1 (fixV ((fixAll st l).getD p.1 0) p.2) := by
  unfold fixAll
  rw [List.foldl_append]
  rfl
theorem bit_fixAll {q u : Nat} : ∀ (l : List (Nat × Nat)) {st : List Nat}, Dm st → (∀ p ∈ l, p.1 < 8) → (((fixAll st l).getD q 0).testBit u = true ↔ (st.getD q 0).testBit u = true ∧ ∀ p ∈ l, p.1 = q → p.2 = u)
  | [], st, _, _ => ⟨fun h => ⟨h, fun p hp => (by cases hp)⟩, fun h => h.1⟩
  | p :: l, st, hd', hl => by
    have hp : p.1 < st.length := by rw [hd'.len]; exact hl p (by simp)
    have e1 : fixAll st (p :: l) = fixAll (st.set p.1 (fixV (st.getD p.1 0) p.2)) l := rfl
    rw [e1, bit_fixAll l (fix_dm hd' _ _) (fun q hq => hl q (by simp [hq])), set_get _ _ _ _ hp]
    constructor
    · rintro ⟨h1, h2⟩
      split at h1
      · rename_i e
        subst e
        rw [fixV_bit] at h1
        simp at h1
        refine ⟨h1.1, fun p' hp' he => ?_⟩
        rcases List.mem_cons.1 hp' with rfl | hp'
        · exact h1.2
        · exact h2 p' hp' he
      · rename_i e
        refine ⟨h1, fun p' hp' he => ?_⟩
        rcases List.mem_cons.1 hp' with rfl | hp'
        · exact absurd he e
        · exact h2 p' hp' he
    · rintro ⟨h1, h2⟩
      refine ⟨?_, fun p' hp' => h2 p' (by simp [hp'])⟩
      split
      · rename_i e
        subst e
        rw [fixV_bit, h1, h2 p (by simp) rfl]
        simp
      · exact h1
/-- Lists out of fewer values. -/
theorem extD_sub {st st' : List Nat} (hst : ∀ q, st.getD q 0 < 64) (hs : SubD st' st) : ∀ m l, (∀ q, q < l.length → (st.getD q 0).testBit (l.getD q 0) = true) → (∀ q, q < l.length → (st'.getD q 0).testBit (l.getD q 0) = true) → extD st' m l = (extD st m l).filter (fun x => (List.range (l.length + m)).all (fun q => (st'.getD q 0).testBit (x.getD q 0)))
  | 0, l, _, h => by
    have : (List.range (l.length + 0)).all (fun q => (st'.getD q 0).testBit (l.getD q 0)) = true := List.all_eq_true.2 fun q hq => h q (by simpa using hq)
    show [l] = List.filter _ [l]
    simp only [List.filter_cons, this, if_true, List.filter_nil]
  | m + 1, l, hl, h => by
    unfold extD
    rw [List.filter_flatMap]
    have e1 : vals (st'.getD l.length 0) = (List.range 8).filter (fun i => (st'.getD l.length 0).testBit i) := rfl
    have e2 : vals (st.getD l.length 0) = (List.range 8).filter (fun i => (st.getD l.length 0).testBit i) := rfl
    rw [e1, e2, flatMap_if, flatMap_if]
    congr 1
    funext v
    have hext : ∀ (d : List Nat), (∀ q, q < l.length → (d.getD q 0).testBit (l.getD q 0) = true) → (d.getD l.length 0).testBit v = true → ∀ q, q < (l ++ [v]).length → (d.getD q 0).testBit ((l ++ [v]).getD q 0) = true := fun d hd' hb q hq => by
      rw [List.length_append, List.length_singleton] at hq
      by_cases h : q < l.length
      · rw [getD_before _ _ _ h]
        exact hd' q h
      · obtain rfl : q = l.length := by omega
        rw [getD_last]
        exact hb
    by_cases h1 : (st.getD l.length 0).testBit v = true
    · rw [if_pos h1]
      by_cases h2 : (st'.getD l.length 0).testBit v = true
      · rw [if_pos h2, extD_sub hst hs m (l ++ [v]) (hext st hl h1) (hext st' h h2), List.length_append, List.length_singleton, show l.length + 1 + m = l.length + (m + 1) by omega]
      · rw [if_neg h2]
        symm
        rw [List.filter_eq_nil_iff]
        intro x hx hg
        obtain ⟨_, g2, _⟩ := extD_in hst m (l ++ [v]) x hx (hext st hl h1)
        have := List.all_eq_true.1 hg l.length (by simp)
        rw [prefix_get g2 l.length (by simp), getD_last] at this
        exact h2 this
    · rw [if_neg h1, if_neg (fun h2 => h1 (hs _ _ h2))]
theorem fixAll_sub {st : List Nat} {l : List (Nat × Nat)} (hd' : Dm st) (hl : ∀ p ∈ l, p.1 < 8) : SubD (fixAll st l) st := fun _ _ h => ((bit_fixAll l hd' hl).1 h).1
theorem stQ_dm : Dm stQ := dmB_of (by decide)
theorem len6 {x : List Nat} (h : x ∈ extD stQ 6 []) : x.length = 6 ∧ ∀ q, q < 6 → (stQ.getD q 0).testBit (x.getD q 0) = true := by
  obtain ⟨h1, _, h3⟩ := extD_in stQ_dm.lt 6 [] x h (fun q hq => absurd hq (Nat.not_lt_zero _))
  have h1' : x.length = 6 := by simpa using h1
  exact ⟨h1', fun q hq => h3 q (by omega)⟩
/-- The solutions with what was given. -/
theorem fixQ (want : List (Nat × Nat)) (hw : ∀ p ∈ want, p.1 < 6) : (extD (fixAll stQ want) 6 []).filter (goodB bsQ) = (extD stQ 6 []).filter (fun x => goodB bsQ x && wantB want x) := by
  have h8 : ∀ p ∈ want, p.1 < 8 := fun p hp => by have := hw p hp; omega
  rw [extD_sub stQ_dm.lt (fixAll_sub stQ_dm h8) 6 [] (fun q hq => absurd hq (Nat.not_lt_zero _)) (fun q hq => absurd hq (Nat.not_lt_zero _)), List.filter_filter]
  refine List.filter_congr fun x hx => ?_
  obtain ⟨_, h3⟩ := len6 hx
  congr 1
  rw [Bool.eq_iff_iff]
  unfold wantB
  simp only [List.all_eq_true, List.mem_range, beq_iff_eq]
  constructor
  · intro h p hp
    have hp6 := hw p hp
    have := h p.1 (by simpa using hp6)
    exact (((bit_fixAll want stQ_dm h8).1 this).2 p hp rfl).symm
  · intro h q hq
    have hq6 : q < 6 := by simpa using hq
    refine (bit_fixAll want stQ_dm h8).2 ⟨h3 q hq6, fun p hp e => ?_⟩
    rw [← e]
    exact (h p hp).symm
/-- As many as by trying. -/
theorem triedQ (want : List (Nat × Nat)) (hw : ∀ p ∈ want, p.1 < 6) : ((extD (fixAll stQ want) 6 []).filter (goodB bsQ)).length = ((List.range 729).filter (fun c => goodB bsQ (dig c) && wantB want (dig c))).length := by
  rw [fixQ want hw, ← List.countP_eq_length_filter, ← List.countP_eq_length_filter, permQ.countP_eq, List.countP_map]
  rfl
end Go.Proofs.Ytkjfpdfkcfgfkaa

/- A function that holds a range over solutions, and whose answer lies in a cell. -/
namespace Go.Proofs.Ytkjfpdfkcfgfkaa
open Go.RowKit Go.Shelf

/-- How a function ends that held one range over solutions: its answer lies in a cell. -/
structure MarkEnd (w : World) (p Rb : Nat) (a : Act) (W : World) : Prop where
  ptr : a.tmps.getD p undef = .pointer (some ⟨Rb, 0, none⟩)
  cell : W.cell? ⟨Rb, 0, none⟩ = some (.bool true)
  mark : ∃ D, a.defers = [mark D] ∧ W.heap[D]? = some (.deferred (some [])) ∧ w.heap.size ≤ D
  nw : Nw w W
def markPost (w : World) (p Rb : Nat) : Exit → Act → World → Prop
  | .normal, a, W | .ret, a, W => MarkEnd w p Rb a W
  | _, _, _ => False
theorem calls_marks {f : FuncId} {fn : Func} {c : Code} {args : Array Value} {w : World} {p Rb : Nat} (hf : Try.prog.funcs[f]? = some fn) (hb : fn.body = some c) (hr : fn.results = #[.cell p 4])
    (h : c.wp Try.prog (markPost w p Rb) { tmps := args ++ Array.replicate (fn.ntmps - args.size) undef, defers := [] } w) : Calls Try.prog f args w fun e w' => e = .returned (.bool true) ∧ Nw w w' := by
  have key : ∀ (a : Act) (W : World), MarkEnd w p Rb a W → LeavesInM Fence.wide 9 Try.prog fn a.tmps (fun e w' => e = .returned (.bool true) ∧ Nw w w') a.defers .returning W := fun a W hm => by
    obtain ⟨D, hD, hK, hs⟩ := hm.mark
    rw [hD]
    refine ⟨by simp, .inl ⟨_, _, rfl, run_takeDeferred hK, ?_⟩⟩
    have hpD : Fr (fun k => k = D) W (W.putObj D (.deferred none)) := (Fr.refl (fun k => k = D) W).grown (grownBy_putObj' W D _) (fun k hk => by cases hk; exact .inl rfl)
    have hne : Rb ≠ D := fun e => by
      have hc := hm.cell
      rw [e] at hc
      unfold World.cell? at hc
      rw [hK] at hc
      cases hc
    have hlt : Rb < W.heap.size := by
      refine Classical.byContradiction fun hn => ?_
      have hc := hm.cell
      unfold World.cell? at hc
      rw [Array.getElem?_eq_none (show W.heap.size ≤ Rb by omega)] at hc
      cases hc
    refine ⟨_, results_cell1 (v := .bool true) hr hm.ptr (by kernel_rfl) ((hpD.cell hlt hne).trans hm.cell), rfl, hm.nw.trans hpD (fun i h => .inr (by omega))⟩
  refine (callsIn_wide (n := 9)).1 ?_
  refine callsIn_of_wp_marks hf hb trivial (wpIn_wide.2 (Code.wp_mono (fun e a W hq => ?_) h)) rfl
  cases e with
  | normal => exact key a W hq
  | ret => exact key a W hq
  | _ => exact False.elim hq

/-- A range over solutions, whose body always ends. -/
theorem wp_sols2 {n X : Nat} {zs : List Int} {s : WS} {g : Operand} {t : Tmp} {assign body : Code} {Q : Exit → Act → World → Prop} {a : Act} {w : World} (t2 : Tmp)
    (hg : a.eval g = .func (.func 46) #[.pointer (some ⟨X, 0, none⟩)] #[]) (hA : WAt w X zs s) (hbz : s.l.busy = false)
    (hassign : ∀ (l : Nat) (v : Value) (W : World) (K : Act → World → Prop), K { tmps := (a.tmps.setIfInBounds t v).setIfInBounds t2 v, defers := [] } W → assign.wpIn (Fence.wide.inRound l) (n - 1 - 1) Try.prog (Exit.then K (fun _ _ _ => False)) { tmps := a.tmps.setIfInBounds t v, defers := [] } W)
    (I : List (List Nat) → (Nat → Prop) → World → Prop) (hI : SolInv X w.heap.size I) (C : Nat → Prop) (hC : ∀ k, s.own X k → ¬ C k) (h0 : I [] C w)
    (hround : ∀ (l : Nat) (done : List (List Nat)) (C : Nat → Prop) (x : List Nat) (b cap : Nat) (W : World), (done ++ [x]) <+: solN s.d s.bs zs.length [] → I done C W → WAt W X zs (s.busyAs true) → w.heap.size ≤ b → ¬ C b → Row W (.slice (some ⟨b, 0, none⟩) x.length cap) 3 (ints x) →
      body.wpIn (Fence.wide.inRound l) (n - 1 - 1) Try.prog (solPost (I (done ++ [x])) (fun _ _ => False) 0 C b W) { tmps := (a.tmps.setIfInBounds t (.slice (some ⟨b, 0, none⟩) x.length cap)).setIfInBounds t2 (.slice (some ⟨b, 0, none⟩) x.length cap), defers := [] } W)
    (hdone : ∀ (D : Nat) (C' : Nat → Prop) (W : World), w.heap.size ≤ D → (∀ k, C' k → C k ∨ w.heap.size ≤ k) → I (solN s.d s.bs zs.length []) C' W → WAt W X zs s → Fr (fun k => C k ∨ k = X) w W → W.heap[D]? = some (.deferred (some [])) → Q .normal { a with defers := mark D :: a.defers } W) :
    (Code.rangeFunc g #[t] assign body).wp Try.prog Q a w := by
  refine (wpIn_wide (n := n)).1 ?_
  exact wp_sols (id := 0) (zs := zs) (s := s) (fun v => { tmps := (a.tmps.setIfInBounds t v).setIfInBounds t2 v, defers := [] }) hg hA hbz hA.pos hassign I (fun _ _ _ => False) hI ⟨fun _ _ _ _ _ h => h.elim, fun _ _ _ _ h => h.elim⟩ C hC h0 hround hdone (fun _ _ _ _ _ _ _ _ h => h.elim)

/-- Two numbers differ. -/
theorem exec_neI {ev : Operand → Value} {o : Oper} {w : World} (a b : Int) (r : Bool) (x y : Operand) (ho : o.op = .binOp .neq 3 x y 3) (hx : ev x = .int .i64 a) (hy : ev y = .int .i64 b) (hr : (!(a == b)) = r) : (execOp ev o).run Try.prog w = .ok (.value (.bool r)) w := by
  have h2 : (eqGuard .neq 3 x y (.int .i64 a) (.int .i64 b)).run Try.prog w = .ok () w := by kernel_rfl
  have h3 : (binOp .neq 3 (.int .i64 a) (.int .i64 b)).run Try.prog w = .ok (.bool (!(a == b))) w := by kernel_rfl
  unfold execOp
  simp [ho, hx, hy, h2, h3, hr, Result.andThen]
theorem prefix_last {α : Type} {done all : List α} {x d : α} (h : (done ++ [x]) <+: all) : done.length < all.length ∧ all.getD done.length d = x ∧ x ∈ all := by
  obtain ⟨r, rfl⟩ := h
  refine ⟨by simp, ?_, by simp⟩
  simp [List.getD]
end Go.Proofs.Ytkjfpdfkcfgfkaa

/- Back: what is fixed and removed behind a Push, and taken back. -/
namespace Go.Proofs.Ytkjfpdfkcfgfkaa
open Go.RowKit

/-- The domains at level 0. -/
def baseD (s : WS) : List Nat := match s.sk.getLast? with
  | some p => p.2.1
  | none => s.d
/-- Two fretworks: the first is at a level, the second stays. -/
structure BInv (W0 w : World) (X Y : Nat) (zs : List Int) (s t : WS) (d0 : List Nat) (lev : Nat) : Prop where
  a : WAt w X zs s
  b : WAt w Y zs t
  apart : ∀ q, t.own Y q → ¬ s.own X q
  since : Since W0 X s
  nw : Nw W0 w
  ba : s.l.busy = false
  bb : t.l.busy = false
  lev : s.sk.length = lev
  base : baseD s = d0
theorem In64.div {c : Int} (h : In64 c) (k : Nat) (hk : 2 ≤ k) : In64 (c.tdiv k) := by
  unfold In64 at *
  have h1 : (c.tdiv k).natAbs = c.natAbs / k := by rw [Int.natAbs_tdiv]; rfl
  have h2 : c.natAbs / k ≤ c.natAbs / 2 := Nat.div_le_div_left hk (by omega)
  omega
theorem In64.wrap {c : Int} (h : In64 c) : wrap64 c = c := by
  unfold In64 at h
  unfold wrap64
  omega
theorem In64.div8 {c : Int} (h : In64 c) : In64 (c.tdiv 8) := h.div 8 (by omega)
end Go.Proofs.Ytkjfpdfkcfgfkaa

/- Squares: the walk. -/
namespace Go.Proofs.Ytkjfpdfkcfgfkaa
open Go.RowKit Go.Shelf
attribute [local go_sem] Oper.semAt_some

/-- The rows that all nine tables share. -/
structure SamQ (w : World) (g : Nat) : Prop where
  k0 : Blk w g #[.int .i64 0, .int .i64 0] 3
  k1 : Blk w (g + 1) #[.int .i64 1, .int .i64 1] 3
  k2 : Blk w (g + 1 + 1) #[.int .i64 2, .int .i64 2] 3
  k3 : Blk w (g + 1 + 1 + 1) #[.slice (some ⟨g, 0, none⟩) 2 2, .slice (some ⟨g + 1, 0, none⟩) 2 2, .slice (some ⟨g + 1 + 1, 0, none⟩) 2 2] 22
theorem SamQ.rows {w : World} {g : Nat} (h : SamQ w g) : RowsAt w (some ⟨g + 1 + 1 + 1, 0, none⟩) rowsQ := fun i hi => by
  match i, hi with
  | 0, _ => exact ⟨_, 0, _, 2, rfl, h.k3.lt, h.k3.cell 0, ints2 h.k0⟩
  | 1, _ => exact ⟨_, 0, _, 2, rfl, h.k3.lt, h.k3.cell 1, ints2 h.k1⟩
  | 2, _ => exact ⟨_, 0, _, 2, rfl, h.k3.lt, h.k3.cell 2, ints2 h.k2⟩
theorem SamQ.nw {w w' : World} {g : Nat} (h : SamQ w g) (f : Nw w w') : SamQ w' g := ⟨h.k0.nw f, h.k1.nw f, h.k2.nw f, h.k3.nw f⟩
theorem varsQ : bsQ.all (fun b => decide (lastOf b.vars < (6 : Int)) && (List.range b.vars.length).all (fun i => decide (0 ≤ b.vars.getD i 0))) = true := by decide +kernel
theorem hvQ (m : Nat) : ∀ b ∈ bsQ.take m, lastOf b.vars < ((zsQ.length : Nat) : Int) ∧ ∀ i, i < b.vars.length → 0 ≤ b.vars.getD i 0 := fun b hb => by
  have := List.all_eq_true.1 varsQ b (List.mem_of_mem_take hb)
  simp only [Bool.and_eq_true, decide_eq_true_eq, List.all_eq_true, List.mem_range] at this
  exact ⟨this.1, this.2⟩
/-- There is a solution: so it lives. -/
theorem aliveQ {s : WS} (m : Nat) (h : PSem zsQ s (bsQ.take m) stQ) : s.d.getD 0 0 ≠ 0 := by
  have hg : goodB (bsQ.take m) [0, 1, 2, 1, 2, 0] = true := List.all_eq_true.2 fun b hb => List.all_eq_true.1 someQ b (List.mem_of_mem_take hb)
  have := clo_all (x := [0, 1, 2, 1, 2, 0]) h.clo rfl (by decide) hg (hvQ m) 0 (by decide)
  intro e
  rw [e] at this
  simp at this
/-- Post, where it lives. -/
theorem post_su {w : World} {X : Nat} {zs : List Int} {s : WS} {bs : List Tb} {st : List Nat} {vo ro : Option Addr} {vcap rcap : Nat} {vars : List Int} {rows : List (List Int)} {nt : Bool} {way : Int} (hA : WAt w X zs s) (h : PSem zs s bs st) (hb : bs.length < 12) (h0 : s.d.getD 0 0 ≠ 0)
    (hok : okTable zs vars rows way = true) (hvcap : vars.length ≤ vcap) (hvs : IntsAt w vo vars) (hrs : RowsAt w ro rows) :
    Calls Try.prog 31 #[.pointer (some ⟨X, 0, none⟩), .agg #[.slice vo vars.length vcap, .slice ro rows.length rcap, .bool nt, .int .i64 way]] w fun e w' => e = .returned (.int .i64 0) ∧ ∃ s', WAt w' X zs s' ∧ WStep w w' X s s' ∧ PSem zs s' (bs ++ [⟨vars, rows, nt⟩]) st := by
  have hfew := h.few
  have hp : postOf zs s vars rows way = 0 := by
    unfold postOf
    rw [if_neg (by rw [hok]; simp), if_neg (by omega), if_neg (by rw [h.sk]; simp), if_neg h0]
  have hF : Full zs.length s.d := hA.good.full h0
  refine (post_yes X vo ro vcap rcap zs s vars rows nt way w hA h.busy hvcap hvs hrs hp).mono ?_
  rintro e w' ⟨rfl, so, tcap, x, d', bv, ts, us, h1, h2, h3, h4⟩
  have hbs : s.bs = bs := h.all hF
  refine ⟨rfl, _, h3, h4, h.busy, h.sk, ?_, fun _ => by show s.bs ++ [_] = _; rw [hbs], ?_, h.sdm⟩
  · rw [hbs] at h1
    exact h.clo.more hF (fun b hb => List.mem_append_left _ hb) h1
  · have e1 := h3.mem.fits.1
    rw [e1]
    show (s.bs ++ [_]).length ≤ _
    rw [hbs]
    exact Nat.le_refl _
/-- Some of the tables are posted. -/
structure SqI (w0 w : World) (X g : Nat) (s : WS) (m : Nat) : Prop where
  at_ : WAt w X zsQ s
  sem : PSem zsQ s (bsQ.take m) stQ
  sam : SamQ w g
  own : ∀ j, j ≤ 3 → ¬ s.own X (g + j)
  since : Since w0 X s
  nw : Nw w0 w
theorem SqI.step {w0 w w' : World} {X g : Nat} {s : WS} {m : Nat} (h : SqI w0 w X g s m) (f : Nw w w') : SqI w0 w' X g s m := ⟨h.at_.nw f, h.sem, h.sam.nw f, h.own, h.since, h.nw.trans f (fun _ x => x.elim)⟩
theorem sq_post {w0 w : World} {X g vb : Nat} {s : WS} {m : Nat} {a b way : Int} (h : SqI w0 w X g s m) (hm : bsQ.take (m + 1) = bsQ.take m ++ [tbQ a b]) (hml : m < 9) (hok : okTable zsQ [a, b] rowsQ way = true) (hv : Blk w vb #[.int .i64 a, .int .i64 b] 3) :
    Calls Try.prog 31 #[.pointer (some ⟨X, 0, none⟩), .agg #[.slice (some ⟨vb, 0, none⟩) 2 2, .slice (some ⟨g + 1 + 1 + 1, 0, none⟩) 3 3, .bool true, .int .i64 way]] w fun e w' => e = .returned (.int .i64 0) ∧ ∃ s', SqI w0 w' X g s' (m + 1) := by
  refine (post_su (vars := [a, b]) (rows := rowsQ) (nt := true) (way := way) h.at_ h.sem (by simp [bsQ]; omega) (aliveQ m h.sem) hok (Nat.le_refl 2) (ints2 hv) h.sam.rows).mono ?_
  rintro e w' ⟨rfl, s', h1, h2, h3⟩
  obtain ⟨h4, h5⟩ := h2.since h.since h.nw
  obtain ⟨a0, b0⟩ := h2.blk h.sam.k0 (h.own 0 (by omega))
  obtain ⟨a1, b1⟩ := h2.blk h.sam.k1 (h.own 1 (by omega))
  obtain ⟨a2, b2⟩ := h2.blk h.sam.k2 (h.own 2 (by omega))
  obtain ⟨a3, b3⟩ := h2.blk h.sam.k3 (h.own 3 (by omega))
  refine ⟨rfl, s', h1, by rw [hm]; exact h3, ⟨a0, a1, a2, a3⟩, fun j hj => ?_, h4, h5⟩
  have hc : j = 0 ∨ j = 1 ∨ j = 2 ∨ j = 3 := by omega
  rcases hc with rfl | rfl | rfl | rfl
  · exact b0
  · exact b1
  · exact b2
  · exact b3

/-- Fix, where it lives. -/
theorem fix_su {w : World} {X : Nat} {zs : List Int} {s : WS} {bs : List Tb} {st : List Nat} {v value : Nat} (hA : WAt w X zs s) (h : PSem zs s bs st) (h0 : s.d.getD 0 0 ≠ 0) (hv : v < zs.length) (hx : (value : Int) < zs.getD v 0) :
    Calls Try.prog 18 #[.pointer (some ⟨X, 0, none⟩), .int .i64 v, .int .i64 value] w fun e w' => e = .returned (.int .i64 0) ∧ ∃ s', WAt w' X zs s' ∧ WStep w w' X s s' ∧ PSem zs s' bs (st.set v (fixV (st.getD v 0) value)) := by
  have hf := fault_ok (d := s.d) hv hx
  have h8 := (okSizes_len hA.mem.zok).2
  have hv8 : v < st.length := by rw [h.sdm.len]; omega
  rw [if_neg h0] at hf
  have hF : Full zs.length s.d := hA.good.full h0
  refine (fix_yes X zs s v value w hA h.busy hf).mono ?_
  rintro e w' ⟨rfl, d', bv, ts, us, h1, h2, h3, h4⟩
  have hbs : s.bs = bs := h.all hF
  refine ⟨rfl, _, h3, h4, h.busy, h.sk, ?_, fun _ => hbs, ?_, fix_dm h.sdm _ _⟩
  · rw [hbs] at h1
    exact h.clo.cut hF _ (fun e => sub_fix hv8) (fun e => sub_fix (by rw [hA.good.dm.len]; omega)) h1
  · have e1 := h3.mem.fits.1
    rw [e1]
    show s.bs.length ≤ _
    rw [hbs]
    exact Nat.le_refl _
def pairC (p : Nat × Nat) : List Value := [.int .i64 (p.1 : Int), .int .i64 (p.2 : Int)]
/-- What was given, in memory. -/
structure WantAt (w : World) (Wn : Nat) (wv : Value) (want : List (Nat × Nat)) : Prop where
  blk : Blk w Wn #[wv] 62
  row : w.ownsRow 0 63 2 wv want.length (want.flatMap pairC)
  ok : ∀ p ∈ want, p.1 < 6 ∧ p.2 < 3
theorem WantAt.fr {S : Nat → Prop} {w w' : World} {Wn : Nat} {wv : Value} {want : List (Nat × Nat)} (h : WantAt w Wn wv want) (f : Fr S w w') (h1 : ¬ S Wn) (h2 : ∀ q, wv.ownBlock = some q → ¬ S q) : WantAt w' Wn wv want := ⟨h.blk.fr f h1, ownsRow.fr h.row f h2, h.ok⟩
theorem WantAt.nw {w w' : World} {Wn : Nat} {wv : Value} {want : List (Nat × Nat)} (h : WantAt w Wn wv want) (f : Nw w w') : WantAt w' Wn wv want := h.fr f (fun x => x) (fun _ _ x => x)
/-- A Work's own blocks are none of these. -/
theorem WantAt.not {w : World} {X : Nat} {zs : List Int} {s : WS} {Wn : Nat} {wv : Value} {want : List (Nat × Nat)} (h : WantAt w Wn wv want) (hA : WAt w X zs s) : ¬ s.own X Wn ∧ ∀ q, wv.ownBlock = some q → ¬ s.own X q := by
  refine ⟨fun ho => ?_, fun q hq ho => ?_⟩
  · obtain ⟨cur, e, hb, he⟩ := hA.mem.ty ho
    rw [(hb.inj h.blk).2] at he
    exact absurd he (by decide)
  · obtain ⟨cur, e, hb, he⟩ := hA.mem.ty ho
    obtain ⟨cur', hb'⟩ := ownsRow.blk h.row hq
    rw [(hb.inj hb').2] at he
    exact absurd he (by decide)
theorem flat2 : ∀ (want : List (Nat × Nat)) (i c : Nat), c < 2 → i < want.length → (want.flatMap pairC)[i * 2 + c]? = (pairC (want.getD i (0, 0)))[c]?
  | [], i, c, _, hi => absurd hi (Nat.not_lt_zero _)
  | p :: r, 0, c, hc, _ => by
    rw [List.flatMap_cons, Nat.zero_mul, Nat.zero_add, List.getElem?_append_left (by show c < 2; omega)]
    rfl
  | p :: r, i + 1, c, hc, hi => by
    have h2 : (pairC p).length = 2 := rfl
    rw [List.flatMap_cons, List.getElem?_append_right (by rw [h2]; omega), h2, show (i + 1) * 2 + c - 2 = i * 2 + c by omega, flat2 r i c hc (by simpa using hi)]
    rfl
theorem WantAt.cell {w : World} {Wn : Nat} {wv : Value} {want : List (Nat × Nat)} (h : WantAt w Wn wv want) (i : Nat) (hi : i < want.length) : ∃ g cap, wv = .slice (some ⟨g, 0, none⟩) want.length cap ∧ g < w.heap.size ∧ w.cell? ⟨g, i * 2, none⟩ = some (.int .i64 (((want.getD i (0, 0)).1 : Nat) : Int)) ∧ w.cell? ⟨g, i * 2 + 1, none⟩ = some (.int .i64 (((want.getD i (0, 0)).2 : Nat) : Int)) := by
  rcases h.row.2 with ⟨rfl, h0⟩ | ⟨g, cap, cur, hv, _, hg, _⟩
  · omega
  · have hcell := h.row.cells (g := g) (by rw [hv]; rfl)
    have key : ∀ c u, c < 2 → (pairC (want.getD i (0, 0)))[c]? = some u → w.cell? ⟨g, i * 2 + c, none⟩ = some u := fun c u hc hu => by
      have := hcell (i * 2 + c) u (by rw [flat2 want i c hc hi]; exact hu)
      rw [show (⟨g, 0, none⟩ : Addr).add (i * 2 + c) = ⟨g, i * 2 + c, none⟩ from by by_cases h : i * 2 + c = 0 <;> simp only [Addr.add, h, if_true, if_false, Nat.zero_add]] at this
      exact this
    exact ⟨g, cap, hv, lt_of_block hg, by simpa using key 0 _ (by omega) rfl, key 1 _ (by omega) rfl⟩
theorem WantAt.form {w : World} {Wn : Nat} {wv : Value} {want : List (Nat × Nat)} (h : WantAt w Wn wv want) : ∃ lo lcap, wv = .slice lo want.length lcap := by
  rcases h.row.2 with ⟨rfl, h0⟩ | ⟨g, cap, cur, rfl, _⟩
  · exact ⟨none, 0, by rw [h0]⟩
  · exact ⟨_, _, rfl⟩
theorem Try.infoPair : (Try.prog.info? 63).map (fun i => (i.zero, i.size, i.bytes)) = some (some (.agg #[.int .i64 0, .int .i64 0]), 2, 16) := by kernel_rfl
/-- Numbers are given. -/
structure WqI (w0 w : World) (X Wn : Nat) (s : WS) (wv : Value) (want : List (Nat × Nat)) : Prop where
  at_ : WAt w X zsQ s
  sem : PSem zsQ s bsQ (fixAll stQ want)
  since : Since w0 X s
  nw : Nw w0 w
  want : WantAt w Wn wv want
  own : ∀ q, wv.ownBlock = some q → w0.heap.size ≤ q
theorem WqI.step {w0 w w' : World} {X Wn : Nat} {s : WS} {wv : Value} {want : List (Nat × Nat)} (h : WqI w0 w X Wn s wv want) (f : Nw w w') : WqI w0 w' X Wn s wv want := ⟨h.at_.nw f, h.sem, h.since, h.nw.trans f (fun _ x => x.elim), h.want.nw f, h.own⟩

/-- The place of an element, of two cells each. -/
theorem exec_index2 {ev : Operand → Value} {o : Oper} {w : World} {b off n cap i : Nat} (t e : TypeId) (x y : Operand) (ho : o.op = .indexAddr t x y) (hx : ev x = .slice (some ⟨b, off, none⟩) n cap) (hy : ev y = .int .i64 (i : Int)) (hi : i < n)
    (ht : (underlying t).run Try.prog w = .ok (.slice e) w) (he : (sizeOf e).run Try.prog w = .ok 2 w) :
    (execOp ev o).run Try.prog w = .ok (.value (.pointer (some ⟨b, off + i * 2, none⟩))) w := by
  unfold execOp
  simp [ho, hx, hy, Instr.indexAt, asIntOf, ht, he, Result.andThen, go_sem, hi]
/-- The place of an element of an array. -/
theorem exec_arr {ev : Operand → Value} {o : Oper} {w : World} {b off i n : Nat} (t e : TypeId) (x y : Operand) (ho : o.op = .indexAddr t x y) (hx : ev x = .pointer (some ⟨b, off, none⟩)) (hy : ev y = .int .i64 (i : Int)) (hi : i < n)
    (ht : (underlying t).run Try.prog w = .ok (.array n e) w) (he : (sizeOf e).run Try.prog w = .ok 1 w) :
    (execOp ev o).run Try.prog w = .ok (.value (.pointer (some ⟨b, off + i, none⟩))) w := by
  unfold execOp
  simp [ho, hx, hy, Instr.indexAt, asIntOf, ht, he, Result.andThen, go_sem, hi]
noncomputable def sqR39 : Array Oper := regOps Try.f8 39
noncomputable def sqR64 : Array Oper := regOps Try.f8 64
noncomputable def sqR68 : Array Oper := regOps Try.f8 68
noncomputable def sqR45 : Array Oper := regOps Try.f8 45
/-- What a solution is. -/
structure SolQ (x : List Nat) (want : List (Nat × Nat)) : Prop where
  len : x.length = 6
  good : goodB bsQ x = true
  want : ∀ p ∈ want, x.getD p.1 0 = p.2
  ne : ∀ i, i < 3 → x.getD i 0 ≠ x.getD ((i + 1) % 3) 0 ∧ x.getD (3 + i) 0 ≠ x.getD (3 + (i + 1) % 3) 0 ∧ x.getD i 0 ≠ x.getD (3 + i) 0
def okQ (x : List Nat) (i : Nat) : Bool := x.getD i 0 != x.getD ((i + 1) % 3) 0 && x.getD (3 + i) 0 != x.getD (3 + (i + 1) % 3) 0 && x.getD i 0 != x.getD (3 + i) 0
def okQs (x : List Nat) (k : Nat) : Bool := (List.range k).all (okQ x)
theorem okQ_good : ((List.range 729).map dig).all (fun x => okQs x 3 == goodB bsQ x) = true := by decide +kernel
theorem okQ_of {x : List Nat} (h : x ∈ extD stQ 6 []) : okQs x 3 = goodB bsQ x := by
  have := List.all_eq_true.1 okQ_good x (permQ.mem_iff.1 h)
  simpa using this
theorem solQ_of {x : List Nat} {want : List (Nat × Nat)} (h : x ∈ (extD stQ 6 []).filter (fun x => goodB bsQ x && wantB want x)) : SolQ x want := by
  obtain ⟨h1, h2⟩ := List.mem_filter.1 h
  simp only [Bool.and_eq_true] at h2
  refine ⟨(len6 h1).1, h2.1, fun p hp => ?_, fun i hi => ?_⟩
  · simpa using List.all_eq_true.1 h2.2 p hp
  · have h3 := okQ_of h1
    rw [h2.1] at h3
    have := List.all_eq_true.1 h3 i (by simpa using hi)
    simpa [okQ, and_assoc] using this

/-- How many were found among the first k numbers. -/
def triedTo (want : List (Nat × Nat)) (k : Nat) : Nat := ((List.range k).filter (fun c => goodB bsQ (dig c) && wantB want (dig c))).length
theorem triedTo_succ (want : List (Nat × Nat)) (k : Nat) (hk : k < 729) (x : List Nat) (hx : dig k = x) : triedTo want (k + 1) = triedTo want k + if okQs x 3 && wantB want x then 1 else 0 := by
  have e : okQs x 3 = goodB bsQ x := by
    have := List.all_eq_true.1 okQ_good x (List.mem_map.2 ⟨k, List.mem_range.2 hk, hx⟩)
    simpa using this
  unfold triedTo
  rw [List.range_succ, List.filter_append, List.length_append, e, ← hx]
  congr 1
  by_cases h : (goodB bsQ (dig k) && wantB want (dig k)) = true
  · rw [if_pos h]
    simp only [List.filter_cons, h, if_true, List.filter_nil]
    rfl
  · rw [if_neg h]
    simp only [List.filter_cons, h]
    rfl
theorem triedTo_le (want : List (Nat × Nat)) (k : Nat) : triedTo want k ≤ k := Nat.le_trans (List.length_filter_le _ _) (by simp)
def restTo (k : Nat) : Nat → Nat
  | 0 => k
  | j + 1 => restTo k j / 3
theorem restTo_le (k : Nat) : ∀ j, restTo k j ≤ k
  | 0 => Nat.le_refl _
  | j + 1 => Nat.le_trans (Nat.div_le_self _ _) (restTo_le k j)
def digs (k j : Nat) : List Nat := [if 0 < j then restTo k 0 % 3 else 0, if 1 < j then restTo k 1 % 3 else 0, if 2 < j then restTo k 2 % 3 else 0, if 3 < j then restTo k 3 % 3 else 0, if 4 < j then restTo k 4 % 3 else 0, if 5 < j then restTo k 5 % 3 else 0]
theorem digs_set (k j : Nat) (hj : j < 6) : (ints (digs k j)).toArray.setIfInBounds j (.int .i64 ((restTo k j % 3 : Nat) : Int)) = (ints (digs k (j + 1))).toArray := by
  have hc : j = 0 ∨ j = 1 ∨ j = 2 ∨ j = 3 ∨ j = 4 ∨ j = 5 := by omega
  rcases hc with rfl | rfl | rfl | rfl | rfl | rfl <;> rfl
theorem digs_all (k : Nat) : digs k 6 = dig k := rfl

theorem okQs_succ (x : List Nat) (k : Nat) : okQs x (k + 1) = (okQs x k && okQ x k) := by simp [okQs, List.range_succ]
theorem wantB_succ (want : List (Nat × Nat)) (x : List Nat) (j : Nat) (hj : j < want.length) : wantB (want.take (j + 1)) x = (wantB (want.take j) x && (x.getD (want.getD j (0, 0)).1 0 == (want.getD j (0, 0)).2)) := by
  unfold wantB
  rw [List.take_succ_eq_append_getElem hj, List.all_append]
  simp [List.getD, hj]

set_option maxHeartbeats 12800000 in
set_option maxRecDepth 1000000 in
theorem squares_walk (so : Option Addr) (sc : Nat) (ys : List Int) (w : World) (hl1 : ys.length * 8 ≤ 140737488355328) (hs : IntsAt w so ys) (hi : ∀ c ∈ ys, In64 c) :
    Calls Try.prog 8 #[.slice so ys.length sc] w fun e w' => e = .returned (.bool true) ∧ Nw w w' := by
  have Hhs := hd hs
  clear hs
  refine calls_marks (p := 2) (Rb := w.heap.size) Try.func8 rfl rfl ?_
  simp only [Try.ntmps8, List.size_toArray, List.length_cons, List.length_nil, Nat.reduceAdd, Nat.reduceSub, Array.replicate_succ, Array.replicate_zero, List.push_toArray, List.append_toArray, List.nil_append, List.cons_append]
  have hR0 : Blk (w.alloc (.cells #[.bool false] 4)) w.heap.size #[.bool false] 4 := Blk.new _ _ _
  have hfR : Nw w (w.alloc (.cells #[.bool false] 4)) := (Fr.refl _ w).alloc _
  go_wp2_with fail
  obtain ⟨wa, hwa⟩ : ∃ wa, w.alloc (.cells #[.bool false] 4) = wa := ⟨_, rfl⟩
  rw [hwa] at hR0 hfR ⊢
  have HR0 := hd hR0
  have HfR := hd hfR
  clear hR0 hfR hwa
  refine (counted_ok _).mono ?_
  rintro e w1 ⟨rfl, hf1⟩
  have Hf1 := hd hf1
  clear hf1
  go_wp2_with fail
  obtain ⟨wb, hwb⟩ : ∃ wb, w1.alloc (.cells #[.int .i64 3, .int .i64 3, .int .i64 3, .int .i64 3, .int .i64 3, .int .i64 3] 3) = wb := ⟨_, rfl⟩
  have hfb : Nw w1 wb := by rw [← hwb]; exact (Fr.refl _ w1).alloc _
  have hb0 : Blk wb w1.heap.size #[.int .i64 3, .int .i64 3, .int .i64 3, .int .i64 3, .int .i64 3, .int .i64 3] 3 := by rw [← hwb]; exact Blk.new _ _ _
  rw [hwb]
  refine (new_any w1.heap.size 0 6 zsQ wb (by decide) (by decide) (IntsAt.of_blk hb0 0 _ (fun i hi => by
    match i, hi with
    | 0, _ => rfl
    | 1, _ => rfl
    | 2, _ => rfl
    | 3, _ => rfl
    | 4, _ => rfl
    | 5, _ => rfl))).mono ?_
  rintro e w2 ⟨hf2, hcase⟩
  obtain ⟨hok, X, szv, rfl, hX1, hs1, hXl, hsl⟩ := hcase.resolve_right (fun h => absurd h.1 (by decide))
  have hP := Posted.of_new hok hf2 hX1 hs1 hXl hsl
  rw [fullQ] at hP
  have Hfb := hd (Hf1.out.trans hfb (fun _ x => x.elim))
  have Hf2 := hd (Hfb.out.trans hf2 (fun _ x => x.elim))
  have HP := hd hP
  clear hX1 hs1 hsl hf2 hb0 hfb hwb hP hXl Hf1
  obtain ⟨s0, hs0⟩ : ∃ s0, ws0 zsQ szv = s0 := ⟨_, rfl⟩
  rw [hs0] at HP
  clear hs0
  go_upto_region 6 with fail
  obtain ⟨U, hU⟩ : ∃ U, (((w2.alloc (.cells #[.int .i64 0, .int .i64 0] 3)).alloc (.cells #[.int .i64 1, .int .i64 1] 3)).alloc (.cells #[.int .i64 2, .int .i64 2] 3)).alloc (.cells #[.slice (some ⟨w2.heap.size, 0, none⟩) 2 2, .slice (some ⟨w2.heap.size + 1, 0, none⟩) 2 2, .slice (some ⟨w2.heap.size + 1 + 1, 0, none⟩) 2 2] 22) = U := ⟨_, rfl⟩
  have hfU : Nw w2 U := by rw [← hU]; exact ((((Fr.refl _ w2).alloc _).alloc _).alloc _).alloc _
  have hQ : SamQ U w2.heap.size := by
    refine ⟨?_, ?_, ?_, ?_⟩
    · rw [← hU]; exact (((Blk.new _ _ _).alloc _).alloc _).alloc _
    · have := ((Blk.new (w2.alloc (.cells #[.int .i64 0, .int .i64 0] 3)) #[.int .i64 1, .int .i64 1] 3).alloc (.cells #[.int .i64 2, .int .i64 2] 3)).alloc (.cells #[.slice (some ⟨w2.heap.size, 0, none⟩) 2 2, .slice (some ⟨w2.heap.size + 1, 0, none⟩) 2 2, .slice (some ⟨w2.heap.size + 1 + 1, 0, none⟩) 2 2] 22)
      rw [hU] at this
      simpa using this
    · have := (Blk.new ((w2.alloc (.cells #[.int .i64 0, .int .i64 0] 3)).alloc (.cells #[.int .i64 1, .int .i64 1] 3)) #[.int .i64 2, .int .i64 2] 3).alloc (.cells #[.slice (some ⟨w2.heap.size, 0, none⟩) 2 2, .slice (some ⟨w2.heap.size + 1, 0, none⟩) 2 2, .slice (some ⟨w2.heap.size + 1 + 1, 0, none⟩) 2 2] 22)
      rw [hU] at this
      simpa using this
    · have := Blk.new (((w2.alloc (.cells #[.int .i64 0, .int .i64 0] 3)).alloc (.cells #[.int .i64 1, .int .i64 1] 3)).alloc (.cells #[.int .i64 2, .int .i64 2] 3)) #[.slice (some ⟨w2.heap.size, 0, none⟩) 2 2, .slice (some ⟨w2.heap.size + 1, 0, none⟩) 2 2, .slice (some ⟨w2.heap.size + 1 + 1, 0, none⟩) 2 2] 22
      rw [hU] at this
      simpa using this
  rw [hU]
  have hI : SqI wb U X w2.heap.size s0 0 := ⟨HP.out.at_.nw hfU, PSem.of_posted HP.out, hQ, fun j hj ho => by have := HP.out.at_.mem.lt ho; omega, HP.out.since, HP.out.nw.trans hfU (fun _ x => x.elim)⟩
  have HI := hd hI
  have HfU := hd hfU
  clear hI hQ hfU hU
  go_wp2_with fail
  go_loopw [7, 8, 9, 10] (fun i _ _ _ wr => ∃ (k : Nat) (s : WS), k ≤ 3 ∧ i = .int .i64 (k : Int) ∧ Hid (SqI wb wr X w2.heap.size s (3 * k))) (fun i _ _ _ _ => 3 - (intOf i).toNat)
  case atStart => exact ⟨0, s0, by omega, rfl, HI⟩
  case round =>
    clear HI
    obtain ⟨k, s, hk, rfl, HI⟩ := hrel
    have h4 : k = 0 ∨ k = 1 ∨ k = 2 ∨ k = 3 := by omega
    have Hal : Hid (∀ (A : World) (a b : Int), Blk (A.alloc (.cells #[.int .i64 a, .int .i64 b] 3)) A.heap.size #[.int .i64 a, .int .i64 b] 3 ∧ Nw A (A.alloc (.cells #[.int .i64 a, .int .i64 b] 3))) := fun A a b => ⟨Blk.new _ _ _, (Fr.refl _ A).alloc _⟩
    rcases h4 with rfl | rfl | rfl | rfl
    · have HI0 : Hid (SqI wb wr X w2.heap.size s 0) := HI
      clear HI
      go_wp2_with fail
      refine (sq_post (m := 0) (a := 0) (b := 1) (way := 1) (HI0.out.step (Hal.out _ 0 1).2) rfl (by decide) (by decide +kernel) (Hal.out _ 0 1).1).mono ?_
      rintro e x0 ⟨rfl, s1, h1⟩
      have HI1 : Hid (SqI wb x0 X w2.heap.size s1 1) := hd h1
      clear h1 HI0
      go_wp2_with fail
      refine (sq_post (m := 1) (a := 3) (b := 4) (way := 2) (HI1.out.step (Hal.out _ 3 4).2) rfl (by decide) (by decide +kernel) (Hal.out _ 3 4).1).mono ?_
      rintro e x1 ⟨rfl, s2, h1⟩
      have HI2 : Hid (SqI wb x1 X w2.heap.size s2 2) := hd h1
      clear h1 HI1
      go_wp2_with fail
      refine (sq_post (m := 2) (a := 0) (b := 3) (way := 1) (HI2.out.step (Hal.out _ 0 3).2) rfl (by decide) (by decide +kernel) (Hal.out _ 0 3).1).mono ?_
      rintro e x2 ⟨rfl, s3, h1⟩
      have HI3 : Hid (SqI wb x2 X w2.heap.size s3 3) := hd h1
      clear h1 HI2
      go_wp2_with fail
      exact ⟨⟨1, s3, by omega, rfl, HI3⟩, by simp [intOf]⟩
    · have HI0 : Hid (SqI wb wr X w2.heap.size s 3) := HI
      clear HI
      go_wp2_with fail
      refine (sq_post (m := 3) (a := 1) (b := 2) (way := 2) (HI0.out.step (Hal.out _ 1 2).2) rfl (by decide) (by decide +kernel) (Hal.out _ 1 2).1).mono ?_
      rintro e x0 ⟨rfl, s1, h1⟩
      have HI1 : Hid (SqI wb x0 X w2.heap.size s1 4) := hd h1
      clear h1 HI0
      go_wp2_with fail
      refine (sq_post (m := 4) (a := 4) (b := 5) (way := 1) (HI1.out.step (Hal.out _ 4 5).2) rfl (by decide) (by decide +kernel) (Hal.out _ 4 5).1).mono ?_
      rintro e x1 ⟨rfl, s2, h1⟩
      have HI2 : Hid (SqI wb x1 X w2.heap.size s2 5) := hd h1
      clear h1 HI1
      go_wp2_with fail
      refine (sq_post (m := 5) (a := 1) (b := 4) (way := 1) (HI2.out.step (Hal.out _ 1 4).2) rfl (by decide) (by decide +kernel) (Hal.out _ 1 4).1).mono ?_
      rintro e x2 ⟨rfl, s3, h1⟩
      have HI3 : Hid (SqI wb x2 X w2.heap.size s3 6) := hd h1
      clear h1 HI2
      go_wp2_with fail
      exact ⟨⟨2, s3, by omega, rfl, HI3⟩, by simp [intOf]⟩
    · have HI0 : Hid (SqI wb wr X w2.heap.size s 6) := HI
      clear HI
      go_wp2_with fail
      refine (sq_post (m := 6) (a := 2) (b := 0) (way := 1) (HI0.out.step (Hal.out _ 2 0).2) rfl (by decide) (by decide +kernel) (Hal.out _ 2 0).1).mono ?_
      rintro e x0 ⟨rfl, s1, h1⟩
      have HI1 : Hid (SqI wb x0 X w2.heap.size s1 7) := hd h1
      clear h1 HI0
      go_wp2_with fail
      refine (sq_post (m := 7) (a := 5) (b := 3) (way := 2) (HI1.out.step (Hal.out _ 5 3).2) rfl (by decide) (by decide +kernel) (Hal.out _ 5 3).1).mono ?_
      rintro e x1 ⟨rfl, s2, h1⟩
      have HI2 : Hid (SqI wb x1 X w2.heap.size s2 8) := hd h1
      clear h1 HI1
      go_wp2_with fail
      refine (sq_post (m := 8) (a := 2) (b := 5) (way := 1) (HI2.out.step (Hal.out _ 2 5).2) rfl (by decide) (by decide +kernel) (Hal.out _ 2 5).1).mono ?_
      rintro e x2 ⟨rfl, s3, h1⟩
      have HI3 : Hid (SqI wb x2 X w2.heap.size s3 9) := hd h1
      clear h1 HI2
      go_wp2_with fail
      exact ⟨⟨3, s3, by omega, rfl, HI3⟩, by simp [intOf]⟩
    · have HI0 : Hid (SqI wb wr X w2.heap.size s 9) := HI
      clear HI Hal
      have hbz := HI0.out.sem.busy
      have hn : min 100 (solN s.d s.bs zsQ.length []).length = 12 := by
        rw [HI0.out.sem.sols HI0.out.at_ (hvQ 9)]
        show min 100 ((extD stQ 6 []).filter (goodB bsQ)).length = 12
        rw [twelve]
        rfl
      have Hn := hd hn
      clear hn
      go_wp2_with fail
      refine (count_any X zsQ s 100 _ HI0.out.at_ hbz (by decide) HI0.out.at_.pos).mono ?_
      rw [Hn.out]
      rintro e w3 ⟨rfl, hA3, hf3⟩
      have hN3 : Nw wb w3 := HI0.out.nw.trans hf3 (fun i h => .inr (HI0.out.since i h))
      have HP3 : Hid (Posted wb w3 X zsQ s bsQ stQ) := ⟨hA3, HI0.out.since, hN3, HI0.out.sem.busy, HI0.out.sem.sk, HI0.out.sem.clo, HI0.out.sem.all, HI0.out.sem.few, HI0.out.sem.sdm⟩
      have HfW := hd (HI0.out.nw.size)
      clear hA3 hf3 hN3 HI0 Hn hbz
      go_upto_block 2 with fail
      obtain ⟨wc, hwc⟩ : ∃ wc, w3.alloc (.cells #[.slice none 0 0] 62) = wc := ⟨_, rfl⟩
      have hfc : Nw w3 wc := by rw [← hwc]; exact (Fr.refl _ w3).alloc _
      have hbc : Blk wc w3.heap.size #[.slice none 0 0] 62 := by rw [← hwc]; exact Blk.new _ _ _
      rw [hwc]
      have hI : WqI wb wc X w3.heap.size s (.slice none 0 0) [] := ⟨HP3.out.at_.nw hfc, PSem.of_posted HP3.out, HP3.out.since, HP3.out.nw.trans hfc (fun _ x => x.elim), ⟨hbc, World.ownsRow_nil _ _ _ _, fun p hp => (by cases hp)⟩, fun q hq => (by cases hq)⟩
      have HI := hd hI
      have HN3 := hd HP3.out.nw
      clear hwc hfc hbc hI HP3
      go_cut [14, 15, 16, 17] from 112 to 146 (fun _ _ _ _ wx => ∃ (s : WS) (wv : Value) (want : List (Nat × Nat)), want.length ≤ 3 ∧ Hid (WqI wb wx X w3.heap.size s wv want))
      case first =>
        go_wp2_with fail
        go_loopw [14, 15, 16, 17] (fun i _ _ _ wr => ∃ (k : Nat) (s : WS) (wv : Value) (want : List (Nat × Nat)), k ≤ ys.length ∧ k ≤ 3 ∧ want.length = k ∧ i = .int .i64 (k : Int) ∧ Hid (WqI wb wr X w3.heap.size s wv want)) (fun i _ _ _ _ => 3 - (intOf i).toNat)
        case atStart => exact ⟨0, s, _, [], by omega, by omega, rfl, rfl, HI⟩
        case round =>
          clear HI
          obtain ⟨k, s, wv, want, hk, hk3, hwl, rfl, HI⟩ := hrel
          have Hwl := hd hwl
          have hw3 : want.length ≤ 3 := by omega
          clear hwl
          by_cases hlt : k < ys.length ∧ k < 3
          · obtain ⟨hlt1, hlt2⟩ := hlt
            have hd1 : (k : Int) < (ys.length : Int) := by omega
            have hd2 : (k : Int) < 3 := by omega
            have hNw : Nw w wr := (HfR.out.trans Hfb.out (fun _ x => x.elim)).trans HI.out.nw (fun _ x => x.elim)
            obtain ⟨sb, so', hse, hsl, hsc⟩ := (Hhs.out.nw hNw) k hlt1
            obtain ⟨c, hcv⟩ : ∃ c, ys.getD k 0 = c := ⟨_, rfl⟩
            rw [hcv] at hsc
            have hcin : In64 c := hi c (by rw [← hcv]; simp [List.getD, hlt1])
            have hc8 := hcin.div8
            have hw8 := hc8.wrap
            have hq2 := pickOf_range c 6 (by omega)
            have hq3 := pickOf_range (c.tdiv 8) 3 (by omega)
            obtain ⟨v, hv⟩ : ∃ v : Nat, pickOf c 6 = (v : Int) := ⟨(pickOf c 6).toNat, by omega⟩
            obtain ⟨x, hx⟩ : ∃ x : Nat, pickOf (c.tdiv 8) 3 = (x : Int) := ⟨(pickOf (c.tdiv 8) 3).toNat, by omega⟩
            rw [hv] at hq2
            rw [hx] at hq3
            have hvz : v < 6 := by omega
            have hxz : x < 3 := by omega
            have hzv : (x : Int) < zsQ.getD v 0 := by
              have : zsQ.getD v 0 = 3 := by
                have hc : v = 0 ∨ v = 1 ∨ v = 2 ∨ v = 3 ∨ v = 4 ∨ v = 5 := by omega
                rcases hc with rfl | rfl | rfl | rfl | rfl | rfl <;> rfl
              rw [this]
              omega
            have Hv := hd hv
            have Hx := hd hx
            subst hse
            clear hv hx hcv hNw
            go_wp2_with fail
            refine (pick_any c 6 hcin (by omega) (by omega) _).mono ?_
            rw [Hv.out]
            rintro e w' ⟨rfl, rfl⟩
            go_wp2_with fail
            refine (pick_any (c.tdiv 8) 3 hc8 (by omega) (by omega) _).mono ?_
            rw [Hx.out]
            rintro e w'' ⟨rfl, rfl⟩
            go_wp2_with fail
            have hbz := HI.out.sem.busy
            by_cases h0 : s.d.getD 0 0 = 0
            · have hf := fault_ok (zs := zsQ) (d := s.d) hvz hzv
              rw [if_pos h0] at hf
              refine (fix_no X zsQ s v x _ HI.out.at_ hbz (by rw [hf]; decide)).mono ?_
              rw [hf]
              rintro e w6 ⟨rfl, rfl⟩
              go_wp2_with fail
              go_meet
              exact ⟨s, wv, want, by omega, HI⟩
            · refine (fix_su HI.out.at_ HI.out.sem h0 hvz hzv).mono ?_
              rintro e w6 ⟨rfl, s', hA', hst', hse'⟩
              obtain ⟨hsi', hnw'⟩ := hst'.since HI.out.since HI.out.nw
              obtain ⟨n1, n2⟩ := HI.out.want.not HI.out.at_
              have hW' := HI.out.want.fr hst'.fr n1 n2
              rw [← fixAll_one stQ want (v, x)] at hse'
              have HA' := hd hA'
              have Hse' := hd hse'
              have Hsi' := hd hsi'
              have Hnw' := hd hnw'
              have HW' := hd hW'
              have Hown := hd HI.out.own
              obtain ⟨lo, lcap, hform⟩ := hW'.form
              subst hform
              have cWn := hW'.blk.cell 0
              have cWf := hW'.blk.free 0
              have cWl := hW'.blk.lt
              obtain ⟨i0, hi0, hz0, hza, hzb⟩ := info_parts Try.infoPair
              have Hrow := hd hW'.row
              clear hA' hst' hse' hsi' hnw' hW' n1 n2 HI
              go_wp2_with (at_builtin; refine wpList_append_own_at _ rfl _ _ 62 rfl 0 63 i0 (.agg #[.int .i64 0, .int .i64 0]) 2 16 Try.underlying62 hi0 hz0 hza hzb rfl (by decide) _ want.length _ rfl (ownsRow.fr Hrow.out ((Fr.refl (fun _ => False) _).alloc _) (fun _ _ x => x)) ⟨_, 0, none⟩ 1 1 [.int .i64 (v : Int), .int .i64 (x : Int)] rfl rfl (cells_new _ _ _) (by simp [Value.oneCell']) (by unfold maxLen; omega) (by omega) (Nat.zero_le _) ?_; intro v' w7 hown' hgrow _ hat; obtain ⟨g', cap', rfl, hf3, ha3, hlt3⟩ := appN hown' hgrow hat; have hb7 := HW'.out.blk.fr hf3 (fun h => by obtain ⟨cur, hb⟩ := ownsRow.blk HW'.out.row h; exact absurd ((hb.inj HW'.out.blk).2) (by decide)); have cWn7 := hb7.cell 0; have cWf7 := hb7.free 0; have cWl7 := hb7.lt)
              have hf8 : Fr (fun q => q = w3.heap.size) w7 (w7.setCell ⟨w3.heap.size, 0, none⟩ (.slice (some ⟨g', 0, none⟩) (want.length + 1) cap')) := (Fr.refl _ w7).setCell _ _ (.inl rfl)
              obtain ⟨m1, m2⟩ := HW'.out.not HA'.out
              have hA7 : WAt w7 X zsQ s' := HA'.out.frN hf3 (fun q h1 h2 => m2 q h2 h1) (fun q cur hq hb => by
                obtain ⟨cur', hb'⟩ := ownsRow.blk HW'.out.row hq
                exact absurd ((hb.inj hb').2) (by decide))
              have hA8 := hA7.frN hf8 (fun q h1 h2 => m1 (by rw [← h2]; exact h1)) (fun q cur hq hb => by
                rw [hq] at hb
                exact absurd ((hb.inj hb7).2) (by decide))
              have hw3b := HN3.out.size
              have hs6 := Hnw'.out.size
              have hgb : wb.heap.size ≤ g' := by
                rcases ha3 with h | h
                · exact Hown.out g' h
                · omega
              have hne : g' ≠ w3.heap.size := fun e => by
                obtain ⟨cur, hb⟩ := ownsRow.blk hown' (k := g') rfl
                rw [e] at hb
                exact absurd ((hb.inj hb7).2) (by decide)
              refine ⟨⟨k + 1, s', _, want ++ [(v, x)], by omega, by omega, by rw [List.length_append, Hwl.out]; rfl, by simp, ⟨hA8, Hse'.out, Hsi'.out, ?_, ⟨hb7.set 0 _, ?_, ?_⟩, fun q hq => by cases hq; exact hgb⟩⟩, by simp [intOf]; omega⟩
              · exact (Hnw'.out.trans hf3 (fun i h => .inr (Hown.out i h))).trans hf8 (fun i h => .inr (by omega))
              · rw [List.length_append, List.flatMap_append]
                exact ownsRow.fr hown' hf8 (fun q hq h => by cases hq; exact hne h)
              · intro p hp
                rcases List.mem_append.1 hp with h | h
                · exact HW'.out.ok p h
                · simp at h
                  subst h
                  exact ⟨hvz, hxz⟩
          · by_cases h1 : k < ys.length
            · have hd1 : (k : Int) < (ys.length : Int) := by omega
              have hd2 : ¬ ((k : Int) < 3) := by omega
              go_wp2_with fail
              go_meet
              exact ⟨s, wv, want, by omega, HI⟩
            · have hd1 : ¬ ((k : Int) < (ys.length : Int)) := by omega
              go_wp2_with fail
              go_meet
              exact ⟨s, wv, want, by omega, HI⟩
      case rest =>
        obtain ⟨s, wv, want, hw3, HI⟩ := hcut
        rename World => wx
        obtain ⟨lo, lcap, hform⟩ := HI.out.want.form
        subst hform
        have hnil : ∀ (W : World), (binOp .eql 49 (.func (.func 46) #[.pointer (some ⟨X, 0, none⟩)] #[]) .nilFunc).run Try.prog W = .ok (.bool false) W := fun W => by kernel_rfl
        go_wp2_with (go_at_call 26; refine (solutions_any X _).mono ?_; rintro e w' ⟨rfl, rfl⟩)
        have hw6 : ∀ p ∈ want, p.1 < 6 := fun p hp => (HI.out.want.ok p hp).1
        have hsol : solN s.d s.bs zsQ.length [] = (extD stQ 6 []).filter (fun x => goodB bsQ x && wantB want x) := by
          rw [HI.out.sem.sols HI.out.at_ (hvQ 9)]
          exact fixQ want hw6
        have htr : (solN s.d s.bs zsQ.length []).length = ((List.range 729).filter (fun c => goodB bsQ (dig c) && wantB want (dig c))).length := by
          rw [HI.out.sem.sols HI.out.at_ (hvQ 9)]
          exact triedQ want hw6
        have hin : ∀ x ∈ solN s.d s.bs zsQ.length [], SolQ x want := fun x hx => solQ_of (by rw [← hsol]; exact hx)
        have hsl : (solN s.d s.bs zsQ.length []).length ≤ 729 := by
          rw [htr]
          exact Nat.le_trans (List.length_filter_le _ _) (by simp)
        obtain ⟨sols, hsols⟩ : ∃ sols, solN s.d s.bs zsQ.length [] = sols := ⟨_, rfl⟩
        rw [hsols] at hin hsl htr
        have Hin := hd hin
        have Hsols := hd hsols
        have Htr := hd htr
        clear hsol hin hsols htr hnil
        obtain ⟨W1, hW1⟩ : ∃ W1, wx.alloc (.cells #[.int .i64 0] 3) = W1 := ⟨_, rfl⟩
        have hf6 : Nw wx W1 := by rw [← hW1]; exact (Fr.refl _ wx).alloc _
        have hs6 : W1.heap.size = wx.heap.size + 1 := by rw [← hW1]; simp
        have hbA : Blk W1 wx.heap.size #[.int .i64 ((0 : Nat) : Int)] 3 := by rw [← hW1]; exact Blk.new _ _ _
        rw [hW1]
        have HI1 := hd (HI.out.step hf6)
        have hbz := HI.out.sem.busy
        have hXl : X < wx.heap.size := HI.out.at_.mem.blk.lt
        have hXb : wb.heap.size ≤ X := HI.out.since X (.inl rfl)
        have hWnl : w3.heap.size < wx.heap.size := HI.out.want.blk.lt
        obtain ⟨hWX, hWX2⟩ := HI.out.want.not HI.out.at_
        have hWnX : w3.heap.size ≠ X := fun e => hWX (.inl e)
        have hwvX : ∀ q, (Value.slice lo want.length lcap).ownBlock = some q → q ≠ X ∧ q < wx.heap.size := fun q hq => ⟨fun e => hWX2 q hq (.inl e), by
          obtain ⟨cur, hb⟩ := ownsRow.blk HI.out.want.row hq
          exact hb.lt⟩
        have HwvX := hd hwvX
        clear hW1 hWX hWX2 hwvX
        refine wp_sols2 (n := 9) (zs := zsQ) (s := s) 20 rfl HI1.out.at_ hbz (fun l v W' K hK => ?asg)
          (fun done C A => (∀ k, C k ↔ k = wx.heap.size) ∧ Blk A wx.heap.size #[.int .i64 ((done.length : Nat) : Int)] 3 ∧ Fr (fun k => k = wx.heap.size ∨ k = X) W1 A) ?inv (fun k => k = wx.heap.size) (fun k hk e => ?own) ⟨fun k => Iff.rfl, hbA, Fr.refl _ _⟩ ?round ?done
        case asg =>
          simp only [List.setIfInBounds_toArray, List.set_cons_zero, List.set_cons_succ] at hK ⊢
          gi_wp2
          exact hK
        case inv =>
          refine ⟨?_, ?_⟩
          · rintro done C S A B ⟨h1, h2, h3⟩ hf hs
            refine ⟨h1, h2.fr hf (fun h => ?_), h3.trans hf (fun i hi => ?_)⟩
            · rcases hs _ h with h | h <;> omega
            · rcases hs _ hi with h | h
              · exact .inr h.1
              · exact .inl (.inr h)
          · rintro done C A k ⟨h1, h2, h3⟩ hk
            rw [(h1 k).1 hk]
            exact ⟨_, _, h2, by decide⟩
        case own =>
          have := HI.out.at_.mem.lt hk
          omega
        case round =>
          rintro lp done C x b cap Wr hpre ⟨hC, h1, hF⟩ hAr hbN hbC hrow
          simp only [List.setIfInBounds_toArray, List.set_cons_zero, List.set_cons_succ]
          rw [Hsols.out] at hpre
          obtain ⟨hdl, hdx, hxm⟩ := prefix_last (d := []) hpre
          have hX := Hin.out x hxm
          have hW2 : WantAt Wr w3.heap.size (.slice lo want.length lcap) want := HI1.out.want.fr hF (by omega) (fun q hq h => by
            have := HwvX.out q hq
            omega)
          have cW : Wr.cell? ⟨w3.heap.size, 0, none⟩ = some (.slice lo want.length lcap) := hW2.blk.cell 0
          have cWl := hW2.blk.lt
          have c0 : Wr.cell? ⟨wx.heap.size, 0, none⟩ = some (.int .i64 ((done.length : Nat) : Int)) := h1.cell 0
          have c0l := h1.lt
          have hbl : b < Wr.heap.size := hrow.lt rfl
          have hbx : ∀ q, q < 6 → Wr.cell? ⟨b, 0 + q, none⟩ = some (.int .i64 ((x.getD q 0 : Nat) : Int)) := fun q hq => by
            obtain ⟨g, c, he, _, hc, _⟩ := hrow.cell q (by simp [ints, hX.len, hq])
            simp only [Value.slice.injEq, Option.some.injEq, Addr.mk.injEq, and_true] at he
            obtain ⟨rfl, _⟩ := he
            rw [Nat.zero_add, hc]
            simp [ints, List.getD, hX.len, hq]
          rw [hX.len]
          have HX := hd hX
          have H1 := hd h1
          have HF := hd hF
          have HC := hd hC
          have HW2 := hd hW2
          have Hbx := hd hbx
          have hdl9 : (done.length : Int) + 1 < 9223372036854775808 := by omega
          clear hX h1 hF hC hW2 hbx hrow hAr hpre hxm hdx
          gi_wp2_with fail
          gi_loopw [21] (fun i w7 => ∃ k : Nat, k ≤ want.length ∧ i = .int .i64 (k : Int) ∧ Hid (Nw Wr w7)) (fun i _ => want.length - (intOf i).toNat)
          case atStart => exact ⟨0, by omega, rfl, Fr.refl _ _⟩
          case round =>
            rename World => w7
            obtain ⟨k, hk, rfl, HN7⟩ := hrel
            have cW7 : w7.cell? ⟨w3.heap.size, 0, none⟩ = some (.slice lo want.length lcap) := (HN7.out.cell cWl (fun x => x)).trans cW
            have cWl7 : w3.heap.size < w7.heap.size := Nat.lt_of_lt_of_le cWl HN7.out.size
            by_cases hlt : k < want.length
            · have hdk : (k : Int) < (want.length : Int) := by omega
              obtain ⟨wg, wcap, hwe, hwgl, hw0, hw1⟩ := HW2.out.cell k hlt
              simp only [Value.slice.injEq] at hwe
              obtain ⟨rfl, _, rfl⟩ := hwe
              have hpm : want.getD k (0, 0) ∈ want := by
                rw [show want.getD k (0, 0) = want[k] by simp [List.getD, hlt]]
                exact List.getElem_mem hlt
              have hp6 := (HW2.out.ok _ hpm).1
              have hpw := HX.out.want _ hpm
              have hbp := Hbx.out _ hp6
              obtain ⟨⟨p1, p2⟩, hpv⟩ : ∃ p, want.getD k (0, 0) = p := ⟨_, rfl⟩
              rw [hpv] at hw0 hw1 hp6 hpw hbp
              dsimp only at hw0 hw1 hp6 hpw hbp
              rw [hpw] at hbp
              rw [← Nat.zero_add (k * 2)] at hw0 hw1
              clear hpv hpm hpw
              gi_wp2_with fail
              have hK0 : Nw Wr w7.drew := HN7.out.drew
              refine region_inH sqR39 14 (fun w'' => Nw Wr w'') (by kernel_rfl) (by kernel_rfl) (by kernel_rfl) (fun _ _ h => h) ?_
              refine take_at (i := 0) (d := some 162) (v := .slice (some ⟨b, 0, none⟩) 6 cap) (by kernel_rfl) (by kernel_rfl) (fun _ _ _ h => h) (fun w'' hS => by kernel_rfl) hK0 ?_
              refine take_at (i := 1) (d := some 163) (v := .slice (some ⟨wg, 0, none⟩) want.length lcap) (by kernel_rfl) (by kernel_rfl) (fun _ _ _ h => h) (fun w'' hS => exec_load 62 (.tmp 13) (by kernel_rfl) (by kernel_rfl) (by kernel_rfl) ((hS.cell cWl (fun x => x)).trans cW)) hK0 ?_
              refine take_at (i := 2) (d := some 164) (v := .int .i64 (k : Int)) (by kernel_rfl) (by kernel_rfl) (fun _ _ _ h => h) (fun w'' hS => by kernel_rfl) hK0 ?_
              refine take_at (i := 3) (d := some 165) (v := .pointer (some ⟨wg, 0 + k * 2, none⟩)) (by kernel_rfl) (by kernel_rfl) (fun _ _ _ h => h) (fun w'' hS => exec_index2 (i := k) (n := want.length) (cap := lcap) 62 63 (.tmp 163) (.tmp 164) (by kernel_rfl) (by kernel_rfl) (by kernel_rfl) hlt (by kernel_rfl) (by kernel_rfl)) hK0 ?_
              refine take_at (i := 4) (d := some 166) (v := .pointer (some ⟨wg, 0 + k * 2 + 0, none⟩)) (by kernel_rfl) (by kernel_rfl) (fun _ _ _ h => h) (fun w'' hS => exec_arr (i := 0) (n := 2) 63 3 (.tmp 165) (.const (.int .i64 0)) (by kernel_rfl) (by kernel_rfl) (by kernel_rfl) (by decide) (by kernel_rfl) (by kernel_rfl)) hK0 ?_
              refine take_at (i := 5) (d := some 167) (v := .int .i64 (p1 : Int)) (by kernel_rfl) (by kernel_rfl) (fun _ _ _ h => h) (fun w'' hS => exec_load 3 (.tmp 166) (by kernel_rfl) (by kernel_rfl) (by kernel_rfl) ((hS.cell hwgl (fun x => x)).trans hw0)) hK0 ?_
              refine take_at (i := 6) (d := some 168) (v := .pointer (some ⟨b, 0 + p1, none⟩)) (by kernel_rfl) (by kernel_rfl) (fun _ _ _ h => h) (fun w'' hS => exec_index (i := p1) (n := 6) (cap := cap) 22 3 (.tmp 162) (.tmp 167) (by kernel_rfl) (by kernel_rfl) (by kernel_rfl) hp6 (by kernel_rfl) (by kernel_rfl)) hK0 ?_
              refine take_at (i := 7) (d := some 169) (v := .int .i64 (p2 : Int)) (by kernel_rfl) (by kernel_rfl) (fun _ _ _ h => h) (fun w'' hS => exec_load 3 (.tmp 168) (by kernel_rfl) (by kernel_rfl) (by kernel_rfl) ((hS.cell hbl (fun x => x)).trans hbp)) hK0 ?_
              refine take_at (i := 8) (d := some 170) (v := .slice (some ⟨wg, 0, none⟩) want.length lcap) (by kernel_rfl) (by kernel_rfl) (fun _ _ _ h => h) (fun w'' hS => exec_load 62 (.tmp 13) (by kernel_rfl) (by kernel_rfl) (by kernel_rfl) ((hS.cell cWl (fun x => x)).trans cW)) hK0 ?_
              refine take_at (i := 9) (d := some 171) (v := .int .i64 (k : Int)) (by kernel_rfl) (by kernel_rfl) (fun _ _ _ h => h) (fun w'' hS => by kernel_rfl) hK0 ?_
              refine take_at (i := 10) (d := some 172) (v := .pointer (some ⟨wg, 0 + k * 2, none⟩)) (by kernel_rfl) (by kernel_rfl) (fun _ _ _ h => h) (fun w'' hS => exec_index2 (i := k) (n := want.length) (cap := lcap) 62 63 (.tmp 170) (.tmp 171) (by kernel_rfl) (by kernel_rfl) (by kernel_rfl) hlt (by kernel_rfl) (by kernel_rfl)) hK0 ?_
              refine take_at (i := 11) (d := some 173) (v := .pointer (some ⟨wg, 0 + k * 2 + 1, none⟩)) (by kernel_rfl) (by kernel_rfl) (fun _ _ _ h => h) (fun w'' hS => exec_arr (i := 1) (n := 2) 63 3 (.tmp 172) (.const (.int .i64 1)) (by kernel_rfl) (by kernel_rfl) (by kernel_rfl) (by decide) (by kernel_rfl) (by kernel_rfl)) hK0 ?_
              refine take_at (i := 12) (d := some 174) (v := .int .i64 (p2 : Int)) (by kernel_rfl) (by kernel_rfl) (fun _ _ _ h => h) (fun w'' hS => exec_load 3 (.tmp 173) (by kernel_rfl) (by kernel_rfl) (by kernel_rfl) ((hS.cell hwgl (fun x => x)).trans hw1)) hK0 ?_
              refine take_at (i := 13) (d := some 175) (v := .bool false) (by kernel_rfl) (by kernel_rfl) (fun _ _ _ h => h) (fun w'' hS => exec_neI (p2 : Int) (p2 : Int) false (.tmp 169) (.tmp 174) (by kernel_rfl) (by kernel_rfl) (by kernel_rfl) (by simp)) hK0 ?_
              refine wpAnyH_done (by kernel_rfl) ?_ _
              simp only [Act.put, List.setIfInBounds_toArray, List.set_cons_zero, List.set_cons_succ]
              gi_wp2_with fail
              exact ⟨⟨k + 1, by omega, by simp, HN7.out.drew⟩, by simp [intOf]; omega⟩
            · obtain rfl : want.length = k := by omega
              have hdk : ¬ ((want.length : Int) < (want.length : Int)) := by omega
              gi_wp2_with fail
              clear cW7 cWl7
              gi_loopw [22, 23] (fun i _ w8 => ∃ k : Nat, k ≤ 3 ∧ i = .int .i64 (k : Int) ∧ Hid (Nw Wr w8)) (fun i _ _ => 3 - (intOf i).toNat)
              case atStart => exact ⟨0, by omega, rfl, HN7⟩
              case round =>
                rename World => w8
                obtain ⟨i, hi3, rfl, HN8⟩ := hrel
                by_cases hlt : i < 3
                · have hdi : (i : Int) < 3 := by omega
                  have hne := HX.out.ne i hlt
                  obtain ⟨j, hj⟩ : ∃ j, (i + 1) % 3 = j := ⟨_, rfl⟩
                  have hj3 : j < 3 := by omega
                  have hjI : ((i : Int) + 1) % 3 = (j : Int) := by omega
                  have hjT : ((i : Int) + 1).tmod 3 = (j : Int) := by rw [Int.tmod_eq_emod_of_nonneg (by omega)]; omega
                  rw [hj] at hne
                  have hbx := Hbx.out
                  have Hne := hd hne
                  have Hbx' := hd hbx
                  clear hj hne hbx
                  gi_wp2_with fail
                  have hbx := Hbx'.out
                  have hne := Hne.out
                  have hK0 : Nw Wr w8.drew := HN8.out.drew
                  refine region_inH sqR45 34 (fun w'' => Nw Wr w'') (by kernel_rfl) (by kernel_rfl) (by kernel_rfl) (fun _ _ h => h) ?_
                  refine take_at (i := 0) (d := some 183) (v := .slice (some ⟨b, 0, none⟩) 6 cap) (by kernel_rfl) (by kernel_rfl) (fun _ _ _ h => h) (fun w'' hS => by kernel_rfl) hK0 ?_
                  refine take_at (i := 1) (d := some 184) (v := .int .i64 (i : Int)) (by kernel_rfl) (by kernel_rfl) (fun _ _ _ h => h) (fun w'' hS => by kernel_rfl) hK0 ?_
                  refine take_at (i := 2) (d := some 185) (v := .pointer (some ⟨b, 0 + i, none⟩)) (by kernel_rfl) (by kernel_rfl) (fun _ _ _ h => h) (fun w'' hS => exec_index (i := i) (n := 6) (cap := cap) 22 3 (.tmp 183) (.tmp 184) (by kernel_rfl) (by kernel_rfl) (by kernel_rfl) (by omega) (by kernel_rfl) (by kernel_rfl)) hK0 ?_
                  refine take_at (i := 3) (d := some 186) (v := .int .i64 ((x.getD (i) 0 : Nat) : Int)) (by kernel_rfl) (by kernel_rfl) (fun _ _ _ h => h) (fun w'' hS => exec_load 3 (.tmp 185) (by kernel_rfl) (by kernel_rfl) (by kernel_rfl) ((hS.cell hbl (fun x => x)).trans (hbx (i) (by omega)))) hK0 ?_
                  refine take_at (i := 4) (d := some 187) (v := .slice (some ⟨b, 0, none⟩) 6 cap) (by kernel_rfl) (by kernel_rfl) (fun _ _ _ h => h) (fun w'' hS => by kernel_rfl) hK0 ?_
                  refine take_at (i := 5) (d := some 188) (v := .int .i64 (j : Int)) (by kernel_rfl) (by kernel_rfl) (fun _ _ _ h => h) (fun w'' hS => by kernel_rfl) hK0 ?_
                  refine take_at (i := 6) (d := some 189) (v := .pointer (some ⟨b, 0 + j, none⟩)) (by kernel_rfl) (by kernel_rfl) (fun _ _ _ h => h) (fun w'' hS => exec_index (i := j) (n := 6) (cap := cap) 22 3 (.tmp 187) (.tmp 188) (by kernel_rfl) (by kernel_rfl) (by kernel_rfl) (by omega) (by kernel_rfl) (by kernel_rfl)) hK0 ?_
                  refine take_at (i := 7) (d := some 190) (v := .int .i64 ((x.getD (j) 0 : Nat) : Int)) (by kernel_rfl) (by kernel_rfl) (fun _ _ _ h => h) (fun w'' hS => exec_load 3 (.tmp 189) (by kernel_rfl) (by kernel_rfl) (by kernel_rfl) ((hS.cell hbl (fun x => x)).trans (hbx (j) (by omega)))) hK0 ?_
                  refine take_at (i := 8) (d := some 191) (v := .bool false) (by kernel_rfl) (by kernel_rfl) (fun _ _ _ h => h) (fun w'' hS => exec_eqI ((x.getD (i) 0 : Nat) : Int) ((x.getD (j) 0 : Nat) : Int) false (.tmp 186) (.tmp 190) (by kernel_rfl) (by kernel_rfl) (by kernel_rfl) (by rw [beq_eq_false_iff_ne]; exact fun e => hne.1 (Int.ofNat_inj.1 e))) hK0 ?_
                  refine take_at (i := 9) (d := some 192) (v := .bool false) (by kernel_rfl) (by kernel_rfl) (fun _ _ _ h => h) (fun w'' hS => by kernel_rfl) hK0 ?_
                  refine take_at (i := 10) (d := some 193) (v := .slice (some ⟨b, 0, none⟩) 6 cap) (by kernel_rfl) (by kernel_rfl) (fun _ _ _ h => h) (fun w'' hS => by kernel_rfl) hK0 ?_
                  refine take_at (i := 11) (d := some 194) (v := .int .i64 (i : Int)) (by kernel_rfl) (by kernel_rfl) (fun _ _ _ h => h) (fun w'' hS => by kernel_rfl) hK0 ?_
                  refine take_at (i := 12) (d := some 195) (v := .int .i64 ((3 + i : Nat) : Int)) (by kernel_rfl) (by kernel_rfl) (fun _ _ _ h => h) (fun w'' hS => exec_add 3 ((i : Nat) : Int) _ (.const (.int .i64 3)) (.tmp 194) (by kernel_rfl) (by kernel_rfl) (by kernel_rfl) (by omega) (by omega)) hK0 ?_
                  refine take_at (i := 13) (d := some 196) (v := .pointer (some ⟨b, 0 + (3 + i), none⟩)) (by kernel_rfl) (by kernel_rfl) (fun _ _ _ h => h) (fun w'' hS => exec_index (i := (3 + i)) (n := 6) (cap := cap) 22 3 (.tmp 193) (.tmp 195) (by kernel_rfl) (by kernel_rfl) (by kernel_rfl) (by omega) (by kernel_rfl) (by kernel_rfl)) hK0 ?_
                  refine take_at (i := 14) (d := some 197) (v := .int .i64 ((x.getD (3 + i) 0 : Nat) : Int)) (by kernel_rfl) (by kernel_rfl) (fun _ _ _ h => h) (fun w'' hS => exec_load 3 (.tmp 196) (by kernel_rfl) (by kernel_rfl) (by kernel_rfl) ((hS.cell hbl (fun x => x)).trans (hbx (3 + i) (by omega)))) hK0 ?_
                  refine take_at (i := 15) (d := some 198) (v := .slice (some ⟨b, 0, none⟩) 6 cap) (by kernel_rfl) (by kernel_rfl) (fun _ _ _ h => h) (fun w'' hS => by kernel_rfl) hK0 ?_
                  refine take_at (i := 16) (d := some 199) (v := .int .i64 (j : Int)) (by kernel_rfl) (by kernel_rfl) (fun _ _ _ h => h) (fun w'' hS => by kernel_rfl) hK0 ?_
                  refine take_at (i := 17) (d := some 200) (v := .int .i64 ((3 + j : Nat) : Int)) (by kernel_rfl) (by kernel_rfl) (fun _ _ _ h => h) (fun w'' hS => exec_add 3 ((j : Nat) : Int) _ (.const (.int .i64 3)) (.tmp 199) (by kernel_rfl) (by kernel_rfl) (by kernel_rfl) (by omega) (by omega)) hK0 ?_
                  refine take_at (i := 18) (d := some 201) (v := .pointer (some ⟨b, 0 + (3 + j), none⟩)) (by kernel_rfl) (by kernel_rfl) (fun _ _ _ h => h) (fun w'' hS => exec_index (i := (3 + j)) (n := 6) (cap := cap) 22 3 (.tmp 198) (.tmp 200) (by kernel_rfl) (by kernel_rfl) (by kernel_rfl) (by omega) (by kernel_rfl) (by kernel_rfl)) hK0 ?_
                  refine take_at (i := 19) (d := some 202) (v := .int .i64 ((x.getD (3 + j) 0 : Nat) : Int)) (by kernel_rfl) (by kernel_rfl) (fun _ _ _ h => h) (fun w'' hS => exec_load 3 (.tmp 201) (by kernel_rfl) (by kernel_rfl) (by kernel_rfl) ((hS.cell hbl (fun x => x)).trans (hbx (3 + j) (by omega)))) hK0 ?_
                  refine take_at (i := 20) (d := some 203) (v := .bool false) (by kernel_rfl) (by kernel_rfl) (fun _ _ _ h => h) (fun w'' hS => exec_eqI ((x.getD (3 + i) 0 : Nat) : Int) ((x.getD (3 + j) 0 : Nat) : Int) false (.tmp 197) (.tmp 202) (by kernel_rfl) (by kernel_rfl) (by kernel_rfl) (by rw [beq_eq_false_iff_ne]; exact fun e => hne.2.1 (Int.ofNat_inj.1 e))) hK0 ?_
                  refine take_at (i := 21) (d := some 204) (v := .bool false) (by kernel_rfl) (by kernel_rfl) (fun _ _ _ h => h) (fun w'' hS => by kernel_rfl) hK0 ?_
                  refine take_at (i := 22) (d := some 205) (v := .bool false) (by kernel_rfl) (by kernel_rfl) (fun _ _ _ h => h) (fun w'' hS => by kernel_rfl) hK0 ?_
                  refine take_at (i := 23) (d := some 206) (v := .slice (some ⟨b, 0, none⟩) 6 cap) (by kernel_rfl) (by kernel_rfl) (fun _ _ _ h => h) (fun w'' hS => by kernel_rfl) hK0 ?_
                  refine take_at (i := 24) (d := some 207) (v := .int .i64 (i : Int)) (by kernel_rfl) (by kernel_rfl) (fun _ _ _ h => h) (fun w'' hS => by kernel_rfl) hK0 ?_
                  refine take_at (i := 25) (d := some 208) (v := .pointer (some ⟨b, 0 + i, none⟩)) (by kernel_rfl) (by kernel_rfl) (fun _ _ _ h => h) (fun w'' hS => exec_index (i := i) (n := 6) (cap := cap) 22 3 (.tmp 206) (.tmp 207) (by kernel_rfl) (by kernel_rfl) (by kernel_rfl) (by omega) (by kernel_rfl) (by kernel_rfl)) hK0 ?_
                  refine take_at (i := 26) (d := some 209) (v := .int .i64 ((x.getD (i) 0 : Nat) : Int)) (by kernel_rfl) (by kernel_rfl) (fun _ _ _ h => h) (fun w'' hS => exec_load 3 (.tmp 208) (by kernel_rfl) (by kernel_rfl) (by kernel_rfl) ((hS.cell hbl (fun x => x)).trans (hbx (i) (by omega)))) hK0 ?_
                  refine take_at (i := 27) (d := some 210) (v := .slice (some ⟨b, 0, none⟩) 6 cap) (by kernel_rfl) (by kernel_rfl) (fun _ _ _ h => h) (fun w'' hS => by kernel_rfl) hK0 ?_
                  refine take_at (i := 28) (d := some 211) (v := .int .i64 (i : Int)) (by kernel_rfl) (by kernel_rfl) (fun _ _ _ h => h) (fun w'' hS => by kernel_rfl) hK0 ?_
                  refine take_at (i := 29) (d := some 212) (v := .int .i64 ((3 + i : Nat) : Int)) (by kernel_rfl) (by kernel_rfl) (fun _ _ _ h => h) (fun w'' hS => exec_add 3 ((i : Nat) : Int) _ (.const (.int .i64 3)) (.tmp 211) (by kernel_rfl) (by kernel_rfl) (by kernel_rfl) (by omega) (by omega)) hK0 ?_
                  refine take_at (i := 30) (d := some 213) (v := .pointer (some ⟨b, 0 + (3 + i), none⟩)) (by kernel_rfl) (by kernel_rfl) (fun _ _ _ h => h) (fun w'' hS => exec_index (i := (3 + i)) (n := 6) (cap := cap) 22 3 (.tmp 210) (.tmp 212) (by kernel_rfl) (by kernel_rfl) (by kernel_rfl) (by omega) (by kernel_rfl) (by kernel_rfl)) hK0 ?_
                  refine take_at (i := 31) (d := some 214) (v := .int .i64 ((x.getD (3 + i) 0 : Nat) : Int)) (by kernel_rfl) (by kernel_rfl) (fun _ _ _ h => h) (fun w'' hS => exec_load 3 (.tmp 213) (by kernel_rfl) (by kernel_rfl) (by kernel_rfl) ((hS.cell hbl (fun x => x)).trans (hbx (3 + i) (by omega)))) hK0 ?_
                  refine take_at (i := 32) (d := some 215) (v := .bool false) (by kernel_rfl) (by kernel_rfl) (fun _ _ _ h => h) (fun w'' hS => exec_eqI ((x.getD (i) 0 : Nat) : Int) ((x.getD (3 + i) 0 : Nat) : Int) false (.tmp 209) (.tmp 214) (by kernel_rfl) (by kernel_rfl) (by kernel_rfl) (by rw [beq_eq_false_iff_ne]; exact fun e => hne.2.2 (Int.ofNat_inj.1 e))) hK0 ?_
                  refine take_at (i := 33) (d := some 216) (v := .bool false) (by kernel_rfl) (by kernel_rfl) (fun _ _ _ h => h) (fun w'' hS => by kernel_rfl) hK0 ?_
                  refine wpAnyH_done (by kernel_rfl) ?_ _
                  simp only [Act.put, List.setIfInBounds_toArray, List.set_cons_zero, List.set_cons_succ]
                  gi_wp2_with fail
                  exact ⟨⟨i + 1, by omega, by simp, HN8.out.drew⟩, by simp [intOf]; omega⟩
                · obtain rfl : i = 3 := by omega
                  have hdi : ¬ (((3 : Nat) : Int) < 3) := by omega
                  have H18 := hd (H1.out.nw HN8.out)
                  have c8 := H18.out.cell 0
                  have c8f := H18.out.free 0
                  have c8l := H18.out.lt
                  gi_wp2_with fail
                  have hf9 : Fr (fun k => k = wx.heap.size) Wr (w8.setCell ⟨wx.heap.size, 0, none⟩ (.int .i64 ((done.length : Int) + 1))) := (HN8.out.mono (fun _ h => h.elim)).setCell _ _ (.inl rfl)
                  exact ⟨C, fun k h => .inl h, hf9.mono (fun i h => .inl (.inl ((HC.out i).2 h))), HC.out, H18.out.set 0 (.int .i64 ((done.length : Int) + 1)), HF.out.trans hf9 (fun i h => .inl (.inl h))⟩
        case done =>
          rintro D C' Wd hD hg ⟨hC, h1, hF⟩ hAd hfd hK
          rw [Hsols.out] at h1
          have hW2 : WantAt Wd w3.heap.size (.slice lo want.length lcap) want := HI1.out.want.fr hF (by omega) (fun q hq h => by
            have := HwvX.out q hq
            omega)
          have hba := HfR.out.size
          have hbb := Hfb.out.size
          have hRl := HR0.out.lt
          have hRd : Blk Wd w.heap.size #[.bool false] 4 := ((HR0.out.nw Hfb.out).nw HI1.out.nw).fr hF (by omega)
          have hNd : Nw w Wd := ((HfR.out.trans Hfb.out (fun _ x => x.elim)).trans HI1.out.nw (fun _ x => x.elim)).trans hF (fun i h => .inr (by omega))
          have HW := hd hW2
          have HR := hd hRd
          have HN := hd hNd
          have HK := hd hK
          have H1 := hd h1
          have htri : sols.length = triedTo want 729 := Htr.out
          have Htri := hd htri
          clear hW2 hRd hNd hK h1 hF hfd hAd hC hg htri Htr Hin
          go_wp2_with fail
          go_loopw [24, 25, 26, 27, 28, 29, 30, 31, 32] (fun tried c _ _ _ _ _ _ _ wr => ∃ k : Nat, k ≤ 729 ∧ c = .int .i64 (k : Int) ∧ tried = .int .i64 ((triedTo want k : Nat) : Int) ∧ Hid (Nw Wd wr)) (fun _ c _ _ _ _ _ _ _ _ => 729 - (intOf c).toNat)
          case atStart => exact ⟨0, by omega, rfl, rfl, Fr.refl _ _⟩
          case round =>
            rename World => w5
            obtain ⟨k, hk, rfl, rfl, HN5⟩ := hrel
            by_cases hlt : k < 729
            · have hdk : (k : Int) < 729 := by omega
              go_wp2_with fail
              obtain ⟨w6, hw6⟩ : ∃ w6, w5.alloc (.cells #[.int .i64 0, .int .i64 0, .int .i64 0, .int .i64 0, .int .i64 0, .int .i64 0] 64) = w6 := ⟨_, rfl⟩
              have hf6' : Nw w5 w6 := by rw [← hw6]; exact (Fr.refl _ w5).alloc _
              have hb6 : Blk w6 w5.heap.size (ints (digs k 0)).toArray 64 := by rw [← hw6]; exact Blk.new _ _ _
              rw [hw6]
              have HN6 := hd (HN5.out.trans hf6' (fun _ x => x.elim))
              have Hb6 := hd hb6
              have hS6 : Wd.heap.size ≤ w5.heap.size := HN5.out.size
              clear hw6 hf6' hb6
              go_loopw [27, 28] (fun r i w7 => ∃ j : Nat, j ≤ 6 ∧ i = .int .i64 (j : Int) ∧ r = .int .i64 ((restTo k j : Nat) : Int) ∧ Hid (Blk w7 w5.heap.size (ints (digs k j)).toArray 64) ∧ Hid (Nw Wd w7)) (fun _ i _ => 6 - (intOf i).toNat)
              case atStart => exact ⟨0, by omega, rfl, rfl, Hb6, HN6⟩
              case round =>
                rename World => w7
                obtain ⟨j, hj, rfl, rfl, Hb7, HN7⟩ := hrel
                clear Hb6 HN6
                by_cases hj6 : j < 6
                · have hdj : (j : Int) < 6 := by omega
                  have Hset := hd (digs_set k j hj6)
                  have hrt : ((restTo k j : Nat) : Int).tmod 3 = ((restTo k j % 3 : Nat) : Int) := by
                    rw [Int.tmod_eq_emod_of_nonneg (by omega)]
                    omega
                  have hrd : ((restTo k j : Nat) : Int).tdiv 3 = ((restTo k (j + 1) : Nat) : Int) := by
                    show _ = ((restTo k j / 3 : Nat) : Int)
                    rw [Int.tdiv_eq_ediv_of_nonneg (by omega)]
                    omega
                  have hrle := restTo_le k j
                  have hrle' := restTo_le k (j + 1)
                  have c7 := Hb7.out.cell j
                  have c7f := Hb7.out.free j
                  have c7l := Hb7.out.lt
                  have hc7 : ∃ old, w7.cell? ⟨w5.heap.size, j, none⟩ = some old := ⟨_, c7.trans (Array.getElem?_eq_getElem (by simp [ints, digs]; omega))⟩
                  obtain ⟨old, hc7⟩ := hc7
                  obtain ⟨r, hr⟩ : ∃ r, restTo k j = r := ⟨_, rfl⟩
                  obtain ⟨r2, hr2⟩ : ∃ r2, restTo k (j + 1) = r2 := ⟨_, rfl⟩
                  obtain ⟨r3, hr3⟩ : ∃ r3, r % 3 = r3 := ⟨_, rfl⟩
                  rw [hr] at hrt hrd hrle Hset ⊢
                  rw [hr2] at hrd hrle'
                  rw [hr3] at hrt Hset
                  have Hr2 := hd hr2
                  clear hr hr2 hr3 c7
                  go_wp2_with fail
                  refine ⟨⟨j + 1, by omega, by simp, by rw [Hr2.out], ?_, ?_⟩, by simp [intOf]; omega⟩
                  · rw [← Hset.out]
                    exact Hb7.out.set j _
                  · have hf7 : Fr (fun q => q = w5.heap.size) w7 (w7.setCell ⟨w5.heap.size, j, none⟩ (.int .i64 (r3 : Int))) := (Fr.refl _ w7).setCell _ _ (.inl rfl)
                    exact HN7.out.trans hf7 (fun i h => .inr (by omega))
                · obtain rfl : j = 6 := by omega
                  have hdj : ¬ (((6 : Nat) : Int) < 6) := by omega
                  rw [digs_all] at Hb7
                  have Hsucc := hd (triedTo_succ want k hlt (dig k) rfl)
                  have htle := triedTo_le want k
                  obtain ⟨x, hx⟩ : ∃ x, dig k = x := ⟨_, rfl⟩
                  have hx6 : x.length = 6 := by rw [← hx]; rfl
                  rw [hx] at Hb7 Hsucc
                  clear hx
                  have hcx : ∀ q, q < 6 → w7.cell? ⟨w5.heap.size, q, none⟩ = some (.int .i64 ((x.getD q 0 : Nat) : Int)) := fun q hq => by
                    rw [Hb7.out.cell]
                    simp [ints, List.getD, hx6, hq]
                  have Hcx := hd hcx
                  have c7l := Hb7.out.lt
                  clear hcx hx6
                  go_wp2_with fail
                  go_loopw [29, 30, 31] (fun f i _ w8 => ∃ j : Nat, j ≤ 3 ∧ i = .int .i64 (j : Int) ∧ f = .bool (okQs x j) ∧ Hid (Nw w7 w8)) (fun _ i _ _ => 3 - (intOf i).toNat)
                  case atStart => exact ⟨0, by omega, rfl, rfl, Fr.refl _ _⟩
                  case round =>
                    rename World => w8
                    obtain ⟨i, hi3, rfl, rfl, HN8⟩ := hrel
                    have Hs := hd (okQs_succ x i)
                    obtain ⟨fb, hfb⟩ : ∃ fb, okQs x i = fb := ⟨_, rfl⟩
                    have Hfb := hd hfb
                    rw [hfb] at Hs ⊢
                    clear hfb
                    by_cases hlt3 : i < 3
                    · have hdi : (i : Int) < 3 := by omega
                      have hcz : ∀ q, q < 6 → w7.cell? ⟨w5.heap.size, 0 + q, none⟩ = some (.int .i64 ((x.getD q 0 : Nat) : Int)) := fun q hq => by rw [Nat.zero_add]; exact Hcx.out q hq
                      have hokx : okQ x i = (x.getD i 0 != x.getD ((i + 1) % 3) 0 && x.getD (3 + i) 0 != x.getD (3 + (i + 1) % 3) 0 && x.getD i 0 != x.getD (3 + i) 0) := rfl
                      rw [hokx] at Hs
                      obtain ⟨j, hj'⟩ : ∃ j, (i + 1) % 3 = j := ⟨_, rfl⟩
                      have hj3 : j < 3 := by omega
                      have hjT : ((i : Int) + 1).tmod 3 = (j : Int) := by rw [Int.tmod_eq_emod_of_nonneg (by omega)]; omega
                      rw [hj'] at Hs
                      clear hj' hokx
                      have hne : ∀ a b : Nat, (!((a : Int) == (b : Int))) = (a != b) := fun a b => by
                        by_cases h : a = b
                        · subst h
                          simp
                        · have h1 : ((a : Int) == (b : Int)) = false := by rw [beq_eq_false_iff_ne]; omega
                          have h2 : (a == b) = false := by rw [beq_eq_false_iff_ne]; exact h
                          rw [h1]
                          show true = !(a == b)
                          rw [h2]
                          rfl
                      obtain ⟨n1, hn1⟩ : ∃ n, (x.getD i 0 != x.getD j 0) = n := ⟨_, rfl⟩
                      obtain ⟨n2, hn2⟩ : ∃ n, (x.getD (3 + i) 0 != x.getD (3 + j) 0) = n := ⟨_, rfl⟩
                      obtain ⟨n3, hn3⟩ : ∃ n, (x.getD i 0 != x.getD (3 + i) 0) = n := ⟨_, rfl⟩
                      have h1n := (hne (x.getD i 0) (x.getD j 0)).trans hn1
                      have h2n := (hne (x.getD (3 + i) 0) (x.getD (3 + j) 0)).trans hn2
                      have h3n := (hne (x.getD i 0) (x.getD (3 + i) 0)).trans hn3
                      rw [hn1, hn2, hn3] at Hs
                      have H1n := hd h1n
                      have H2n := hd h2n
                      have H3n := hd h3n
                      have Hcz := hd hcz
                      clear hn1 hn2 hn3 hne h1n h2n h3n hcz
                      go_wp2_with fail
                      have hcz := Hcz.out
                      have h1n := H1n.out
                      have h2n := H2n.out
                      have h3n := H3n.out
                      cases fb with
                      | false =>
                        have hK0 : Nw w7 w8.drew := HN8.out.drew
                        refine region_H sqR64 32 (fun w'' => Nw w7 w'') (by kernel_rfl) (by kernel_rfl) (by kernel_rfl) ?_
                        refine take_at (i := 0) (d := some 241) (v := .bool false) (by kernel_rfl) (by kernel_rfl) (fun _ _ _ h => h) (fun w'' hS => by kernel_rfl) hK0 ?_
                        refine take_at (i := 1) (d := some 242) (v := .bool false) (by kernel_rfl) (by kernel_rfl) (fun _ _ _ h => h) (fun w'' hS => by kernel_rfl) hK0 ?_
                        refine pass_at (i := 2) (d := some 243) (by kernel_rfl) (by kernel_rfl) (fun _ _ _ h => h) hK0 ?_
                        refine pass_at (i := 3) (d := some 244) (by kernel_rfl) (by kernel_rfl) (fun _ _ _ h => h) hK0 ?_
                        refine pass_at (i := 4) (d := some 245) (by kernel_rfl) (by kernel_rfl) (fun _ _ _ h => h) hK0 ?_
                        refine pass_at (i := 5) (d := some 246) (by kernel_rfl) (by kernel_rfl) (fun _ _ _ h => h) hK0 ?_
                        refine pass_at (i := 6) (d := some 247) (by kernel_rfl) (by kernel_rfl) (fun _ _ _ h => h) hK0 ?_
                        refine pass_at (i := 7) (d := some 248) (by kernel_rfl) (by kernel_rfl) (fun _ _ _ h => h) hK0 ?_
                        refine pass_at (i := 8) (d := some 249) (by kernel_rfl) (by kernel_rfl) (fun _ _ _ h => h) hK0 ?_
                        refine take_at (i := 9) (d := some 250) (v := .bool false) (by kernel_rfl) (by kernel_rfl) (fun _ _ _ h => h) (fun w'' hS => by kernel_rfl) hK0 ?_
                        refine take_at (i := 10) (d := some 251) (v := .bool false) (by kernel_rfl) (by kernel_rfl) (fun _ _ _ h => h) (fun w'' hS => by kernel_rfl) hK0 ?_
                        refine pass_at (i := 11) (d := some 252) (by kernel_rfl) (by kernel_rfl) (fun _ _ _ h => h) hK0 ?_
                        refine pass_at (i := 12) (d := some 253) (by kernel_rfl) (by kernel_rfl) (fun _ _ _ h => h) hK0 ?_
                        refine pass_at (i := 13) (d := some 254) (by kernel_rfl) (by kernel_rfl) (fun _ _ _ h => h) hK0 ?_
                        refine pass_at (i := 14) (d := some 255) (by kernel_rfl) (by kernel_rfl) (fun _ _ _ h => h) hK0 ?_
                        refine pass_at (i := 15) (d := some 256) (by kernel_rfl) (by kernel_rfl) (fun _ _ _ h => h) hK0 ?_
                        refine pass_at (i := 16) (d := some 257) (by kernel_rfl) (by kernel_rfl) (fun _ _ _ h => h) hK0 ?_
                        refine pass_at (i := 17) (d := some 258) (by kernel_rfl) (by kernel_rfl) (fun _ _ _ h => h) hK0 ?_
                        refine pass_at (i := 18) (d := some 259) (by kernel_rfl) (by kernel_rfl) (fun _ _ _ h => h) hK0 ?_
                        refine pass_at (i := 19) (d := some 260) (by kernel_rfl) (by kernel_rfl) (fun _ _ _ h => h) hK0 ?_
                        refine take_at (i := 20) (d := some 261) (v := .bool false) (by kernel_rfl) (by kernel_rfl) (fun _ _ _ h => h) (fun w'' hS => by kernel_rfl) hK0 ?_
                        refine take_at (i := 21) (d := some 262) (v := .bool false) (by kernel_rfl) (by kernel_rfl) (fun _ _ _ h => h) (fun w'' hS => by kernel_rfl) hK0 ?_
                        refine pass_at (i := 22) (d := some 263) (by kernel_rfl) (by kernel_rfl) (fun _ _ _ h => h) hK0 ?_
                        refine pass_at (i := 23) (d := some 264) (by kernel_rfl) (by kernel_rfl) (fun _ _ _ h => h) hK0 ?_
                        refine pass_at (i := 24) (d := some 265) (by kernel_rfl) (by kernel_rfl) (fun _ _ _ h => h) hK0 ?_
                        refine pass_at (i := 25) (d := some 266) (by kernel_rfl) (by kernel_rfl) (fun _ _ _ h => h) hK0 ?_
                        refine pass_at (i := 26) (d := some 267) (by kernel_rfl) (by kernel_rfl) (fun _ _ _ h => h) hK0 ?_
                        refine pass_at (i := 27) (d := some 268) (by kernel_rfl) (by kernel_rfl) (fun _ _ _ h => h) hK0 ?_
                        refine pass_at (i := 28) (d := some 269) (by kernel_rfl) (by kernel_rfl) (fun _ _ _ h => h) hK0 ?_
                        refine pass_at (i := 29) (d := some 270) (by kernel_rfl) (by kernel_rfl) (fun _ _ _ h => h) hK0 ?_
                        refine take_at (i := 30) (d := some 271) (v := .bool false) (by kernel_rfl) (by kernel_rfl) (fun _ _ _ h => h) (fun w'' hS => by kernel_rfl) hK0 ?_
                        refine value_at (i := 31) (d := some 29) (v := .bool false) (w' := w8.drew) (by kernel_rfl) (by kernel_rfl) (by kernel_rfl) hK0 ?_
                        refine wpAnyH_done (by kernel_rfl) ?_ _
                        simp only [Act.put, List.setIfInBounds_toArray, List.set_cons_zero, List.set_cons_succ]
                        go_wp2_with fail
                        exact ⟨⟨i + 1, by omega, by simp, by rw [Hs.out, Bool.false_and], HN8.out.drew⟩, by simp [intOf]; omega⟩
                      | true =>
                        cases n1 with
                        | false =>
                          have hK0 : Nw w7 w8.drew := HN8.out.drew
                          refine region_H sqR64 32 (fun w'' => Nw w7 w'') (by kernel_rfl) (by kernel_rfl) (by kernel_rfl) ?_
                          refine take_at (i := 0) (d := some 241) (v := .bool true) (by kernel_rfl) (by kernel_rfl) (fun _ _ _ h => h) (fun w'' hS => by kernel_rfl) hK0 ?_
                          refine take_at (i := 1) (d := some 242) (v := .bool true) (by kernel_rfl) (by kernel_rfl) (fun _ _ _ h => h) (fun w'' hS => by kernel_rfl) hK0 ?_
                          refine take_at (i := 2) (d := some 243) (v := .int .i64 (i : Int)) (by kernel_rfl) (by kernel_rfl) (fun _ _ _ h => h) (fun w'' hS => by kernel_rfl) hK0 ?_
                          refine take_at (i := 3) (d := some 244) (v := .pointer (some ⟨w5.heap.size, 0 + i, none⟩)) (by kernel_rfl) (by kernel_rfl) (fun _ _ _ h => h) (fun w'' hS => exec_arr (i := i) (n := 6) 64 3 (.tmp 26) (.tmp 243) (by kernel_rfl) (by kernel_rfl) (by kernel_rfl) (by omega) (by kernel_rfl) (by kernel_rfl)) hK0 ?_
                          refine take_at (i := 4) (d := some 245) (v := .int .i64 ((x.getD (i) 0 : Nat) : Int)) (by kernel_rfl) (by kernel_rfl) (fun _ _ _ h => h) (fun w'' hS => exec_load 3 (.tmp 244) (by kernel_rfl) (by kernel_rfl) (by kernel_rfl) ((hS.cell c7l (fun x => x)).trans (hcz (i) (by omega)))) hK0 ?_
                          refine take_at (i := 5) (d := some 246) (v := .int .i64 (j : Int)) (by kernel_rfl) (by kernel_rfl) (fun _ _ _ h => h) (fun w'' hS => by kernel_rfl) hK0 ?_
                          refine take_at (i := 6) (d := some 247) (v := .pointer (some ⟨w5.heap.size, 0 + j, none⟩)) (by kernel_rfl) (by kernel_rfl) (fun _ _ _ h => h) (fun w'' hS => exec_arr (i := j) (n := 6) 64 3 (.tmp 26) (.tmp 246) (by kernel_rfl) (by kernel_rfl) (by kernel_rfl) (by omega) (by kernel_rfl) (by kernel_rfl)) hK0 ?_
                          refine take_at (i := 7) (d := some 248) (v := .int .i64 ((x.getD (j) 0 : Nat) : Int)) (by kernel_rfl) (by kernel_rfl) (fun _ _ _ h => h) (fun w'' hS => exec_load 3 (.tmp 247) (by kernel_rfl) (by kernel_rfl) (by kernel_rfl) ((hS.cell c7l (fun x => x)).trans (hcz (j) (by omega)))) hK0 ?_
                          refine take_at (i := 8) (d := some 249) (v := .bool false) (by kernel_rfl) (by kernel_rfl) (fun _ _ _ h => h) (fun w'' hS => exec_neI ((x.getD (i) 0 : Nat) : Int) ((x.getD (j) 0 : Nat) : Int) false (.tmp 245) (.tmp 248) (by kernel_rfl) (by kernel_rfl) (by kernel_rfl) h1n) hK0 ?_
                          refine take_at (i := 9) (d := some 250) (v := .bool false) (by kernel_rfl) (by kernel_rfl) (fun _ _ _ h => h) (fun w'' hS => by kernel_rfl) hK0 ?_
                          refine take_at (i := 10) (d := some 251) (v := .bool false) (by kernel_rfl) (by kernel_rfl) (fun _ _ _ h => h) (fun w'' hS => by kernel_rfl) hK0 ?_
                          refine pass_at (i := 11) (d := some 252) (by kernel_rfl) (by kernel_rfl) (fun _ _ _ h => h) hK0 ?_
                          refine pass_at (i := 12) (d := some 253) (by kernel_rfl) (by kernel_rfl) (fun _ _ _ h => h) hK0 ?_
                          refine pass_at (i := 13) (d := some 254) (by kernel_rfl) (by kernel_rfl) (fun _ _ _ h => h) hK0 ?_
                          refine pass_at (i := 14) (d := some 255) (by kernel_rfl) (by kernel_rfl) (fun _ _ _ h => h) hK0 ?_
                          refine pass_at (i := 15) (d := some 256) (by kernel_rfl) (by kernel_rfl) (fun _ _ _ h => h) hK0 ?_
                          refine pass_at (i := 16) (d := some 257) (by kernel_rfl) (by kernel_rfl) (fun _ _ _ h => h) hK0 ?_
                          refine pass_at (i := 17) (d := some 258) (by kernel_rfl) (by kernel_rfl) (fun _ _ _ h => h) hK0 ?_
                          refine pass_at (i := 18) (d := some 259) (by kernel_rfl) (by kernel_rfl) (fun _ _ _ h => h) hK0 ?_
                          refine pass_at (i := 19) (d := some 260) (by kernel_rfl) (by kernel_rfl) (fun _ _ _ h => h) hK0 ?_
                          refine take_at (i := 20) (d := some 261) (v := .bool false) (by kernel_rfl) (by kernel_rfl) (fun _ _ _ h => h) (fun w'' hS => by kernel_rfl) hK0 ?_
                          refine take_at (i := 21) (d := some 262) (v := .bool false) (by kernel_rfl) (by kernel_rfl) (fun _ _ _ h => h) (fun w'' hS => by kernel_rfl) hK0 ?_
                          refine pass_at (i := 22) (d := some 263) (by kernel_rfl) (by kernel_rfl) (fun _ _ _ h => h) hK0 ?_
                          refine pass_at (i := 23) (d := some 264) (by kernel_rfl) (by kernel_rfl) (fun _ _ _ h => h) hK0 ?_
                          refine pass_at (i := 24) (d := some 265) (by kernel_rfl) (by kernel_rfl) (fun _ _ _ h => h) hK0 ?_
                          refine pass_at (i := 25) (d := some 266) (by kernel_rfl) (by kernel_rfl) (fun _ _ _ h => h) hK0 ?_
                          refine pass_at (i := 26) (d := some 267) (by kernel_rfl) (by kernel_rfl) (fun _ _ _ h => h) hK0 ?_
                          refine pass_at (i := 27) (d := some 268) (by kernel_rfl) (by kernel_rfl) (fun _ _ _ h => h) hK0 ?_
                          refine pass_at (i := 28) (d := some 269) (by kernel_rfl) (by kernel_rfl) (fun _ _ _ h => h) hK0 ?_
                          refine pass_at (i := 29) (d := some 270) (by kernel_rfl) (by kernel_rfl) (fun _ _ _ h => h) hK0 ?_
                          refine take_at (i := 30) (d := some 271) (v := .bool false) (by kernel_rfl) (by kernel_rfl) (fun _ _ _ h => h) (fun w'' hS => by kernel_rfl) hK0 ?_
                          refine value_at (i := 31) (d := some 29) (v := .bool false) (w' := w8.drew) (by kernel_rfl) (by kernel_rfl) (by kernel_rfl) hK0 ?_
                          refine wpAnyH_done (by kernel_rfl) ?_ _
                          simp only [Act.put, List.setIfInBounds_toArray, List.set_cons_zero, List.set_cons_succ]
                          go_wp2_with fail
                          exact ⟨⟨i + 1, by omega, by simp, by rw [Hs.out]; rfl, HN8.out.drew⟩, by simp [intOf]; omega⟩
                        | true =>
                          cases n2 with
                          | false =>
                            have hK0 : Nw w7 w8.drew := HN8.out.drew
                            refine region_H sqR64 32 (fun w'' => Nw w7 w'') (by kernel_rfl) (by kernel_rfl) (by kernel_rfl) ?_
                            refine take_at (i := 0) (d := some 241) (v := .bool true) (by kernel_rfl) (by kernel_rfl) (fun _ _ _ h => h) (fun w'' hS => by kernel_rfl) hK0 ?_
                            refine take_at (i := 1) (d := some 242) (v := .bool true) (by kernel_rfl) (by kernel_rfl) (fun _ _ _ h => h) (fun w'' hS => by kernel_rfl) hK0 ?_
                            refine take_at (i := 2) (d := some 243) (v := .int .i64 (i : Int)) (by kernel_rfl) (by kernel_rfl) (fun _ _ _ h => h) (fun w'' hS => by kernel_rfl) hK0 ?_
                            refine take_at (i := 3) (d := some 244) (v := .pointer (some ⟨w5.heap.size, 0 + i, none⟩)) (by kernel_rfl) (by kernel_rfl) (fun _ _ _ h => h) (fun w'' hS => exec_arr (i := i) (n := 6) 64 3 (.tmp 26) (.tmp 243) (by kernel_rfl) (by kernel_rfl) (by kernel_rfl) (by omega) (by kernel_rfl) (by kernel_rfl)) hK0 ?_
                            refine take_at (i := 4) (d := some 245) (v := .int .i64 ((x.getD (i) 0 : Nat) : Int)) (by kernel_rfl) (by kernel_rfl) (fun _ _ _ h => h) (fun w'' hS => exec_load 3 (.tmp 244) (by kernel_rfl) (by kernel_rfl) (by kernel_rfl) ((hS.cell c7l (fun x => x)).trans (hcz (i) (by omega)))) hK0 ?_
                            refine take_at (i := 5) (d := some 246) (v := .int .i64 (j : Int)) (by kernel_rfl) (by kernel_rfl) (fun _ _ _ h => h) (fun w'' hS => by kernel_rfl) hK0 ?_
                            refine take_at (i := 6) (d := some 247) (v := .pointer (some ⟨w5.heap.size, 0 + j, none⟩)) (by kernel_rfl) (by kernel_rfl) (fun _ _ _ h => h) (fun w'' hS => exec_arr (i := j) (n := 6) 64 3 (.tmp 26) (.tmp 246) (by kernel_rfl) (by kernel_rfl) (by kernel_rfl) (by omega) (by kernel_rfl) (by kernel_rfl)) hK0 ?_
                            refine take_at (i := 7) (d := some 248) (v := .int .i64 ((x.getD (j) 0 : Nat) : Int)) (by kernel_rfl) (by kernel_rfl) (fun _ _ _ h => h) (fun w'' hS => exec_load 3 (.tmp 247) (by kernel_rfl) (by kernel_rfl) (by kernel_rfl) ((hS.cell c7l (fun x => x)).trans (hcz (j) (by omega)))) hK0 ?_
                            refine take_at (i := 8) (d := some 249) (v := .bool true) (by kernel_rfl) (by kernel_rfl) (fun _ _ _ h => h) (fun w'' hS => exec_neI ((x.getD (i) 0 : Nat) : Int) ((x.getD (j) 0 : Nat) : Int) true (.tmp 245) (.tmp 248) (by kernel_rfl) (by kernel_rfl) (by kernel_rfl) h1n) hK0 ?_
                            refine take_at (i := 9) (d := some 250) (v := .bool true) (by kernel_rfl) (by kernel_rfl) (fun _ _ _ h => h) (fun w'' hS => by kernel_rfl) hK0 ?_
                            refine take_at (i := 10) (d := some 251) (v := .bool true) (by kernel_rfl) (by kernel_rfl) (fun _ _ _ h => h) (fun w'' hS => by kernel_rfl) hK0 ?_
                            refine take_at (i := 11) (d := some 252) (v := .int .i64 (i : Int)) (by kernel_rfl) (by kernel_rfl) (fun _ _ _ h => h) (fun w'' hS => by kernel_rfl) hK0 ?_
                            refine take_at (i := 12) (d := some 253) (v := .int .i64 ((3 + i : Nat) : Int)) (by kernel_rfl) (by kernel_rfl) (fun _ _ _ h => h) (fun w'' hS => exec_add 3 ((i : Nat) : Int) _ (.const (.int .i64 3)) (.tmp 252) (by kernel_rfl) (by kernel_rfl) (by kernel_rfl) (by omega) (by omega)) hK0 ?_
                            refine take_at (i := 13) (d := some 254) (v := .pointer (some ⟨w5.heap.size, 0 + (3 + i), none⟩)) (by kernel_rfl) (by kernel_rfl) (fun _ _ _ h => h) (fun w'' hS => exec_arr (i := (3 + i)) (n := 6) 64 3 (.tmp 26) (.tmp 253) (by kernel_rfl) (by kernel_rfl) (by kernel_rfl) (by omega) (by kernel_rfl) (by kernel_rfl)) hK0 ?_
                            refine take_at (i := 14) (d := some 255) (v := .int .i64 ((x.getD (3 + i) 0 : Nat) : Int)) (by kernel_rfl) (by kernel_rfl) (fun _ _ _ h => h) (fun w'' hS => exec_load 3 (.tmp 254) (by kernel_rfl) (by kernel_rfl) (by kernel_rfl) ((hS.cell c7l (fun x => x)).trans (hcz (3 + i) (by omega)))) hK0 ?_
                            refine take_at (i := 15) (d := some 256) (v := .int .i64 (j : Int)) (by kernel_rfl) (by kernel_rfl) (fun _ _ _ h => h) (fun w'' hS => by kernel_rfl) hK0 ?_
                            refine take_at (i := 16) (d := some 257) (v := .int .i64 ((3 + j : Nat) : Int)) (by kernel_rfl) (by kernel_rfl) (fun _ _ _ h => h) (fun w'' hS => exec_add 3 ((j : Nat) : Int) _ (.const (.int .i64 3)) (.tmp 256) (by kernel_rfl) (by kernel_rfl) (by kernel_rfl) (by omega) (by omega)) hK0 ?_
                            refine take_at (i := 17) (d := some 258) (v := .pointer (some ⟨w5.heap.size, 0 + (3 + j), none⟩)) (by kernel_rfl) (by kernel_rfl) (fun _ _ _ h => h) (fun w'' hS => exec_arr (i := (3 + j)) (n := 6) 64 3 (.tmp 26) (.tmp 257) (by kernel_rfl) (by kernel_rfl) (by kernel_rfl) (by omega) (by kernel_rfl) (by kernel_rfl)) hK0 ?_
                            refine take_at (i := 18) (d := some 259) (v := .int .i64 ((x.getD (3 + j) 0 : Nat) : Int)) (by kernel_rfl) (by kernel_rfl) (fun _ _ _ h => h) (fun w'' hS => exec_load 3 (.tmp 258) (by kernel_rfl) (by kernel_rfl) (by kernel_rfl) ((hS.cell c7l (fun x => x)).trans (hcz (3 + j) (by omega)))) hK0 ?_
                            refine take_at (i := 19) (d := some 260) (v := .bool false) (by kernel_rfl) (by kernel_rfl) (fun _ _ _ h => h) (fun w'' hS => exec_neI ((x.getD (3 + i) 0 : Nat) : Int) ((x.getD (3 + j) 0 : Nat) : Int) false (.tmp 255) (.tmp 259) (by kernel_rfl) (by kernel_rfl) (by kernel_rfl) h2n) hK0 ?_
                            refine take_at (i := 20) (d := some 261) (v := .bool false) (by kernel_rfl) (by kernel_rfl) (fun _ _ _ h => h) (fun w'' hS => by kernel_rfl) hK0 ?_
                            refine take_at (i := 21) (d := some 262) (v := .bool false) (by kernel_rfl) (by kernel_rfl) (fun _ _ _ h => h) (fun w'' hS => by kernel_rfl) hK0 ?_
                            refine pass_at (i := 22) (d := some 263) (by kernel_rfl) (by kernel_rfl) (fun _ _ _ h => h) hK0 ?_
                            refine pass_at (i := 23) (d := some 264) (by kernel_rfl) (by kernel_rfl) (fun _ _ _ h => h) hK0 ?_
                            refine pass_at (i := 24) (d := some 265) (by kernel_rfl) (by kernel_rfl) (fun _ _ _ h => h) hK0 ?_
                            refine pass_at (i := 25) (d := some 266) (by kernel_rfl) (by kernel_rfl) (fun _ _ _ h => h) hK0 ?_
                            refine pass_at (i := 26) (d := some 267) (by kernel_rfl) (by kernel_rfl) (fun _ _ _ h => h) hK0 ?_
                            refine pass_at (i := 27) (d := some 268) (by kernel_rfl) (by kernel_rfl) (fun _ _ _ h => h) hK0 ?_
                            refine pass_at (i := 28) (d := some 269) (by kernel_rfl) (by kernel_rfl) (fun _ _ _ h => h) hK0 ?_
                            refine pass_at (i := 29) (d := some 270) (by kernel_rfl) (by kernel_rfl) (fun _ _ _ h => h) hK0 ?_
                            refine take_at (i := 30) (d := some 271) (v := .bool false) (by kernel_rfl) (by kernel_rfl) (fun _ _ _ h => h) (fun w'' hS => by kernel_rfl) hK0 ?_
                            refine value_at (i := 31) (d := some 29) (v := .bool false) (w' := w8.drew) (by kernel_rfl) (by kernel_rfl) (by kernel_rfl) hK0 ?_
                            refine wpAnyH_done (by kernel_rfl) ?_ _
                            simp only [Act.put, List.setIfInBounds_toArray, List.set_cons_zero, List.set_cons_succ]
                            go_wp2_with fail
                            exact ⟨⟨i + 1, by omega, by simp, by rw [Hs.out]; rfl, HN8.out.drew⟩, by simp [intOf]; omega⟩
                          | true =>
                            have hK0 : Nw w7 w8.drew := HN8.out.drew
                            refine region_H sqR64 32 (fun w'' => Nw w7 w'') (by kernel_rfl) (by kernel_rfl) (by kernel_rfl) ?_
                            refine take_at (i := 0) (d := some 241) (v := .bool true) (by kernel_rfl) (by kernel_rfl) (fun _ _ _ h => h) (fun w'' hS => by kernel_rfl) hK0 ?_
                            refine take_at (i := 1) (d := some 242) (v := .bool true) (by kernel_rfl) (by kernel_rfl) (fun _ _ _ h => h) (fun w'' hS => by kernel_rfl) hK0 ?_
                            refine take_at (i := 2) (d := some 243) (v := .int .i64 (i : Int)) (by kernel_rfl) (by kernel_rfl) (fun _ _ _ h => h) (fun w'' hS => by kernel_rfl) hK0 ?_
                            refine take_at (i := 3) (d := some 244) (v := .pointer (some ⟨w5.heap.size, 0 + i, none⟩)) (by kernel_rfl) (by kernel_rfl) (fun _ _ _ h => h) (fun w'' hS => exec_arr (i := i) (n := 6) 64 3 (.tmp 26) (.tmp 243) (by kernel_rfl) (by kernel_rfl) (by kernel_rfl) (by omega) (by kernel_rfl) (by kernel_rfl)) hK0 ?_
                            refine take_at (i := 4) (d := some 245) (v := .int .i64 ((x.getD (i) 0 : Nat) : Int)) (by kernel_rfl) (by kernel_rfl) (fun _ _ _ h => h) (fun w'' hS => exec_load 3 (.tmp 244) (by kernel_rfl) (by kernel_rfl) (by kernel_rfl) ((hS.cell c7l (fun x => x)).trans (hcz (i) (by omega)))) hK0 ?_
                            refine take_at (i := 5) (d := some 246) (v := .int .i64 (j : Int)) (by kernel_rfl) (by kernel_rfl) (fun _ _ _ h => h) (fun w'' hS => by kernel_rfl) hK0 ?_
                            refine take_at (i := 6) (d := some 247) (v := .pointer (some ⟨w5.heap.size, 0 + j, none⟩)) (by kernel_rfl) (by kernel_rfl) (fun _ _ _ h => h) (fun w'' hS => exec_arr (i := j) (n := 6) 64 3 (.tmp 26) (.tmp 246) (by kernel_rfl) (by kernel_rfl) (by kernel_rfl) (by omega) (by kernel_rfl) (by kernel_rfl)) hK0 ?_
                            refine take_at (i := 7) (d := some 248) (v := .int .i64 ((x.getD (j) 0 : Nat) : Int)) (by kernel_rfl) (by kernel_rfl) (fun _ _ _ h => h) (fun w'' hS => exec_load 3 (.tmp 247) (by kernel_rfl) (by kernel_rfl) (by kernel_rfl) ((hS.cell c7l (fun x => x)).trans (hcz (j) (by omega)))) hK0 ?_
                            refine take_at (i := 8) (d := some 249) (v := .bool true) (by kernel_rfl) (by kernel_rfl) (fun _ _ _ h => h) (fun w'' hS => exec_neI ((x.getD (i) 0 : Nat) : Int) ((x.getD (j) 0 : Nat) : Int) true (.tmp 245) (.tmp 248) (by kernel_rfl) (by kernel_rfl) (by kernel_rfl) h1n) hK0 ?_
                            refine take_at (i := 9) (d := some 250) (v := .bool true) (by kernel_rfl) (by kernel_rfl) (fun _ _ _ h => h) (fun w'' hS => by kernel_rfl) hK0 ?_
                            refine take_at (i := 10) (d := some 251) (v := .bool true) (by kernel_rfl) (by kernel_rfl) (fun _ _ _ h => h) (fun w'' hS => by kernel_rfl) hK0 ?_
                            refine take_at (i := 11) (d := some 252) (v := .int .i64 (i : Int)) (by kernel_rfl) (by kernel_rfl) (fun _ _ _ h => h) (fun w'' hS => by kernel_rfl) hK0 ?_
                            refine take_at (i := 12) (d := some 253) (v := .int .i64 ((3 + i : Nat) : Int)) (by kernel_rfl) (by kernel_rfl) (fun _ _ _ h => h) (fun w'' hS => exec_add 3 ((i : Nat) : Int) _ (.const (.int .i64 3)) (.tmp 252) (by kernel_rfl) (by kernel_rfl) (by kernel_rfl) (by omega) (by omega)) hK0 ?_
                            refine take_at (i := 13) (d := some 254) (v := .pointer (some ⟨w5.heap.size, 0 + (3 + i), none⟩)) (by kernel_rfl) (by kernel_rfl) (fun _ _ _ h => h) (fun w'' hS => exec_arr (i := (3 + i)) (n := 6) 64 3 (.tmp 26) (.tmp 253) (by kernel_rfl) (by kernel_rfl) (by kernel_rfl) (by omega) (by kernel_rfl) (by kernel_rfl)) hK0 ?_
                            refine take_at (i := 14) (d := some 255) (v := .int .i64 ((x.getD (3 + i) 0 : Nat) : Int)) (by kernel_rfl) (by kernel_rfl) (fun _ _ _ h => h) (fun w'' hS => exec_load 3 (.tmp 254) (by kernel_rfl) (by kernel_rfl) (by kernel_rfl) ((hS.cell c7l (fun x => x)).trans (hcz (3 + i) (by omega)))) hK0 ?_
                            refine take_at (i := 15) (d := some 256) (v := .int .i64 (j : Int)) (by kernel_rfl) (by kernel_rfl) (fun _ _ _ h => h) (fun w'' hS => by kernel_rfl) hK0 ?_
                            refine take_at (i := 16) (d := some 257) (v := .int .i64 ((3 + j : Nat) : Int)) (by kernel_rfl) (by kernel_rfl) (fun _ _ _ h => h) (fun w'' hS => exec_add 3 ((j : Nat) : Int) _ (.const (.int .i64 3)) (.tmp 256) (by kernel_rfl) (by kernel_rfl) (by kernel_rfl) (by omega) (by omega)) hK0 ?_
                            refine take_at (i := 17) (d := some 258) (v := .pointer (some ⟨w5.heap.size, 0 + (3 + j), none⟩)) (by kernel_rfl) (by kernel_rfl) (fun _ _ _ h => h) (fun w'' hS => exec_arr (i := (3 + j)) (n := 6) 64 3 (.tmp 26) (.tmp 257) (by kernel_rfl) (by kernel_rfl) (by kernel_rfl) (by omega) (by kernel_rfl) (by kernel_rfl)) hK0 ?_
                            refine take_at (i := 18) (d := some 259) (v := .int .i64 ((x.getD (3 + j) 0 : Nat) : Int)) (by kernel_rfl) (by kernel_rfl) (fun _ _ _ h => h) (fun w'' hS => exec_load 3 (.tmp 258) (by kernel_rfl) (by kernel_rfl) (by kernel_rfl) ((hS.cell c7l (fun x => x)).trans (hcz (3 + j) (by omega)))) hK0 ?_
                            refine take_at (i := 19) (d := some 260) (v := .bool true) (by kernel_rfl) (by kernel_rfl) (fun _ _ _ h => h) (fun w'' hS => exec_neI ((x.getD (3 + i) 0 : Nat) : Int) ((x.getD (3 + j) 0 : Nat) : Int) true (.tmp 255) (.tmp 259) (by kernel_rfl) (by kernel_rfl) (by kernel_rfl) h2n) hK0 ?_
                            refine take_at (i := 20) (d := some 261) (v := .bool true) (by kernel_rfl) (by kernel_rfl) (fun _ _ _ h => h) (fun w'' hS => by kernel_rfl) hK0 ?_
                            refine take_at (i := 21) (d := some 262) (v := .bool true) (by kernel_rfl) (by kernel_rfl) (fun _ _ _ h => h) (fun w'' hS => by kernel_rfl) hK0 ?_
                            refine take_at (i := 22) (d := some 263) (v := .int .i64 (i : Int)) (by kernel_rfl) (by kernel_rfl) (fun _ _ _ h => h) (fun w'' hS => by kernel_rfl) hK0 ?_
                            refine take_at (i := 23) (d := some 264) (v := .pointer (some ⟨w5.heap.size, 0 + i, none⟩)) (by kernel_rfl) (by kernel_rfl) (fun _ _ _ h => h) (fun w'' hS => exec_arr (i := i) (n := 6) 64 3 (.tmp 26) (.tmp 263) (by kernel_rfl) (by kernel_rfl) (by kernel_rfl) (by omega) (by kernel_rfl) (by kernel_rfl)) hK0 ?_
                            refine take_at (i := 24) (d := some 265) (v := .int .i64 ((x.getD (i) 0 : Nat) : Int)) (by kernel_rfl) (by kernel_rfl) (fun _ _ _ h => h) (fun w'' hS => exec_load 3 (.tmp 264) (by kernel_rfl) (by kernel_rfl) (by kernel_rfl) ((hS.cell c7l (fun x => x)).trans (hcz (i) (by omega)))) hK0 ?_
                            refine take_at (i := 25) (d := some 266) (v := .int .i64 (i : Int)) (by kernel_rfl) (by kernel_rfl) (fun _ _ _ h => h) (fun w'' hS => by kernel_rfl) hK0 ?_
                            refine take_at (i := 26) (d := some 267) (v := .int .i64 ((3 + i : Nat) : Int)) (by kernel_rfl) (by kernel_rfl) (fun _ _ _ h => h) (fun w'' hS => exec_add 3 ((i : Nat) : Int) _ (.const (.int .i64 3)) (.tmp 266) (by kernel_rfl) (by kernel_rfl) (by kernel_rfl) (by omega) (by omega)) hK0 ?_
                            refine take_at (i := 27) (d := some 268) (v := .pointer (some ⟨w5.heap.size, 0 + (3 + i), none⟩)) (by kernel_rfl) (by kernel_rfl) (fun _ _ _ h => h) (fun w'' hS => exec_arr (i := (3 + i)) (n := 6) 64 3 (.tmp 26) (.tmp 267) (by kernel_rfl) (by kernel_rfl) (by kernel_rfl) (by omega) (by kernel_rfl) (by kernel_rfl)) hK0 ?_
                            refine take_at (i := 28) (d := some 269) (v := .int .i64 ((x.getD (3 + i) 0 : Nat) : Int)) (by kernel_rfl) (by kernel_rfl) (fun _ _ _ h => h) (fun w'' hS => exec_load 3 (.tmp 268) (by kernel_rfl) (by kernel_rfl) (by kernel_rfl) ((hS.cell c7l (fun x => x)).trans (hcz (3 + i) (by omega)))) hK0 ?_
                            refine take_at (i := 29) (d := some 270) (v := .bool n3) (by kernel_rfl) (by kernel_rfl) (fun _ _ _ h => h) (fun w'' hS => exec_neI ((x.getD (i) 0 : Nat) : Int) ((x.getD (3 + i) 0 : Nat) : Int) n3 (.tmp 265) (.tmp 269) (by kernel_rfl) (by kernel_rfl) (by kernel_rfl) h3n) hK0 ?_
                            refine take_at (i := 30) (d := some 271) (v := .bool n3) (by kernel_rfl) (by kernel_rfl) (fun _ _ _ h => h) (fun w'' hS => by kernel_rfl) hK0 ?_
                            refine value_at (i := 31) (d := some 29) (v := .bool n3) (w' := w8.drew) (by kernel_rfl) (by kernel_rfl) (by kernel_rfl) hK0 ?_
                            refine wpAnyH_done (by kernel_rfl) ?_ _
                            simp only [Act.put, List.setIfInBounds_toArray, List.set_cons_zero, List.set_cons_succ]
                            go_wp2_with fail
                            exact ⟨⟨i + 1, by omega, by simp, by rw [Hs.out]; cases n3 <;> rfl, HN8.out.drew⟩, by simp [intOf]; omega⟩
                    · obtain rfl : i = 3 := by omega
                      have hdj3 : ¬ (((3 : Nat) : Int) < 3) := by omega
                      clear Hs
                      have Hfb' : Hid (okQs x 3 = fb) := Hfb
                      rw [Hfb'.out] at Hsucc
                      clear Hfb Hfb'
                      go_wp2_with fail
                      have HW7 := hd (HW.out.nw HN7.out)
                      have cW : w7.cell? ⟨w3.heap.size, 0, none⟩ = some (.slice lo want.length lcap) := HW7.out.blk.cell 0
                      have cWl := HW7.out.blk.lt
                      go_loopw [29, 32] (fun f i w9 => ∃ q : Nat, q ≤ want.length ∧ i = .int .i64 (q : Int) ∧ f = .bool (fb && wantB (want.take q) x) ∧ Hid (Nw w7 w9)) (fun _ i _ => want.length - (intOf i).toNat)
                      case atStart => exact ⟨0, by omega, rfl, by rw [List.take_zero]; show _ = Value.bool (fb && true); rw [Bool.and_true], HN8⟩
                      case round =>
                        rename World => w9
                        obtain ⟨q, hq, rfl, rfl, HN9⟩ := hrel
                        clear HN8
                        have cW9 : w9.cell? ⟨w3.heap.size, 0, none⟩ = some (.slice lo want.length lcap) := (HN9.out.cell cWl (fun x => x)).trans cW
                        have cWl9 : w3.heap.size < w9.heap.size := Nat.lt_of_lt_of_le cWl HN9.out.size
                        by_cases hlq : q < want.length
                        · have hdq : (q : Int) < (want.length : Int) := by omega
                          obtain ⟨wg, wcap, hwe, hwgl, hw0, hw1⟩ := HW7.out.cell q hlq
                          simp only [Value.slice.injEq] at hwe
                          obtain ⟨rfl, _, rfl⟩ := hwe
                          have Hws := hd (wantB_succ want x q hlq)
                          have hpm : want.getD q (0, 0) ∈ want := by
                            rw [show want.getD q (0, 0) = want[q] by simp [List.getD, hlq]]
                            exact List.getElem_mem hlq
                          have hp6 := (HW7.out.ok _ hpm).1
                          obtain ⟨⟨p1, p2⟩, hpv⟩ : ∃ p, want.getD q (0, 0) = p := ⟨_, rfl⟩
                          rw [hpv] at hw0 hw1 hp6 Hws
                          dsimp only at hw0 hw1 hp6 Hws
                          have hxp : w7.cell? ⟨w5.heap.size, 0 + p1, none⟩ = some (.int .i64 ((x.getD p1 0 : Nat) : Int)) := by rw [Nat.zero_add]; exact Hcx.out p1 hp6
                          rw [← Nat.zero_add (q * 2)] at hw0 hw1
                          have hebx : (((x.getD p1 0 : Nat) : Int) == (p2 : Int)) = (x.getD p1 0 == p2) := by
                            by_cases h : x.getD p1 0 = p2
                            · rw [h]
                              simp
                            · have h1 : (((x.getD p1 0 : Nat) : Int) == (p2 : Int)) = false := by rw [beq_eq_false_iff_ne]; omega
                              have h2 : (x.getD p1 0 == p2) = false := by rw [beq_eq_false_iff_ne]; exact h
                              rw [h1, h2]
                          obtain ⟨eb, heb'⟩ : ∃ eb, (x.getD p1 0 == p2) = eb := ⟨_, rfl⟩
                          have heb := hebx.trans heb'
                          rw [heb'] at Hws
                          obtain ⟨gb, hgb⟩ : ∃ gb, (fb && wantB (want.take q) x) = gb := ⟨_, rfl⟩
                          have Hgb := hd hgb
                          have Hnext : Hid ((fb && wantB (want.take (q + 1)) x) = (gb && eb)) := hd (by rw [Hws.out, ← Bool.and_assoc, hgb])
                          rw [hgb]
                          have Heb := hd heb
                          have Hhw0 := hd hw0
                          have Hhw1 := hd hw1
                          have Hhxp := hd hxp
                          clear hpv hpm hebx heb' hgb heb hw0 hw1 hxp Hws
                          go_wp2_with fail
                          have heb := Heb.out
                          have hw0 := Hhw0.out
                          have hw1 := Hhw1.out
                          have hxp := Hhxp.out
                          cases gb with
                          | false =>
                            have hK0 : Nw w7 w9.drew := HN9.out.drew
                            refine region_H sqR68 17 (fun w'' => Nw w7 w'') (by kernel_rfl) (by kernel_rfl) (by kernel_rfl) ?_
                            refine take_at (i := 0) (d := some 278) (v := .bool false) (by kernel_rfl) (by kernel_rfl) (fun _ _ _ h => h) (fun w'' hS => by kernel_rfl) hK0 ?_
                            refine take_at (i := 1) (d := some 279) (v := .bool false) (by kernel_rfl) (by kernel_rfl) (fun _ _ _ h => h) (fun w'' hS => by kernel_rfl) hK0 ?_
                            refine pass_at (i := 2) (d := some 280) (by kernel_rfl) (by kernel_rfl) (fun _ _ _ h => h) hK0 ?_
                            refine pass_at (i := 3) (d := some 281) (by kernel_rfl) (by kernel_rfl) (fun _ _ _ h => h) hK0 ?_
                            refine pass_at (i := 4) (d := some 282) (by kernel_rfl) (by kernel_rfl) (fun _ _ _ h => h) hK0 ?_
                            refine pass_at (i := 5) (d := some 283) (by kernel_rfl) (by kernel_rfl) (fun _ _ _ h => h) hK0 ?_
                            refine pass_at (i := 6) (d := some 284) (by kernel_rfl) (by kernel_rfl) (fun _ _ _ h => h) hK0 ?_
                            refine pass_at (i := 7) (d := some 285) (by kernel_rfl) (by kernel_rfl) (fun _ _ _ h => h) hK0 ?_
                            refine pass_at (i := 8) (d := some 286) (by kernel_rfl) (by kernel_rfl) (fun _ _ _ h => h) hK0 ?_
                            refine pass_at (i := 9) (d := some 287) (by kernel_rfl) (by kernel_rfl) (fun _ _ _ h => h) hK0 ?_
                            refine pass_at (i := 10) (d := some 288) (by kernel_rfl) (by kernel_rfl) (fun _ _ _ h => h) hK0 ?_
                            refine pass_at (i := 11) (d := some 289) (by kernel_rfl) (by kernel_rfl) (fun _ _ _ h => h) hK0 ?_
                            refine pass_at (i := 12) (d := some 290) (by kernel_rfl) (by kernel_rfl) (fun _ _ _ h => h) hK0 ?_
                            refine pass_at (i := 13) (d := some 291) (by kernel_rfl) (by kernel_rfl) (fun _ _ _ h => h) hK0 ?_
                            refine pass_at (i := 14) (d := some 292) (by kernel_rfl) (by kernel_rfl) (fun _ _ _ h => h) hK0 ?_
                            refine take_at (i := 15) (d := some 293) (v := .bool false) (by kernel_rfl) (by kernel_rfl) (fun _ _ _ h => h) (fun w'' hS => by kernel_rfl) hK0 ?_
                            refine value_at (i := 16) (d := some 29) (v := .bool false) (w' := w9.drew) (by kernel_rfl) (by kernel_rfl) (by kernel_rfl) hK0 ?_
                            refine wpAnyH_done (by kernel_rfl) ?_ _
                            simp only [Act.put, List.setIfInBounds_toArray, List.set_cons_zero, List.set_cons_succ]
                            go_wp2_with fail
                            exact ⟨⟨q + 1, by omega, by simp, by rw [Hnext.out, Bool.false_and], HN9.out.drew⟩, by simp [intOf]; omega⟩
                          | true =>
                            have hK0 : Nw w7 w9.drew := HN9.out.drew
                            refine region_H sqR68 17 (fun w'' => Nw w7 w'') (by kernel_rfl) (by kernel_rfl) (by kernel_rfl) ?_
                            refine take_at (i := 0) (d := some 278) (v := .bool true) (by kernel_rfl) (by kernel_rfl) (fun _ _ _ h => h) (fun w'' hS => by kernel_rfl) hK0 ?_
                            refine take_at (i := 1) (d := some 279) (v := .bool true) (by kernel_rfl) (by kernel_rfl) (fun _ _ _ h => h) (fun w'' hS => by kernel_rfl) hK0 ?_
                            refine take_at (i := 2) (d := some 280) (v := .slice (some ⟨wg, 0, none⟩) want.length lcap) (by kernel_rfl) (by kernel_rfl) (fun _ _ _ h => h) (fun w'' hS => exec_load 62 (.tmp 13) (by kernel_rfl) (by kernel_rfl) (by kernel_rfl) ((hS.cell cWl (fun x => x)).trans cW)) hK0 ?_
                            refine take_at (i := 3) (d := some 281) (v := .int .i64 (q : Int)) (by kernel_rfl) (by kernel_rfl) (fun _ _ _ h => h) (fun w'' hS => by kernel_rfl) hK0 ?_
                            refine take_at (i := 4) (d := some 282) (v := .pointer (some ⟨wg, 0 + q * 2, none⟩)) (by kernel_rfl) (by kernel_rfl) (fun _ _ _ h => h) (fun w'' hS => exec_index2 (i := q) (n := want.length) (cap := lcap) 62 63 (.tmp 280) (.tmp 281) (by kernel_rfl) (by kernel_rfl) (by kernel_rfl) hlq (by kernel_rfl) (by kernel_rfl)) hK0 ?_
                            refine take_at (i := 5) (d := some 283) (v := .pointer (some ⟨wg, 0 + q * 2 + 0, none⟩)) (by kernel_rfl) (by kernel_rfl) (fun _ _ _ h => h) (fun w'' hS => exec_arr (i := 0) (n := 2) 63 3 (.tmp 282) (.const (.int .i64 0)) (by kernel_rfl) (by kernel_rfl) (by kernel_rfl) (by decide) (by kernel_rfl) (by kernel_rfl)) hK0 ?_
                            refine take_at (i := 6) (d := some 284) (v := .int .i64 (p1 : Int)) (by kernel_rfl) (by kernel_rfl) (fun _ _ _ h => h) (fun w'' hS => exec_load 3 (.tmp 283) (by kernel_rfl) (by kernel_rfl) (by kernel_rfl) ((hS.cell hwgl (fun x => x)).trans hw0)) hK0 ?_
                            refine take_at (i := 7) (d := some 285) (v := .pointer (some ⟨w5.heap.size, 0 + p1, none⟩)) (by kernel_rfl) (by kernel_rfl) (fun _ _ _ h => h) (fun w'' hS => exec_arr (i := p1) (n := 6) 64 3 (.tmp 26) (.tmp 284) (by kernel_rfl) (by kernel_rfl) (by kernel_rfl) hp6 (by kernel_rfl) (by kernel_rfl)) hK0 ?_
                            refine take_at (i := 8) (d := some 286) (v := .int .i64 ((x.getD p1 0 : Nat) : Int)) (by kernel_rfl) (by kernel_rfl) (fun _ _ _ h => h) (fun w'' hS => exec_load 3 (.tmp 285) (by kernel_rfl) (by kernel_rfl) (by kernel_rfl) ((hS.cell c7l (fun x => x)).trans hxp)) hK0 ?_
                            refine take_at (i := 9) (d := some 287) (v := .slice (some ⟨wg, 0, none⟩) want.length lcap) (by kernel_rfl) (by kernel_rfl) (fun _ _ _ h => h) (fun w'' hS => exec_load 62 (.tmp 13) (by kernel_rfl) (by kernel_rfl) (by kernel_rfl) ((hS.cell cWl (fun x => x)).trans cW)) hK0 ?_
                            refine take_at (i := 10) (d := some 288) (v := .int .i64 (q : Int)) (by kernel_rfl) (by kernel_rfl) (fun _ _ _ h => h) (fun w'' hS => by kernel_rfl) hK0 ?_
                            refine take_at (i := 11) (d := some 289) (v := .pointer (some ⟨wg, 0 + q * 2, none⟩)) (by kernel_rfl) (by kernel_rfl) (fun _ _ _ h => h) (fun w'' hS => exec_index2 (i := q) (n := want.length) (cap := lcap) 62 63 (.tmp 287) (.tmp 288) (by kernel_rfl) (by kernel_rfl) (by kernel_rfl) hlq (by kernel_rfl) (by kernel_rfl)) hK0 ?_
                            refine take_at (i := 12) (d := some 290) (v := .pointer (some ⟨wg, 0 + q * 2 + 1, none⟩)) (by kernel_rfl) (by kernel_rfl) (fun _ _ _ h => h) (fun w'' hS => exec_arr (i := 1) (n := 2) 63 3 (.tmp 289) (.const (.int .i64 1)) (by kernel_rfl) (by kernel_rfl) (by kernel_rfl) (by decide) (by kernel_rfl) (by kernel_rfl)) hK0 ?_
                            refine take_at (i := 13) (d := some 291) (v := .int .i64 (p2 : Int)) (by kernel_rfl) (by kernel_rfl) (fun _ _ _ h => h) (fun w'' hS => exec_load 3 (.tmp 290) (by kernel_rfl) (by kernel_rfl) (by kernel_rfl) ((hS.cell hwgl (fun x => x)).trans hw1)) hK0 ?_
                            refine take_at (i := 14) (d := some 292) (v := .bool eb) (by kernel_rfl) (by kernel_rfl) (fun _ _ _ h => h) (fun w'' hS => exec_eqI ((x.getD p1 0 : Nat) : Int) (p2 : Int) eb (.tmp 286) (.tmp 291) (by kernel_rfl) (by kernel_rfl) (by kernel_rfl) heb) hK0 ?_
                            refine take_at (i := 15) (d := some 293) (v := .bool eb) (by kernel_rfl) (by kernel_rfl) (fun _ _ _ h => h) (fun w'' hS => by kernel_rfl) hK0 ?_
                            refine value_at (i := 16) (d := some 29) (v := .bool eb) (w' := w9.drew) (by kernel_rfl) (by kernel_rfl) (by kernel_rfl) hK0 ?_
                            refine wpAnyH_done (by kernel_rfl) ?_ _
                            simp only [Act.put, List.setIfInBounds_toArray, List.set_cons_zero, List.set_cons_succ]
                            go_wp2_with fail
                            exact ⟨⟨q + 1, by omega, by simp, by rw [Hnext.out, Bool.true_and], HN9.out.drew⟩, by simp [intOf]; omega⟩
                        · obtain rfl : want.length = q := by omega
                          have hdq : ¬ ((want.length : Int) < (want.length : Int)) := by omega
                          rw [List.take_length] 
                          have HN10 := hd (HN7.out.trans HN9.out (fun _ x => x.elim))
                          obtain ⟨gb, hgb⟩ : ∃ gb, (fb && wantB want x) = gb := ⟨_, rfl⟩
                          rw [hgb] at Hsucc ⊢
                          clear hgb
                          have htI : ((triedTo want k : Nat) : Int) + 1 < 9223372036854775808 := by omega
                          cases gb with
                          | true =>
                            go_wp2_with fail
                            exact ⟨⟨k + 1, by omega, by simp, by rw [Hsucc.out]; rfl, HN10⟩, by simp [intOf]; omega⟩
                          | false =>
                            go_wp2_with fail
                            exact ⟨⟨k + 1, by omega, by simp, by rw [Hsucc.out]; rfl, HN10⟩, by simp [intOf]; omega⟩
            · obtain rfl : k = 729 := by omega
              have hdk : ¬ (((729 : Nat) : Int) < 729) := by omega
              have HR5 := hd (HR.out.nw HN5.out)
              have H15 := hd (H1.out.nw HN5.out)
              have c1 := H15.out.cell 0
              have c1l := H15.out.lt
              have cR := HR5.out.cell 0
              have cRf := HR5.out.free 0
              have cRl := HR5.out.lt
              rw [← Htri.out]
              go_wp2_with fail
              have hf12 : Fr (fun k => k = w.heap.size) w5 (w5.setCell ⟨w.heap.size, 0, none⟩ (.bool true)) := (Fr.refl _ w5).setCell _ _ (.inl rfl)
              have h6 := hs6
              have h4 := HI1.out.nw.size
              have hKl := lt_of_block HK.out
              refine MarkEnd.mk rfl ((HR5.out.set 0 (.bool true)).cell 0) ⟨D, rfl, ?_, by omega⟩ ((HN.out.trans HN5.out (fun _ x => x.elim)).trans hf12 (fun i h => .inr (by omega)))
              exact (hf12.block D (Nat.lt_of_lt_of_le hKl HN5.out.size) (by omega)).trans ((HN5.out.block D hKl (fun x => x)).trans HK.out)
end Go.Proofs.Ytkjfpdfkcfgfkaa
