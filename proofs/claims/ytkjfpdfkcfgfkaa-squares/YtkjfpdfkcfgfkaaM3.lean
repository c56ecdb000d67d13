/- Parts of the proof, number 3: contracts of the functions that the statement calls. -/
import Derived.Test.YtkjfpdfkcfgfkaaM2
import Derived.Test.YtkjfpdfkcfgfkaaM0
import Derived.Test.YtkjfpdfkcfgfkaaM1
import Derived.Deep.DeepCutAuto

/- Tables of every kind: what each is in memory, what its methods do. -/
namespace Go.Proofs.Ytkjfpdfkcfgfkaa
open Go.RowKit

/-- What is left of a table. -/
inductive TS where
  | rs (nt : Bool) (br : List Nat) (live : Nat)
  | dg (nv : Value) (os : List (List Nat)) (root : Nat)
/-- A table in memory: the block of its struct G, of its variables g. -/
def TAt (w : World) (G g cap : Nat) (vars : List Int) : TS → Prop
  | .rs nt br live => Blk w G (rsCells (.slice (some ⟨g, 0, none⟩) vars.length cap) nt br live) 142 ∧ Row w (.slice (some ⟨g, 0, none⟩) vars.length cap) 3 (vars.map (Value.int .i64)) ∧
      br.length = 24 ∧ (∀ j, br.getD j 0 < 18446744073709551616) ∧ live < 18446744073709551616 ∧ vars.length ≤ cap
  | .dg nv os root => DAt w G g cap nv vars os root ∧ os.length ≤ 100000 ∧ levOk os vars.length root ∧ NZ os
/-- The block of a diagram's nodes. -/
def TS.nodes : TS → Nat → Prop
  | .rs .. => fun _ => False
  | .dg nv _ _ => fun k => nv.ownBlock = some k
def TS.ty : TS → TypeId
  | .rs .. => 115
  | .dg .. => 113
def TS.fnNarrow : TS → FuncId
  | .rs .. => 113
  | .dg .. => 107
def TS.fnState : TS → FuncId
  | .rs .. => 114
  | .dg .. => 108
def TS.state : TS → Array Value
  | .rs _ _ live => #[.int .u64 (live : Int), .slice none 0 0, .int .i64 0]
  | .dg nv _ root => #[.int .u64 0, nv, .int .i64 (root : Int)]
/-- What Narrow makes of domains, and what is left. -/
def tDom (vars : List Int) (dn : List Nat) : TS → List Nat
  | .rs false br live => nDom br live vars dn
  | .rs true br live => nDomN br live vars dn
  | .dg _ os root => dDom os root vars dn
/-- What is left behind Narrow, but for where a diagram's nodes lie. -/
def TS.Next (vars : List Int) (dn : List Nat) : TS → TS → Prop
  | .rs nt br live, t' => t' = .rs nt br (nLive br live vars dn)
  | .dg _ os root, t' => ∃ nv', t' = .dg nv' (dCut os root vars dn).1.ns (dCut os root vars dn).2

theorem TAt.fr {S : Nat → Prop} {w w' : World} {G g cap : Nat} {vars : List Int} {t : TS} (h : TAt w G g cap vars t) (f : Fr S w w') (hn : ∀ k, (k = G ∨ k = g ∨ t.nodes k) → ¬ S k) : TAt w' G g cap vars t := by
  cases t with
  | rs nt br live => exact ⟨h.1.fr f (hn _ (.inl rfl)), h.2.1.fr f (fun k hk => hn k (.inr (.inl (by cases hk; rfl)))), h.2.2⟩
  | dg nv os root => exact ⟨h.1.fr f hn, h.2⟩
theorem TAt.nw {w w' : World} {G g cap : Nat} {vars : List Int} {t : TS} (h : TAt w G g cap vars t) (f : Nw w w') : TAt w' G g cap vars t := h.fr f (fun _ _ x => x)
theorem TAt.lt {w : World} {G g cap : Nat} {vars : List Int} {t : TS} (h : TAt w G g cap vars t) {k : Nat} (hk : k = G ∨ k = g ∨ t.nodes k) : k < w.heap.size := by
  cases t with
  | rs nt br live =>
    rcases hk with rfl | rfl | hk
    · exact h.1.lt
    · exact h.2.1.lt rfl
    · exact hk.elim
  | dg nv os root => exact h.1.lt hk
theorem TS.meth_state (t : TS) (G : Nat) (W : World) : (method 286 t.ty (.pointer (some ⟨G, 0, none⟩)) "State").run Try.prog W = .ok (t.fnState, .pointer (some ⟨G, 0, none⟩)) W := by
  cases t with
  | rs nt br live =>
    simp only [TS.ty, TS.fnState]
    kernel_rfl
  | dg nv os root =>
    simp only [TS.ty, TS.fnState]
    exact meth_dstate G W
theorem TS.meth_narrow (t : TS) (G : Nat) (W : World) : (method 286 t.ty (.pointer (some ⟨G, 0, none⟩)) "Narrow").run Try.prog W = .ok (t.fnNarrow, .pointer (some ⟨G, 0, none⟩)) W := by
  cases t with
  | rs nt br live =>
    simp only [TS.ty, TS.fnNarrow]
    exact Go.Proofs.Ytkjfpdfkcfgfkaa.meth_narrow G W
  | dg nv os root =>
    simp only [TS.ty, TS.fnNarrow]
    exact meth_dnarrow G W
set_option maxHeartbeats 400000 in
theorem stateRs_any (G : Nat) (vv : Value) (nt : Bool) (br : List Nat) (live : Nat) (w : World) (hG : Blk w G (rsCells vv nt br live) 142) (h24 : br.length = 24) :
    Calls Try.prog 114 #[.pointer (some ⟨G, 0, none⟩)] w fun e w' => e = .returned (.agg #[.int .u64 live, .slice none 0 0, .int .i64 0]) ∧ Nw w w' := by
  have h1 : w.cell? ⟨G, 26, none⟩ = some (.int .u64 (live : Int)) := (hG.cell 26).trans (by simp [rsCells, h24])
  have hGlt := hG.lt
  clear hG
  go_enter Try.func114, Try.ntmps114
  go_wp2
  refine bodyPost_ret (v := .agg #[.int .u64 live, .slice none 0 0, .int .i64 0]) ?_ rfl ⟨rfl, (Fr.refl _ w).alloc _⟩
  simp [results, Try.results114, go_sem]

/-- State of a table of any kind. -/
theorem stateT_any (G g cap : Nat) (vars : List Int) (t : TS) (w : World) (h : TAt w G g cap vars t) : Calls Try.prog t.fnState #[.pointer (some ⟨G, 0, none⟩)] w fun e w' => e = .returned (.agg t.state) ∧ Nw w w' := by
  cases t with
  | rs nt br live => exact stateRs_any G _ nt br live w h.1 h.2.2.1
  | dg nv os root => exact dState_any G g cap nv vars os root w h.1

theorem s0_lev (os : List (List Nat)) : CLev os s0 := ⟨by decide, fun k h2 hk => absurd hk (by show ¬ k < 2; omega), fun k x h => by cases h⟩
/-- What dCut leaves is a diagram again. -/
theorem dCut_lev (os : List (List Nat)) (root : Nat) (vars : List Int) (dn : List Nat) (hz : NZ os) (hd : ∀ q, dn.getD q 0 < 64) (h4 : vars.length ≤ 4) (hl : levOk os vars.length root) :
    (dCut os root vars dn).1.ns.length ≤ 100000 ∧ levOk (dCut os root vars dn).1.ns vars.length (dCut os root vars dn).2 ∧ NZ (dCut os root vars dn).1.ns := by
  have h1 := cutTo_lev os hz vars dn hd vars.length 0 root s0 hl (s0_lev os)
  have h2 := cutTo_ok os vars dn hd vars.length 0 root s0 2 (by omega) hl ⟨by decide, by decide, by decide, rfl, zero8_lt, fun k x h => by cases h⟩
  have hc : cnt vars.length ≤ 259 := by
    have : ∀ n : Fin 5, cnt n.val ≤ 259 := by decide
    exact this ⟨vars.length, by omega⟩
  refine ⟨?_, h1.2.2, h1.2.1.nz⟩
  have := h2.1.ns
  show (cutTo os vars dn vars.length 0 root s0).1.ns.length ≤ 100000
  omega
/-- Narrow of a table of any kind. -/
theorem narrowT_any (G g cap : Nat) (vars : List Int) (t : TS) (dn : List Nat) (w : World) (h : TAt w G g cap vars t) (h8 : dn.length = 8) (h4 : vars.length ≤ 4) (hv : ∀ i, i < vars.length → 0 ≤ vars.getD i 0 ∧ vars.getD i 0 < 8) (hd64 : ∀ q, dn.getD q 0 < 64) :
    Calls Try.prog t.fnNarrow #[.pointer (some ⟨G, 0, none⟩), .agg (domV dn)] w fun e w' => e = .returned (.agg (domV (tDom vars dn t))) ∧ Fr (fun k => k = G) w w' ∧
      ∃ t', TS.Next vars dn t t' ∧ TAt w' G g cap vars t' ∧ ∀ k, t'.nodes k → w.heap.size ≤ k := by
  cases t with
  | rs nt br live =>
    obtain ⟨hb, hr, h24, hbr, hlive, hcap⟩ := h
    have hgG : g ≠ G := fun e => by subst e; exact hr.ne hb (by decide) rfl
    have fin : ∀ (w' : World), Fr (fun k => k = G) w w' → Blk w' G (rsCells (.slice (some ⟨g, 0, none⟩) vars.length cap) nt br (nLive br live vars dn)) 142 →
        ∃ t', TS.Next vars dn (.rs nt br live) t' ∧ TAt w' G g cap vars t' ∧ ∀ k, t'.nodes k → w.heap.size ≤ k := fun w' f b =>
      ⟨_, rfl, ⟨b, hr.fr f (fun k hk => by cases hk; exact hgG), h24, hbr, dropTo_lt br vars dn live hlive _, hcap⟩, fun k hk => hk.elim⟩
    cases nt with
    | false => exact (narrow_any G g cap br live vars dn w hb hr h8 h24 hbr hlive h4 hv hd64).mono fun e w' ⟨h1, h2, h3⟩ => ⟨h1, h2, fin w' h2 h3⟩
    | true => exact (narrowN_any G g cap br live vars dn w hb hr h8 h24 hbr hlive h4 hcap hv hd64).mono fun e w' ⟨h1, h2, h3⟩ => ⟨h1, h2, fin w' h2 h3⟩
  | dg nv os root =>
    obtain ⟨hD, hol, hlev, hz⟩ := h
    exact (dNarrow_any G g cap nv vars os root dn w hD h8 h4 hv hd64 hol hlev).mono fun e w' ⟨h1, h2, nv', h3, h4'⟩ => ⟨h1, h2, _, ⟨nv', rfl⟩, ⟨h3, dCut_lev os root vars dn hz hd64 h4 hlev⟩, h4'⟩

theorem Row.cap {w : World} {g n cap : Nat} {e : TypeId} {xs : List Value} (h : Row w (.slice (some ⟨g, 0, none⟩) n cap) e xs) : n ≤ cap := by
  rcases h.2 with ⟨h2, _⟩ | ⟨g', cap', cur, he, _, _, hc, _⟩
  · cases h2
  · cases he
    exact hc
/-- The table that Make makes of rows, but for where a diagram's nodes lie. -/
def TS.Made (vars : List Int) (rows : List (List Int)) (nt : Bool) (dn : List Nat) : Int → TS → Prop
  | 1, t => t = .rs nt (brTo rows rows.length) (2 ^ rows.length - 1)
  | _, t => ∃ nv, t = .dg nv (bldTo vars nt dn vars.length 0 rows [zero6, zero6]).1 (bldTo vars nt dn vars.length 0 rows [zero6, zero6]).2
/-- Make, of either way. -/
theorem makeT_any (vb vof : Nat) (ro : Option Addr) (vcap rcap : Nat) (vars : List Int) (rows : List (List Int)) (nt : Bool) (way : Int) (hway : way = 1 ∨ way = 2) (dn : List Nat) (w : World) (h8 : dn.length = 8) (hv0 : 0 < vars.length) (h4 : vars.length ≤ 4)
    (hv : ∀ i, i < vars.length → 0 ≤ vars.getD i 0 ∧ vars.getD i 0 < 8) (hd64 : ∀ q, dn.getD q 0 < 64) (hrl : rows.length ≤ 60) (hrow : ∀ j, j < rows.length → (rows.getD j []).length = vars.length)
    (hvs : IntsAt w (some ⟨vb, vof, none⟩) vars) (hrs : RowsAt w ro rows) :
    Calls Try.prog 52 #[.agg #[.slice (some ⟨vb, vof, none⟩) vars.length vcap, .slice ro rows.length rcap, .bool nt, .int .i64 way], .agg (domV dn)] w fun e w' =>
      ∃ G g cap t, e = .returned (.iface t.ty (.pointer (some ⟨G, 0, none⟩))) ∧ Nw w w' ∧ TS.Made vars rows nt dn way t ∧ TAt w' G g cap vars t ∧ (∀ k, (k = G ∨ k = g ∨ t.nodes k) → w.heap.size ≤ k) := by
  rcases hway with rfl | rfl
  · refine (make1_any vb vof ro vcap rcap vars rows nt (domV dn) w hv0 h4 hrl (fun i hi => by rw [hrow i hi]; exact h4) hvs hrs).mono ?_
    rintro e w' ⟨G, g, cap, rfl, hf, hb, hr, hG, hg⟩
    have hp : 2 ^ rows.length ≤ 2 ^ 60 := Nat.pow_le_pow_right (by omega) hrl
    refine ⟨G, g, cap, .rs nt (brTo rows rows.length) (2 ^ rows.length - 1), rfl, hf, rfl, ⟨hb, hr, brTo_length _ _, fun j => Nat.lt_of_lt_of_le (brTo_lt rows rows.length j) (by omega), by omega, hr.cap⟩, ?_⟩
    rintro k (rfl | rfl | hk)
    · exact hG
    · exact hg
    · exact hk.elim
  · refine (make2_any vb vof ro vcap rcap vars rows nt dn w h8 hv0 h4 hv hd64 hrl hrow hvs hrs).mono ?_
    rintro e w' ⟨G, g, cap, nv, rfl, hf, hD, hG, hg, hn⟩
    have hc : cnt vars.length ≤ 259 := by
      have : ∀ n : Fin 5, cnt n.val ≤ 259 := by decide
      exact this ⟨vars.length, by omega⟩
    have hl := bldTo_len vars nt dn hd64 vars.length 0 rows [zero6, zero6] (by decide)
    have hl2 : [zero6, zero6].length = 2 := rfl
    refine ⟨G, g, cap, .dg nv _ _, rfl, hf, ⟨nv, rfl⟩, ⟨hD, by omega, (bldTo_lev vars nt dn vars.length 0 rows [zero6, zero6] (by decide)).2, bldTo_nz vars nt dn vars.length 0 rows [zero6, zero6] (fun k h2 hk => absurd hk (by show ¬ k < 2; omega))⟩, ?_⟩
    rintro k (rfl | rfl | hk)
    · exact hG
    · exact hg
    · exact hn k hk
/-- What a table was: of the same kind, its nodes still there. -/
def TS.Was (w : World) (G : Nat) (vars : List Int) : TS → TS → Prop
  | .rs nt br _, .rs nt0 br0 live0 => nt0 = nt ∧ br0 = br ∧ live0 < 18446744073709551616
  | .dg _ _ _, .dg nv0 os0 root0 => w.ownsRow 0 154 6 nv0 os0.length (os0.flatMap nodeC) ∧ (∀ n ∈ os0, NodeOk n) ∧ 2 ≤ os0.length ∧ nv0.ownBlock ≠ some G ∧ os0.length ≤ 100000 ∧ levOk os0 vars.length root0 ∧ NZ os0
  | _, _ => False
end Go.Proofs.Ytkjfpdfkcfgfkaa

/- What Narrow leaves, in the document's words: tables of Way 1. -/
namespace Go.Proofs.Ytkjfpdfkcfgfkaa

/-- A list of values, one for each of a table's variables, out of the domains. -/
def OutOf (vars : List Int) (dn : List Nat) (l : List Nat) : Prop := l.length = vars.length ∧ ∀ i, i < vars.length → (dn.getD (vars.getD i 0).toNat 0).testBit (l.getD i 0) = true
/-- A row covers a list of values. -/
def Covers (row : List Int) (l : List Nat) : Prop := ∀ i, i < l.length → bearsB (row.getD i 0) (l.getD i 0) = true
/-- Rows allow a list of values. -/
def Allow (rows : List (List Int)) (nt : Bool) (l : List Nat) : Prop := if nt then ∀ j, j < rows.length → ¬ Covers (rows.getD j []) l else ∃ j, j < rows.length ∧ Covers (rows.getD j []) l
/-- Value v of entry i is supported. -/
def Supp (vars : List Int) (rows : List (List Int)) (nt : Bool) (dn : List Nat) (i v : Nat) : Prop := ∃ l, OutOf vars dn l ∧ l.getD i 0 = v ∧ Allow rows nt l

theorem vals_mem {s v : Nat} (hs : s < 64) : v ∈ vals s ↔ s.testBit v = true := by
  simp only [vals, List.mem_filter, List.mem_range]
  refine ⟨fun h => h.2, fun h => ⟨?_, h⟩⟩
  refine Classical.byContradiction fun hc => ?_
  have : s.testBit v = false := Nat.testBit_lt_two_pow (Nat.lt_of_lt_of_le hs (Nat.le_trans (show 64 ≤ 2 ^ 6 by decide) (Nat.pow_le_pow_right (by omega) (by omega))))
  rw [this] at h
  cases h
theorem brTo_bit (rows : List (List Int)) (i v : Nat) (hi : i < 4) (hv : v < 6) : ∀ k r, ((brTo rows k).getD (6 * i + v) 0).testBit r = true ↔ r < k ∧ i < (rows.getD r []).length ∧ bearsB ((rows.getD r []).getD i 0) v = true
  | 0, r => by
    have e : (brTo rows 0).getD (6 * i + v) 0 = 0 := by
      simp only [brTo, List.getD, List.getElem?_replicate]
      split <;> rfl
    rw [e]
    simp
  | k + 1, r => by
    have hj : 6 * i + v < (brTo rows k).length := by rw [brTo_length]; omega
    have ih := brTo_bit rows i v hi hv k r
    simp only [brTo]
    rw [addTo_get _ _ _ _ _ hj, show (6 * i + v) / 6 = i by omega, show (6 * i + v) % 6 = v by omega]
    have hd : decide (6 * i + v < 6 * (rows.getD k []).length) = decide (i < (rows.getD k []).length) := by
      apply decide_eq_decide.2
      omega
    rw [hd]
    by_cases hb : (decide (i < (rows.getD k []).length) && bearsB ((rows.getD k []).getD i 0) v) = true
    · rw [if_pos hb, Nat.testBit_or, Bool.or_eq_true, ih, Nat.testBit_two_pow]
      simp only [Bool.and_eq_true, decide_eq_true_eq] at hb ⊢
      constructor
      · rintro (⟨h1, h2⟩ | rfl)
        · exact ⟨by omega, h2⟩
        · exact ⟨by omega, hb⟩
      · rintro ⟨h1, h2⟩
        by_cases hr : k = r
        · exact .inr hr
        · exact .inl ⟨by omega, h2⟩
    · rw [if_neg hb, ih]
      simp only [Bool.and_eq_true, decide_eq_true_eq] at hb
      constructor
      · rintro ⟨h1, h2⟩
        exact ⟨by omega, h2⟩
      · rintro ⟨h1, h2⟩
        refine ⟨?_, h2⟩
        by_cases hr : k = r
        · subst hr
          exact absurd h2 hb
        · omega
theorem orBr_bit (br : List Nat) (i r : Nat) (vs : List Nat) : (orBr br i vs).testBit r = true ↔ ∃ v ∈ vs, (br.getD (6 * i + v) 0).testBit r = true := by
  suffices h : ∀ (vs : List Nat) (acc : Nat), (vs.foldl (fun acc v => acc ||| br.getD (6 * i + v) 0) acc).testBit r = true ↔ acc.testBit r = true ∨ ∃ v ∈ vs, (br.getD (6 * i + v) 0).testBit r = true by
    have := h vs 0
    simpa [orBr] using this
  intro vs
  induction vs with
  | nil => intro acc; simp
  | cons a l ih =>
    intro acc
    rw [List.foldl_cons, ih]
    simp only [Nat.testBit_or, Bool.or_eq_true, List.mem_cons]
    constructor
    · rintro ((h | h) | ⟨v, hv, h⟩)
      · exact .inl h
      · exact .inr ⟨a, .inl rfl, h⟩
      · exact .inr ⟨v, .inr hv, h⟩
    · rintro (h | ⟨v, rfl | hv, h⟩)
      · exact .inl (.inl h)
      · exact .inl (.inr h)
      · exact .inr ⟨v, hv, h⟩
theorem dropTo_bit (br : List Nat) (vars : List Int) (dn : List Nat) (live r : Nat) : ∀ k, (dropTo br vars dn live k).testBit r = true ↔ live.testBit r = true ∧ ∀ i, i < k → ∃ v ∈ vals (dn.getD (vars.getD i 0).toNat 0), (br.getD (6 * i + v) 0).testBit r = true
  | 0 => by simp [dropTo]
  | k + 1 => by
    simp only [dropTo, Nat.testBit_and, Bool.and_eq_true, dropTo_bit br vars dn live r k, orBr_bit]
    constructor
    · rintro ⟨⟨h1, h2⟩, h3⟩
      refine ⟨h1, fun i hi => ?_⟩
      by_cases hk : i = k
      · subst hk; exact h3
      · exact h2 i (by omega)
    · rintro ⟨h1, h2⟩
      exact ⟨⟨h1, fun i hi => h2 i (by omega)⟩, h2 k (by omega)⟩
theorem getD_set8 (l : List Nat) (q p x : Nat) (hq : q < l.length) : (l.set q x).getD p 0 = if q = p then x else l.getD p 0 := by
  simp only [List.getD, List.getElem?_set]
  split
  · simp
  · rfl
theorem replTo_get (vars : List Int) (d s : List Nat) (hv : ∀ i, i < vars.length → (vars.getD i 0).toNat < d.length) (q : Nat) : ∀ k, k ≤ vars.length → (replTo vars d s k).getD q 0 = if ∃ i, i < k ∧ (vars.getD i 0).toNat = q then s.getD q 0 else d.getD q 0
  | 0, _ => by simp [replTo]
  | k + 1, hk => by
    simp only [replTo]
    rw [getD_set8 _ _ _ _ (by rw [replTo_length]; exact hv k (by omega)), replTo_get vars d s hv q k (by omega)]
    by_cases h : (vars.getD k 0).toNat = q
    · rw [if_pos h, if_pos ⟨k, by omega, h⟩, h]
    · rw [if_neg h]
      by_cases h2 : ∃ i, i < k ∧ (vars.getD i 0).toNat = q
      · obtain ⟨i, hi, e⟩ := h2
        rw [if_pos ⟨i, hi, e⟩, if_pos ⟨i, by omega, e⟩]
      · rw [if_neg h2, if_neg]
        rintro ⟨i, hi, e⟩
        by_cases hk : i = k
        · subst hk; exact h e
        · exact h2 ⟨i, by omega, e⟩
theorem mkFold_bit (br : List Nat) (live k v : Nat) (vs : List Nat) : ∀ init, (mkFold br live k vs init).testBit v = true ↔ init.testBit v = true ∨ (v ∈ vs ∧ live &&& br.getD (6 * k + v) 0 ≠ 0) := by
  induction vs with
  | nil => intro init; simp [mkFold]
  | cons a l ih =>
    intro init
    have e : mkFold br live k (a :: l) init = mkFold br live k l (if live &&& br.getD (6 * k + a) 0 = 0 then init else init ||| 2 ^ a) := rfl
    rw [e, ih]
    by_cases h0 : live &&& br.getD (6 * k + a) 0 = 0
    · rw [if_pos h0]
      constructor
      · rintro (h | ⟨h1, h2⟩)
        · exact .inl h
        · exact .inr ⟨List.mem_cons_of_mem _ h1, h2⟩
      · rintro (h | ⟨h1, h2⟩)
        · exact .inl h
        · rcases List.mem_cons.1 h1 with rfl | h1
          · exact absurd h0 h2
          · exact .inr ⟨h1, h2⟩
    · rw [if_neg h0, Nat.testBit_or, Bool.or_eq_true, Nat.testBit_two_pow, decide_eq_true_eq]
      constructor
      · rintro ((h | rfl) | ⟨h1, h2⟩)
        · exact .inl h
        · exact .inr ⟨List.mem_cons_self .., h0⟩
        · exact .inr ⟨List.mem_cons_of_mem _ h1, h2⟩
      · rintro (h | ⟨h1, h2⟩)
        · exact .inl (.inl h)
        · rcases List.mem_cons.1 h1 with rfl | h1
          · exact .inl (.inr rfl)
          · exact .inr ⟨h1, h2⟩
theorem markTo_bit (br : List Nat) (live : Nat) (vars : List Int) (dn sp : List Nat) (hv : ∀ i, i < vars.length → (vars.getD i 0).toNat < sp.length) (q v : Nat) : ∀ k, k ≤ vars.length →
    (((markTo br live vars dn sp k).getD q 0).testBit v = true ↔ (sp.getD q 0).testBit v = true ∨ ∃ i, i < k ∧ (vars.getD i 0).toNat = q ∧ v ∈ vals (dn.getD q 0) ∧ live &&& br.getD (6 * i + v) 0 ≠ 0)
  | 0, _ => by simp [markTo]
  | k + 1, hk => by
    have ih := markTo_bit br live vars dn sp hv q v k (by omega)
    simp only [markTo]
    rw [getD_set8 _ _ _ _ (by rw [markTo_length]; exact hv k (by omega))]
    by_cases h : (vars.getD k 0).toNat = q
    · rw [if_pos h, h, mkFold_bit, ih]
      constructor
      · rintro ((h1 | ⟨i, hi, h2⟩) | h1)
        · exact .inl h1
        · exact .inr ⟨i, by omega, h2⟩
        · exact .inr ⟨k, by omega, h, h1⟩
      · rintro (h1 | ⟨i, hi, h2⟩)
        · exact .inl (.inl h1)
        · by_cases hik : i = k
          · subst hik
            exact .inr h2.2
          · exact .inl (.inr ⟨i, by omega, h2⟩)
    · rw [if_neg h, ih]
      constructor
      · rintro (h1 | ⟨i, hi, h2⟩)
        · exact .inl h1
        · exact .inr ⟨i, by omega, h2⟩
      · rintro (h1 | ⟨i, hi, h2⟩)
        · exact .inl h1
        · by_cases hik : i = k
          · subst hik
            exact absurd h2.1 h
          · exact .inr ⟨i, by omega, h2⟩
theorem outOf_choose (vars : List Int) (dn : List Nat) (P : Nat → Nat → Prop) (h : ∀ i, i < vars.length → ∃ v, (dn.getD (vars.getD i 0).toNat 0).testBit v = true ∧ P i v) : ∃ l, OutOf vars dn l ∧ ∀ i, i < vars.length → P i (l.getD i 0) := by
  let f : Nat → Nat := fun i => if hi : i < vars.length then Classical.choose (h i hi) else 0
  have hf : ∀ i, (hi : i < vars.length) → ((List.range vars.length).map f).getD i 0 = Classical.choose (h i hi) := by
    intro i hi
    simp [List.getD, hi, f]
  refine ⟨(List.range vars.length).map f, ⟨by simp, fun i hi => ?_⟩, fun i hi => ?_⟩
  · rw [hf i hi]
    exact (Classical.choose_spec (h i hi)).1
  · rw [hf i hi]
    exact (Classical.choose_spec (h i hi)).2
theorem OutOf.set {vars : List Int} {dn l : List Nat} (h : OutOf vars dn l) (i v : Nat) (hv : (dn.getD (vars.getD i 0).toNat 0).testBit v = true) : OutOf vars dn (l.set i v) := by
  refine ⟨by simp [h.1], fun k hk => ?_⟩
  by_cases hki : i = k
  · subst hki
    have e : (l.set i v).getD i 0 = v := by simp [List.getD, h.1, hk]
    rw [e]
    exact hv
  · have e : (l.set i v).getD k 0 = l.getD k 0 := by simp [List.getD, hki]
    rw [e]
    exact h.2 k hk
theorem Covers.set {row : List Int} {l : List Nat} (h : Covers row l) (i v : Nat) (hv : bearsB (row.getD i 0) v = true) : Covers row (l.set i v) := by
  intro k hk
  have hk' : k < l.length := by simpa using hk
  by_cases hki : i = k
  · subst hki
    have e : (l.set i v).getD i 0 = v := by simp [List.getD, hk']
    rw [e]
    exact hv
  · have e : (l.set i v).getD k 0 = l.getD k 0 := by simp [List.getD, hki]
    rw [e]
    exact h k hk'
/-- Rows that live are rows; those that cover a list out of the domains live. -/
def RsRep (vars : List Int) (rows : List (List Int)) (dn : List Nat) (live : Nat) : Prop := (∀ j, live.testBit j = true → j < rows.length) ∧ ∀ j, j < rows.length → (∃ l, OutOf vars dn l ∧ Covers (rows.getD j []) l) → live.testBit j = true
theorem bit_lt6 {s v : Nat} (hs : s < 64) (h : s.testBit v = true) : v < 6 := vals_lt6 hs ((vals_mem hs).2 h)
theorem nLive_bit (vars : List Int) (rows : List (List Int)) (dn : List Nat) (live : Nat) (h4 : vars.length ≤ 4) (hd : ∀ q, dn.getD q 0 < 64) (hrow : ∀ j, j < rows.length → (rows.getD j []).length = vars.length) (hR : RsRep vars rows dn live) (j : Nat) :
    (nLive (brTo rows rows.length) live vars dn).testBit j = true ↔ j < rows.length ∧ ∃ l, OutOf vars dn l ∧ Covers (rows.getD j []) l := by
  unfold nLive
  rw [dropTo_bit]
  constructor
  · rintro ⟨h1, h2⟩
    have hj := hR.1 j h1
    obtain ⟨l, hl, hc⟩ := outOf_choose vars dn (fun i v => bearsB ((rows.getD j []).getD i 0) v = true) (fun i hi => by
      obtain ⟨v, hv, hb⟩ := h2 i hi
      have hb' := (brTo_bit rows i v (by omega) (vals_lt6 (hd _) hv) rows.length j).1 hb
      exact ⟨v, (vals_mem (hd _)).1 hv, hb'.2.2⟩)
    exact ⟨hj, l, hl, fun i hi => hc i (by rw [← hl.1]; exact hi)⟩
  · rintro ⟨hj, l, hl, hc⟩
    refine ⟨hR.2 j hj ⟨l, hl, hc⟩, fun i hi => ⟨l.getD i 0, (vals_mem (hd _)).2 (hl.2 i hi), ?_⟩⟩
    exact (brTo_bit rows i _ (by omega) (bit_lt6 (hd _) (hl.2 i hi)) rows.length j).2 ⟨hj, by rw [hrow j hj]; exact hi, hc i (by rw [hl.1]; exact hi)⟩
theorem nLive_rep (vars : List Int) (rows : List (List Int)) (dn : List Nat) (live : Nat) (h4 : vars.length ≤ 4) (hd : ∀ q, dn.getD q 0 < 64) (hrow : ∀ j, j < rows.length → (rows.getD j []).length = vars.length) (hR : RsRep vars rows dn live) :
    RsRep vars rows dn (nLive (brTo rows rows.length) live vars dn) :=
  ⟨fun j hj => ((nLive_bit vars rows dn live h4 hd hrow hR j).1 hj).1, fun j hj h => (nLive_bit vars rows dn live h4 hd hrow hR j).2 ⟨hj, h⟩⟩
/-- The variables of a table are ones, and no two are alike. -/
structure VarsOk (vars : List Int) : Prop where
  four : vars.length ≤ 4
  ok : ∀ i, i < vars.length → 0 ≤ vars.getD i 0 ∧ vars.getD i 0 < 8
  one : ∀ i k, i < vars.length → k < vars.length → vars.getD i 0 = vars.getD k 0 → i = k
theorem VarsOk.lt {vars : List Int} (h : VarsOk vars) {i : Nat} (hi : i < vars.length) : (vars.getD i 0).toNat < 8 := by
  have := h.ok i hi
  omega
theorem VarsOk.nat {vars : List Int} (h : VarsOk vars) {i k : Nat} (hi : i < vars.length) (hk : k < vars.length) (e : (vars.getD i 0).toNat = (vars.getD k 0).toNat) : i = k := by
  have h1 := h.ok i hi
  have h2 := h.ok k hk
  exact h.one i k hi hk (by omega)
theorem and_ne_zero (a b : Nat) : a &&& b ≠ 0 ↔ ∃ j, a.testBit j = true ∧ b.testBit j = true := by
  constructor
  · intro h
    refine Classical.byContradiction fun hc => h ?_
    apply Nat.eq_of_testBit_eq
    intro j
    rw [Nat.testBit_and, Nat.zero_testBit]
    cases h1 : a.testBit j with
    | false => rfl
    | true =>
      cases h2 : b.testBit j with
      | false => rfl
      | true => exact absurd ⟨j, h1, h2⟩ hc
  · rintro ⟨j, h1, h2⟩ h0
    have h3 : (a &&& b).testBit j = false := by rw [h0]; exact Nat.zero_testBit j
    rw [Nat.testBit_and, h1, h2] at h3
    cases h3
/-- Way 1, not Not: what Narrow leaves are the supported values. -/
theorem nDom_sem (vars : List Int) (rows : List (List Int)) (dn : List Nat) (live : Nat) (h8 : dn.length = 8) (hV : VarsOk vars) (hd : ∀ q, dn.getD q 0 < 64) (hrow : ∀ j, j < rows.length → (rows.getD j []).length = vars.length) (hR : RsRep vars rows dn live)
    (i v : Nat) (hi : i < vars.length) : ((nDom (brTo rows rows.length) live vars dn).getD (vars.getD i 0).toNat 0).testBit v = true ↔ Supp vars rows false dn i v := by
  unfold nDom
  rw [replTo_get vars dn _ (fun k hk => by rw [h8]; exact hV.lt hk) _ _ (Nat.le_refl _), if_pos ⟨i, hi, rfl⟩, markTo_bit _ _ vars dn zero8 (fun k hk => hV.lt hk) _ _ _ (Nat.le_refl _)]
  have hz : zero8.getD (vars.getD i 0).toNat 0 = 0 := by
    have := hV.lt hi
    generalize (vars.getD i 0).toNat = q at this
    rcases q with _ | _ | _ | _ | _ | _ | _ | _ | q <;> first | rfl | omega
  rw [hz]
  constructor
  · rintro (h | ⟨k, hk, hq, hv, h⟩)
    · simp at h
    · have hki := hV.nat hk hi hq
      subst hki
      obtain ⟨j, h1, h2⟩ := (and_ne_zero _ _).1 h
      obtain ⟨hj, l, hl, hc⟩ := (nLive_bit vars rows dn live hV.four hd hrow hR j).1 h1
      have hb := (brTo_bit rows k v (by have := hV.four; omega) (vals_lt6 (hd _) hv) rows.length j).1 h2
      refine ⟨l.set k v, hl.set k v ((vals_mem (hd _)).1 hv), by simp [List.getD, hl.1, hk], ?_⟩
      exact ⟨j, hj, hc.set k v hb.2.2⟩
  · rintro ⟨l, hl, rfl, h⟩
    obtain ⟨j, hj, hc⟩ : ∃ j, j < rows.length ∧ Covers (rows.getD j []) l := h
    have hb := hl.2 i hi
    refine .inr ⟨i, hi, rfl, (vals_mem (hd _)).2 hb, (and_ne_zero _ _).2 ⟨j, (nLive_bit vars rows dn live hV.four hd hrow hR j).2 ⟨hj, l, hl, hc⟩, ?_⟩⟩
    exact (brTo_bit rows i _ (by have := hV.four; omega) (bit_lt6 (hd _) hb) rows.length j).2 ⟨hj, by rw [hrow j hj]; exact hi, hc i (by rw [hl.1]; exact hi)⟩
end Go.Proofs.Ytkjfpdfkcfgfkaa

/- What Narrow leaves, in the document's words: tables of Way 1 with Not. -/
namespace Go.Proofs.Ytkjfpdfkcfgfkaa

theorem foldl_pre {α β : Type} (R : List α → β → Prop) (f : β → α → β) : ∀ (l pre : List α) (b : β), R pre b → (∀ p a b, a ∈ l → R p b → R (p ++ [a]) (f b a)) → R (pre ++ l) (l.foldl f b)
  | [], pre, b, h, _ => by simpa using h
  | a :: l, pre, b, h, hs => by
    have := foldl_pre R f l (pre ++ [a]) (f b a) (hs pre a b (List.mem_cons_self ..) h) (fun p a' b' ha => hs p a' b' (List.mem_cons_of_mem _ ha))
    simpa using this
/-- From entry i on, none of these rows covers l. -/
def Uncov (br : List Nat) (n i R : Nat) (l : List Nat) : Prop := ∀ j, R.testBit j = true → ∃ k, i ≤ k ∧ k < n ∧ (br.getD (6 * k + l.getD k 0) 0).testBit j = false
/-- No more than the domains. -/
def SubD (sp dn : List Nat) : Prop := ∀ q v, (sp.getD q 0).testBit v = true → (dn.getD q 0).testBit v = true
theorem ne_zero_bit {R : Nat} (h : R ≠ 0) : ∃ j, R.testBit j = true := Nat.exists_testBit_of_ne_zero h
theorem fillFrom_get (vars : List Int) (dn sp : List Nat) (hV : VarsOk vars) (h8 : sp.length = 8) (i q : Nat) : ∀ j, i + j ≤ vars.length → (fillFrom vars dn sp i j).getD q 0 = if ∃ k, k < i + j ∧ i ≤ k ∧ (vars.getD k 0).toNat = q then dn.getD q 0 else sp.getD q 0
  | 0, _ => by
    rw [if_neg]
    · rfl
    · rintro ⟨k, h2, h1, _⟩
      omega
  | j + 1, hj => by
    simp only [fillFrom]
    rw [getD_set8 _ _ _ _ (by rw [fillFrom_length, h8]; exact hV.lt (by omega)), fillFrom_get vars dn sp hV h8 i q j (by omega)]
    by_cases h : (vars.getD (i + j) 0).toNat = q
    · rw [if_pos h, if_pos ⟨i + j, by omega, by omega, h⟩, h]
    · rw [if_neg h]
      by_cases h2 : ∃ k, k < i + j ∧ i ≤ k ∧ (vars.getD k 0).toNat = q
      · obtain ⟨k, h3, h4, e⟩ := h2
        rw [if_pos ⟨k, h3, h4, e⟩, if_pos ⟨k, by omega, h4, e⟩]
      · rw [if_neg h2, if_neg]
        rintro ⟨k, h3, h4, e⟩
        by_cases hk : k = i + j
        · subst hk; exact h e
        · exact h2 ⟨k, by omega, h4, e⟩
/-- What markUncovered says and marks. -/
structure UncSem (br : List Nat) (vars : List Int) (dn sp : List Nat) (i R : Nat) (P : List Nat → Prop) (st : Bool × List Nat) : Prop where
  len : st.2.length = 8
  sub : SubD st.2 dn
  one : st.1 = true ↔ ∃ l, OutOf vars dn l ∧ Uncov br vars.length i R l ∧ P l
  two : ∀ q v, (st.2.getD q 0).testBit v = true ↔ (sp.getD q 0).testBit v = true ∨ ∃ l k, OutOf vars dn l ∧ Uncov br vars.length i R l ∧ P l ∧ i ≤ k ∧ k < vars.length ∧ (vars.getD k 0).toNat = q ∧ l.getD k 0 = v
theorem Uncov.set {br : List Nat} {n i R v : Nat} {l : List Nat} (h : Uncov br n (i + 1) R l) : Uncov br n (i + 1) R (l.set i v) := by
  intro j hj
  obtain ⟨k, h1, h2, h3⟩ := h j hj
  refine ⟨k, h1, h2, ?_⟩
  have e : (l.set i v).getD k 0 = l.getD k 0 := by
    have : i ≠ k := by omega
    simp [List.getD, this]
  rw [e]
  exact h3
theorem uncov_step {br : List Nat} {n i R v : Nat} {l : List Nat} (hi : i < n) (hv : l.getD i 0 = v) : Uncov br n i R l ↔ Uncov br n (i + 1) (R &&& br.getD (6 * i + v) 0) l := by
  constructor
  · intro h j hj
    rw [Nat.testBit_and, Bool.and_eq_true] at hj
    obtain ⟨k, h1, h2, h3⟩ := h j hj.1
    refine ⟨k, ?_, h2, h3⟩
    by_cases hk : k = i
    · subst hk
      rw [hv, hj.2] at h3
      cases h3
    · omega
  · intro h j hj
    cases hb : (br.getD (6 * i + v) 0).testBit j with
    | false => exact ⟨i, Nat.le_refl _, hi, by rw [hv]; exact hb⟩
    | true =>
      obtain ⟨k, h1, h2, h3⟩ := h j (by rw [Nat.testBit_and, hj, hb]; rfl)
      exact ⟨k, by omega, h2, h3⟩
theorem set_getD {l : List Nat} {i n v : Nat} (h : l.length = n) (hi : i < n) : (l.set i v).getD i 0 = v := by simp [List.getD, h, hi]
theorem set_getD_ne {l : List Nat} {i k v : Nat} (h : i ≠ k) : (l.set i v).getD k 0 = l.getD k 0 := by simp [List.getD, h]
theorem unc_sem (br : List Nat) (vars : List Int) (dn : List Nat) (hV : VarsOk vars) (hd : ∀ q, dn.getD q 0 < 64) (hne : ∃ l, OutOf vars dn l) : ∀ (m i R : Nat) (sp : List Nat), m + i = vars.length → sp.length = 8 → SubD sp dn → UncSem br vars dn sp i R (fun _ => True) (unc br vars dn m i R sp) := by
  have zero : ∀ (i : Nat) (sp : List Nat), i ≤ vars.length → sp.length = 8 → SubD sp dn → UncSem br vars dn sp i 0 (fun _ => True) (true, fillFrom vars dn sp i (vars.length - i)) := by
    intro i sp hi h8 hs
    have hg := fun q => fillFrom_get vars dn sp hV h8 i q (vars.length - i) (by omega)
    have hu : ∀ l, Uncov br vars.length i 0 l := fun l j hj => by simp at hj
    obtain ⟨l0, hl0⟩ := hne
    refine ⟨by rw [fillFrom_length]; exact h8, fun q v h => ?_, ⟨fun _ => ⟨l0, hl0, hu l0, trivial⟩, fun _ => rfl⟩, fun q v => ?_⟩
    · have h' : ((fillFrom vars dn sp i (vars.length - i)).getD q 0).testBit v = true := h
      rw [hg q] at h'
      split at h'
      · exact h'
      · exact hs q v h'
    · show ((fillFrom vars dn sp i (vars.length - i)).getD q 0).testBit v = true ↔ _
      rw [hg q]
      constructor
      · intro h
        split at h
        · rename_i hk
          obtain ⟨k, h2, h1, e⟩ := hk
          subst e
          exact .inr ⟨l0.set k v, k, hl0.set k v h, hu _, trivial, h1, by omega, rfl, set_getD hl0.1 (by omega)⟩
        · exact .inl h
      · rintro (h | ⟨l, k, hl, _, _, h1, h2, e, e2⟩)
        · split
          · exact hs q v h
          · exact h
        · rw [if_pos ⟨k, by omega, h1, e⟩]
          subst e e2
          exact hl.2 k h2
  intro m
  induction m with
  | zero =>
    intro i R sp hm h8 hs
    unfold unc
    split
    · rename_i h0
      subst h0
      exact zero i sp (by omega) h8 hs
    · rename_i h0
      obtain ⟨j, hj⟩ := ne_zero_bit h0
      have hno : ∀ l, ¬ Uncov br vars.length i R l := fun l h => by
        obtain ⟨k, h1, h2, _⟩ := h j hj
        omega
      refine ⟨h8, hs, ⟨fun h => (by cases h), fun ⟨l, _, h, _⟩ => absurd h (hno l)⟩, fun q v => ⟨fun h => .inl h, ?_⟩⟩
      rintro (h | ⟨l, k, _, h, _⟩)
      · exact h
      · exact absurd h (hno l)
  | succ m ih =>
    intro i R sp hm h8 hs
    unfold unc
    split
    · rename_i h0
      subst h0
      exact zero i sp (by omega) h8 hs
    · have hin : i < vars.length := by omega
      have key := foldl_pre (fun (pre : List Nat) (st : Bool × List Nat) => UncSem br vars dn sp i R (fun l => l.getD i 0 ∈ pre) st) (uncStep (unc br vars dn m (i + 1)) br i R (vars.getD i 0).toNat) (vals (dn.getD (vars.getD i 0).toNat 0)) [] (false, sp)
        ⟨h8, hs, ⟨fun h => (by cases h), fun ⟨l, _, _, h⟩ => (by cases h)⟩, fun q v => ⟨fun h => .inl h, fun h => by
          rcases h with h | ⟨l, k, _, _, h, _⟩
          · exact h
          · cases h⟩⟩
        (fun p a st ha hst => by
          have hab := (vals_mem (hd _)).1 ha
          have h1 := ih (i + 1) (R &&& br.getD (6 * i + a) 0) st.2 (by omega) hst.len hst.sub
          have hq8 := hV.lt hin
          unfold uncStep
          generalize unc br vars dn m (i + 1) (R &&& br.getD (6 * i + a) 0) st.2 = X at h1
          have mem : ∀ l : List Nat, l.getD i 0 ∈ p ++ [a] ↔ l.getD i 0 ∈ p ∨ l.getD i 0 = a := fun l => by simp
          cases hX : X.1 with
          | true =>
            obtain ⟨l1, hl1, hu1, _⟩ := h1.one.1 hX
            have hl1' := hl1.set i a hab
            have hu1' : Uncov br vars.length i R (l1.set i a) := (uncov_step hin (set_getD hl1.1 hin)).2 hu1.set
            rw [if_pos rfl]
            have hg : ∀ q, (X.2.set (vars.getD i 0).toNat (X.2.getD (vars.getD i 0).toNat 0 ||| 2 ^ a)).getD q 0 = if (vars.getD i 0).toNat = q then X.2.getD (vars.getD i 0).toNat 0 ||| 2 ^ a else X.2.getD q 0 := fun q => getD_set8 _ _ _ _ (by rw [h1.len]; exact hq8)
            have two : ∀ q v, ((X.2.set (vars.getD i 0).toNat (X.2.getD (vars.getD i 0).toNat 0 ||| 2 ^ a)).getD q 0).testBit v = true ↔ (X.2.getD q 0).testBit v = true ∨ ((vars.getD i 0).toNat = q ∧ a = v) := by
              intro q v
              rw [hg q]
              split
              · rename_i e
                rw [Nat.testBit_or, Bool.or_eq_true, Nat.testBit_two_pow, decide_eq_true_eq, e]
                exact ⟨fun h => h.elim .inl (fun h => .inr ⟨rfl, h⟩), fun h => h.elim .inl (fun h => .inr h.2)⟩
              · rename_i e
                exact ⟨.inl, fun h => h.elim id (fun h => absurd h.1 e)⟩
            refine ⟨by simp [h1.len], fun q v h => ?_, ⟨fun _ => ⟨_, hl1', hu1', (mem _).2 (.inr (set_getD hl1.1 hin))⟩, fun _ => rfl⟩, fun q v => ?_⟩
            · rcases (two q v).1 h with h | ⟨rfl, rfl⟩
              · exact h1.sub q v h
              · exact hab
            · rw [two q v, h1.two q v, hst.two q v]
              constructor
              · rintro (((h | ⟨l, k, a1, a2, a3, a4⟩) | ⟨l, k, a1, a2, _, a4, a5, a6, a7⟩) | ⟨rfl, rfl⟩)
                · exact .inl h
                · exact .inr ⟨l, k, a1, a2, (mem l).2 (.inl a3), a4⟩
                · exact .inr ⟨l.set i a, k, a1.set i a hab, (uncov_step hin (set_getD a1.1 hin)).2 a2.set, (mem _).2 (.inr (set_getD a1.1 hin)), by omega, a5, a6, by rw [set_getD_ne (by omega)]; exact a7⟩
                · exact .inr ⟨_, i, hl1', hu1', (mem _).2 (.inr (set_getD hl1.1 hin)), Nat.le_refl _, hin, rfl, set_getD hl1.1 hin⟩
              · rintro (h | ⟨l, k, a1, a2, a3, a4, a5, a6, a7⟩)
                · exact .inl (.inl (.inl h))
                · rcases (mem l).1 a3 with a3 | a3
                  · exact .inl (.inl (.inr ⟨l, k, a1, a2, a3, a4, a5, a6, a7⟩))
                  · by_cases hk : k = i
                    · subst hk
                      exact .inr ⟨a6, by rw [← a3]; exact a7⟩
                    · exact .inl (.inr ⟨l, k, a1, (uncov_step hin a3).1 a2, trivial, by omega, a5, a6, a7⟩)
          | false =>
            have hno : ∀ l, OutOf vars dn l → l.getD i 0 = a → ¬ Uncov br vars.length i R l := fun l hl e h => by
              have := h1.one.2 ⟨l, hl, (uncov_step hin e).1 h, trivial⟩
              rw [hX] at this
              cases this
            have hno2 : ∀ l, OutOf vars dn l → ¬ Uncov br vars.length (i + 1) (R &&& br.getD (6 * i + a) 0) l := fun l hl h => by
              have := h1.one.2 ⟨l, hl, h, trivial⟩
              rw [hX] at this
              cases this
            rw [if_neg (by simp)]
            refine ⟨h1.len, h1.sub, ?_, fun q v => ?_⟩
            · show st.1 = true ↔ _
              rw [hst.one]
              constructor
              · rintro ⟨l, a1, a2, a3⟩
                exact ⟨l, a1, a2, (mem l).2 (.inl a3)⟩
              · rintro ⟨l, a1, a2, a3⟩
                rcases (mem l).1 a3 with a3 | a3
                · exact ⟨l, a1, a2, a3⟩
                · exact absurd a2 (hno l a1 a3)
            · show (X.2.getD q 0).testBit v = true ↔ _
              rw [h1.two q v, hst.two q v]
              constructor
              · rintro ((h | ⟨l, k, a1, a2, a3, a4⟩) | ⟨l, k, a1, a2, _⟩)
                · exact .inl h
                · exact .inr ⟨l, k, a1, a2, (mem l).2 (.inl a3), a4⟩
                · exact absurd a2 (hno2 l a1)
              · rintro (h | ⟨l, k, a1, a2, a3, a4⟩)
                · exact .inl (.inl h)
                · rcases (mem l).1 a3 with a3 | a3
                  · exact .inl (.inr ⟨l, k, a1, a2, a3, a4⟩)
                  · exact absurd a2 (hno l a1 a3))
      rw [List.nil_append] at key
      refine ⟨key.len, key.sub, ?_, fun q v => ?_⟩
      · rw [key.one]
        exact ⟨fun ⟨l, a1, a2, _⟩ => ⟨l, a1, a2, trivial⟩, fun ⟨l, a1, a2, _⟩ => ⟨l, a1, a2, (vals_mem (hd _)).2 (a1.2 i hin)⟩⟩
      · rw [key.two q v]
        constructor
        · rintro (h | ⟨l, k, a1, a2, _, a4⟩)
          · exact .inl h
          · exact .inr ⟨l, k, a1, a2, trivial, a4⟩
        · rintro (h | ⟨l, k, a1, a2, _, a4⟩)
          · exact .inl h
          · exact .inr ⟨l, k, a1, a2, (vals_mem (hd _)).2 (a1.2 i hin), a4⟩
theorem zero8_get (q : Nat) : zero8.getD q 0 = 0 := by
  rcases q with _ | _ | _ | _ | _ | _ | _ | _ | q <;> rfl
/-- Way 1, Not: what Narrow leaves are the supported values. -/
theorem nDomN_sem (vars : List Int) (rows : List (List Int)) (dn : List Nat) (live : Nat) (h8 : dn.length = 8) (hV : VarsOk vars) (hd : ∀ q, dn.getD q 0 < 64) (hrow : ∀ j, j < rows.length → (rows.getD j []).length = vars.length) (hR : RsRep vars rows dn live)
    (hne : ∃ l, OutOf vars dn l) (i v : Nat) (hi : i < vars.length) : ((nDomN (brTo rows rows.length) live vars dn).getD (vars.getD i 0).toNat 0).testBit v = true ↔ Supp vars rows true dn i v := by
  unfold nDomN
  rw [replTo_get vars dn _ (fun k hk => by rw [h8]; exact hV.lt hk) _ _ (Nat.le_refl _), if_pos ⟨i, hi, rfl⟩]
  have h := unc_sem (brTo rows rows.length) vars dn hV hd hne vars.length 0 (nLive (brTo rows rows.length) live vars dn) zero8 rfl rfl (fun q v h => by rw [zero8_get] at h; simp at h)
  rw [h.two, zero8_get]
  have hu : ∀ l, OutOf vars dn l → (Uncov (brTo rows rows.length) vars.length 0 (nLive (brTo rows rows.length) live vars dn) l ↔ Allow rows true l) := by
    intro l hl
    have h4 := hV.four
    constructor
    · intro hu j hj hc
      obtain ⟨k, _, hk, hb⟩ := hu j ((nLive_bit vars rows dn live hV.four hd hrow hR j).2 ⟨hj, l, hl, hc⟩)
      have := (brTo_bit rows k _ (by omega) (bit_lt6 (hd _) (hl.2 k hk)) rows.length j).2 ⟨hj, by rw [hrow j hj]; exact hk, hc k (by rw [hl.1]; exact hk)⟩
      rw [hb] at this
      cases this
    · intro ha j hj
      have hj' := ((nLive_bit vars rows dn live hV.four hd hrow hR j).1 hj).1
      refine Classical.byContradiction fun hc => ha j hj' ?_
      intro k hk
      rw [hl.1] at hk
      cases hb : ((brTo rows rows.length).getD (6 * k + l.getD k 0) 0).testBit j with
      | false => exact absurd ⟨k, Nat.zero_le _, hk, hb⟩ hc
      | true => exact ((brTo_bit rows k _ (by omega) (bit_lt6 (hd _) (hl.2 k hk)) rows.length j).1 hb).2.2
  constructor
  · rintro (h0 | ⟨l, k, a1, a2, _, _, a5, a6, a7⟩)
    · simp at h0
    · have e := hV.nat a5 hi a6
      subst e
      exact ⟨l, a1, a7, (hu l a1).1 a2⟩
  · rintro ⟨l, a1, a2, a3⟩
    exact .inr ⟨l, i, a1, (hu l a1).2 a3, trivial, Nat.zero_le _, hi, rfl, a2⟩
end Go.Proofs.Ytkjfpdfkcfgfkaa

/- Diagrams: which lists build's diagrams accept. -/
namespace Go.Proofs.Ytkjfpdfkcfgfkaa

/-- From node old, m entries ahead of the end, the values of l from entry i on lead to the end. -/
def dAcc (os : List (List Nat)) : Nat → Nat → Nat → List Nat → Prop
  | 0, _, old, _ => old = 1
  | m + 1, i, old, l => 2 ≤ old ∧ dAcc os m (i + 1) (nodeAt os old (l.getD i 0)) l
theorem dAcc_zero (os : List (List Nat)) (m i : Nat) (l : List Nat) : ¬ dAcc os m i 0 l := by
  cases m with
  | zero => intro h; cases h
  | succ m => intro h; exact absurd h.1 (by omega)
theorem dAcc_pre {a b : List (List Nat)} (hp : Pre a b) (l : List Nat) (hl : ∀ i, l.getD i 0 < 6) : ∀ (m i old : Nat), levOk a m old → (dAcc a m i old l ↔ dAcc b m i old l)
  | 0, _, _, _ => Iff.rfl
  | m + 1, i, old, h => by
    rcases h with rfl | ⟨h2, hlt, h⟩
    · exact ⟨fun h => absurd h (dAcc_zero _ _ _ _), fun h => absurd h (dAcc_zero _ _ _ _)⟩
    · obtain ⟨ex, rfl⟩ := hp
      show (2 ≤ old ∧ dAcc a m (i + 1) (nodeAt a old (l.getD i 0)) l) ↔ (2 ≤ old ∧ dAcc (a ++ ex) m (i + 1) (nodeAt (a ++ ex) old (l.getD i 0)) l)
      rw [nodeAt_app a ex old _ hlt, dAcc_pre ⟨ex, rfl⟩ l hl m (i + 1) _ (h _ (hl i))]
theorem dAcc_set (os : List (List Nat)) (l : List Nat) (k v : Nat) : ∀ (m i old : Nat), k < i → (dAcc os m i old (l.set k v) ↔ dAcc os m i old l)
  | 0, _, _, _ => Iff.rfl
  | m + 1, i, old, h => by
    show (2 ≤ old ∧ dAcc os m (i + 1) (nodeAt os old ((l.set k v).getD i 0)) (l.set k v)) ↔ _
    rw [set_getD_ne (by omega), dAcc_set os l k v m (i + 1) _ (by omega)]
    exact Iff.rfl
theorem OutOf.lt6 {vars : List Int} {dn l : List Nat} (h : OutOf vars dn l) (hd : ∀ q, dn.getD q 0 < 64) (i : Nat) : l.getD i 0 < 6 := by
  by_cases hi : i < vars.length
  · exact bit_lt6 (hd _) (h.2 i hi)
  · have : l.getD i 0 = 0 := by
      have h1 : l.length ≤ i := by rw [h.1]; omega
      simp [List.getD, List.getElem?_eq_none h1]
    omega
/-- numberTo's node leads on as it says. -/
theorem dAcc_number (ns : List (List Nat)) (h2 : 2 ≤ ns.length) (n : List Nat) (m i : Nat) (l : List Nat) (hl : ∀ i, l.getD i 0 < 6) (hn : ∀ v, v < 6 → levOk ns m (n.getD v 0)) :
    dAcc (numberTo ns n).1 (m + 1) i (numberTo ns n).2 l ↔ dAcc ns m (i + 1) (n.getD (l.getD i 0) 0) l := by
  have hp := numberTo_pre ns n
  rw [dAcc_pre hp l hl m (i + 1) _ (hn _ (hl i))]
  unfold numberTo
  split
  · rename_i hz
    subst hz
    have e : zero6.getD (l.getD i 0) 0 = 0 := by
      have := hl i
      generalize l.getD i 0 = v at this
      rcases v with _ | _ | _ | _ | _ | _ | v <;> first | rfl | omega
    rw [e]
    exact ⟨fun h => absurd h (dAcc_zero _ _ _ _), fun h => absurd h (dAcc_zero _ _ _ _)⟩
  · split
    · rename_i k hk
      obtain ⟨h1, _, h4⟩ := numOf_get ns n k hk
      show (2 ≤ k ∧ dAcc ns m (i + 1) ((ns.getD k []).getD (l.getD i 0) 0) l) ↔ _
      rw [h4]
      exact ⟨fun h => h.2, fun h => ⟨h1, h⟩⟩
    · show (2 ≤ ns.length ∧ dAcc (ns ++ [n]) m (i + 1) (((ns ++ [n]).getD ns.length []).getD (l.getD i 0) 0) l) ↔ _
      have e : (ns ++ [n]).getD ns.length [] = n := by simp [List.getD]
      rw [e]
      exact ⟨fun h => h.2, fun h => ⟨h2, h⟩⟩
/-- From entry i on, rows allow l. -/
def AllowFrom (n i : Nat) (rows : List (List Int)) (nt : Bool) (l : List Nat) : Prop :=
  if nt then ∀ r ∈ rows, ¬ ∀ k, i ≤ k → k < n → bearsB (r.getD k 0) (l.getD k 0) = true else ∃ r ∈ rows, ∀ k, i ≤ k → k < n → bearsB (r.getD k 0) (l.getD k 0) = true
theorem allow_step (n i : Nat) (hi : i < n) (rows : List (List Int)) (nt : Bool) (l : List Nat) : AllowFrom n (i + 1) (bearRows rows i (l.getD i 0)) nt l ↔ AllowFrom n i rows nt l := by
  have key : ∀ r : List Int, (bearsB (r.getD i 0) (l.getD i 0) = true ∧ ∀ k, i + 1 ≤ k → k < n → bearsB (r.getD k 0) (l.getD k 0) = true) ↔ ∀ k, i ≤ k → k < n → bearsB (r.getD k 0) (l.getD k 0) = true := by
    intro r
    constructor
    · rintro ⟨h1, h2⟩ k hk hn
      by_cases e : k = i
      · subst e; exact h1
      · exact h2 k (by omega) hn
    · intro h
      exact ⟨h i (Nat.le_refl _) hi, fun k hk hn => h k (by omega) hn⟩
  unfold AllowFrom bearRows
  cases nt with
  | true =>
    simp only [if_true, List.mem_filter]
    constructor
    · intro h r hr hc
      have := (key r).2 hc
      exact h r ⟨hr, this.1⟩ this.2
    · rintro h r ⟨hr, hb⟩ hc
      exact h r hr ((key r).1 ⟨hb, hc⟩)
  | false =>
    simp only [Bool.false_eq_true, if_false, List.mem_filter]
    constructor
    · rintro ⟨r, ⟨hr, hb⟩, hc⟩
      exact ⟨r, hr, (key r).1 ⟨hb, hc⟩⟩
    · rintro ⟨r, hr, hc⟩
      have := (key r).2 hc
      exact ⟨r, ⟨hr, this.1⟩, this.2⟩
/-- What build makes accepts what rows allow. -/
theorem bldTo_acc (vars : List Int) (nt : Bool) (dn : List Nat) (hd : ∀ q, dn.getD q 0 < 64) (l : List Nat) (hO : OutOf vars dn l) : ∀ (m i : Nat) (rows : List (List Int)) (ns : List (List Nat)), m + i = vars.length → 2 ≤ ns.length →
    (dAcc (bldTo vars nt dn m i rows ns).1 m i (bldTo vars nt dn m i rows ns).2 l ↔ AllowFrom vars.length i rows nt l)
  | 0, i, rows, ns, hm, h2 => by
    have e : AllowFrom vars.length i rows nt l ↔ (if nt then rows = [] else rows ≠ []) := by
      have tr : ∀ r : List Int, ∀ k, i ≤ k → k < vars.length → bearsB (r.getD k 0) (l.getD k 0) = true := fun r k h1 h2 => by omega
      unfold AllowFrom
      cases nt with
      | true =>
        simp only [if_true]
        constructor
        · intro h
          cases rows with
          | nil => rfl
          | cons r rs => exact absurd (tr r) (h r (List.mem_cons_self ..))
        · rintro rfl r hr
          cases hr
      | false =>
        simp only [Bool.false_eq_true, if_false]
        constructor
        · rintro ⟨r, hr, _⟩ rfl
          cases hr
        · intro h
          cases rows with
          | nil => exact absurd rfl h
          | cons r rs => exact ⟨r, List.mem_cons_self .., tr r⟩
    rw [e]
    unfold bldTo
    cases nt <;> cases rows <;> simp [dAcc]
  | m + 1, i, rows, ns, hm, h2 => by
    unfold bldTo
    split
    · rename_i h
      simp only [Bool.and_eq_true, Bool.not_eq_true', List.isEmpty_iff] at h
      obtain ⟨rfl, rfl⟩ := h
      refine ⟨fun h => absurd h (dAcc_zero _ _ _ _), ?_⟩
      rintro ⟨r, hr, _⟩
      cases hr
    · have hi : i < vars.length := by omega
      have key := foldl_pre (fun (pre : List Nat) (st : List (List Nat) × List Nat) => 2 ≤ st.1.length ∧ st.2.length = 6 ∧ (∀ v, v < 6 → levOk st.1 m (st.2.getD v 0)) ∧ ∀ v ∈ pre, v < 6 ∧ (dAcc st.1 m (i + 1) (st.2.getD v 0) l ↔ AllowFrom vars.length (i + 1) (bearRows rows i v) nt l))
        (bldStep (bldTo vars nt dn m (i + 1)) rows i) (vals (dn.getD (vars.getD i 0).toNat 0)) [] (ns, zero6)
        ⟨h2, rfl, fun v hv => by
          have e : zero6.getD v 0 = 0 := by
            rcases v with _ | _ | _ | _ | _ | _ | v <;> first | rfl | omega
          show levOk ns m (zero6.getD v 0)
          rw [e]
          exact lev_zero ns m, fun v hv => by cases hv⟩
        (fun p a st ha hst => by
          obtain ⟨k1, k2, k3, k4⟩ := hst
          have ha6 : a < 6 := vals_lt6 (hd _) ha
          have ih := bldTo_acc vars nt dn hd l hO m (i + 1) (bearRows rows i a) st.1 (by omega) k1
          have il := bldTo_lev vars nt dn m (i + 1) (bearRows rows i a) st.1 k1
          unfold bldStep
          generalize bldTo vars nt dn m (i + 1) (bearRows rows i a) st.1 = X at ih il
          have hl2 : 2 ≤ X.1.length := by
            obtain ⟨ex, he⟩ := il.1
            rw [he]
            simp
            omega
          have hself : (st.2.set a X.2).getD a 0 = X.2 := set_getD k2 ha6
          refine ⟨hl2, by simp [k2], fun v hv => ?_, fun v hv => ?_⟩
          · show levOk X.1 m ((st.2.set a X.2).getD v 0)
            by_cases e : a = v
            · subst e
              rw [hself]
              exact il.2
            · rw [set_getD_ne e]
              exact il.1.lev (k3 v hv)
          · show v < 6 ∧ (dAcc X.1 m (i + 1) ((st.2.set a X.2).getD v 0) l ↔ _)
            by_cases e : a = v
            · subst e
              rw [hself]
              exact ⟨ha6, ih⟩
            · rw [set_getD_ne e]
              have hv' : v ∈ p := by
                rcases List.mem_append.1 hv with h | h
                · exact h
                · exact absurd (List.mem_singleton.1 h).symm e
              have := k4 v hv'
              refine ⟨this.1, ?_⟩
              rw [← dAcc_pre il.1 l (hO.lt6 hd) m (i + 1) _ (k3 v this.1)]
              exact this.2)
      rw [List.nil_append] at key
      generalize (vals (dn.getD (vars.getD i 0).toNat 0)).foldl (bldStep (bldTo vars nt dn m (i + 1)) rows i) (ns, zero6) = st at key
      obtain ⟨k1, k2, k3, k4⟩ := key
      rw [dAcc_number st.1 k1 st.2 m i l (hO.lt6 hd) k3, (k4 _ ((vals_mem (hd _)).2 (hO.2 i hi))).2]
      exact allow_step vars.length i hi rows nt l
end Go.Proofs.Ytkjfpdfkcfgfkaa

/- Diagrams: what cut leaves of them, and marks. -/
namespace Go.Proofs.Ytkjfpdfkcfgfkaa

/-- A cutter whose memo is right. -/
structure CSem (os : List (List Nat)) (vars : List Int) (dn : List Nat) (s : CS) : Prop where
  lev : CLev os s
  sp8 : s.sp.length = 8
  mv : ∀ k x m i, s.mv k = some x → 2 ≤ k → levOk os m k → m + i = vars.length →
    (∀ l, OutOf vars dn l → (dAcc s.ns m i x l ↔ dAcc os m i k l)) ∧ (x ≠ 0 → ∃ l, OutOf vars dn l ∧ dAcc os m i k l) ∧
    ∀ l j, OutOf vars dn l → dAcc os m i k l → i ≤ j → j < vars.length → (s.sp.getD (vars.getD j 0).toNat 0).testBit (l.getD j 0) = true
/-- What a call of cut does. -/
structure CutSem (os : List (List Nat)) (vars : List Int) (dn : List Nat) (m i old : Nat) (s : CS) (r : CS × Nat) : Prop where
  sem : CSem os vars dn r.1
  pre : Pre s.ns r.1.ns
  lev : levOk r.1.ns m r.2
  acc : ∀ l, OutOf vars dn l → (dAcc r.1.ns m i r.2 l ↔ dAcc os m i old l)
  ne : r.2 ≠ 0 → ∃ l, OutOf vars dn l ∧ dAcc os m i old l
  sp : ∀ q v, (r.1.sp.getD q 0).testBit v = true ↔ (s.sp.getD q 0).testBit v = true ∨ ∃ l j, OutOf vars dn l ∧ dAcc os m i old l ∧ i ≤ j ∧ j < vars.length ∧ (vars.getD j 0).toNat = q ∧ l.getD j 0 = v
theorem mark_bit (s : CS) (q v r p u : Nat) (hq : q < s.sp.length) : ((s.mark q v r).sp.getD p 0).testBit u = true ↔ (s.sp.getD p 0).testBit u = true ∨ (r ≠ 0 ∧ q = p ∧ v = u) := by
  unfold CS.mark
  dsimp only
  split
  · rename_i h
    exact ⟨.inl, fun h' => h'.elim id (fun h2 => absurd h h2.1)⟩
  · rename_i h
    rw [getD_set8 _ _ _ _ hq]
    split
    · rename_i e
      rw [Nat.testBit_or, Bool.or_eq_true, Nat.testBit_two_pow, decide_eq_true_eq, e]
      exact ⟨fun h' => h'.elim .inl (fun h2 => .inr ⟨h, rfl, h2⟩), fun h' => h'.elim .inl (fun h2 => .inr h2.2.2)⟩
    · rename_i e
      exact ⟨.inl, fun h' => h'.elim id (fun h2 => absurd h2.2.1 e)⟩
theorem CSem.mark {os : List (List Nat)} {vars : List Int} {dn : List Nat} {s : CS} (h : CSem os vars dn s) (q v r : Nat) (hq : q < 8) : CSem os vars dn (s.mark q v r) := by
  refine ⟨⟨h.lev.two, h.lev.nz, h.lev.mv⟩, ?_, fun k x m i hx h2 hl hm => ?_⟩
  · unfold CS.mark
    dsimp only
    split
    · exact h.sp8
    · simpa using h.sp8
  · have := h.mv k x m i hx h2 hl hm
    exact ⟨this.1, this.2.1, fun l j a b c d => (mark_bit s q v r _ _ (by rw [h.sp8]; exact hq)).2 (.inl (this.2.2 l j a b c d))⟩
theorem cutTo_sem (os : List (List Nat)) (hz : NZ os) (vars : List Int) (dn : List Nat) (hV : VarsOk vars) (hd : ∀ q, dn.getD q 0 < 64) (hne : ∃ l, OutOf vars dn l) : ∀ (m i old : Nat) (s : CS), m + i = vars.length → levOk os m old → CSem os vars dn s → CutSem os vars dn m i old s (cutTo os vars dn m i old s)
  | 0, i, old, s, hm, hl, h => by
    have hl' : old < 2 := hl
    refine ⟨h, Pre.refl _, hl, fun l _ => Iff.rfl, fun h0 => ?_, fun q v => ⟨.inl, fun h' => h'.elim id ?_⟩⟩
    · have h0' : old ≠ 0 := h0
      obtain ⟨l, hl0⟩ := hne
      exact ⟨l, hl0, show old = 1 by omega⟩
    · rintro ⟨l, j, _, _, h1, h2, _⟩
      omega
  | m + 1, i, old, s, hm, hl, h => by
    have hi : i < vars.length := by omega
    unfold cutTo
    by_cases ho : old < 2
    · rw [if_pos ho]
      have h0 : old = 0 := by
        rcases hl with hl | ⟨h2, _⟩ <;> omega
      subst h0
      refine ⟨h, Pre.refl _, .inl rfl, fun l _ => ⟨fun h => absurd h (dAcc_zero _ _ _ _), fun h => absurd h (dAcc_zero _ _ _ _)⟩, fun h0 => absurd rfl h0, fun q v => ⟨.inl, fun h' => h'.elim id ?_⟩⟩
      rintro ⟨l, j, _, h1, _⟩
      exact absurd h1 (dAcc_zero _ _ _ _)
    · rw [if_neg ho]
      have hlev' := hl
      obtain ⟨ho2, holt, hch⟩ : 2 ≤ old ∧ old < os.length ∧ ∀ v, v < 6 → levOk os m (nodeAt os old v) := by
        rcases hl with h1 | h1
        · omega
        · exact h1
      cases hmv : s.mv old with
      | some k =>
        obtain ⟨h1, h2, h3⟩ := h.mv old k (m + 1) i hmv ho2 hlev' hm
        refine ⟨h, Pre.refl _, h.lev.mv old k hmv (m + 1) ho2 hlev', h1, h2, fun q v => ⟨.inl, fun h' => h'.elim id ?_⟩⟩
        rintro ⟨l, j, a1, a2, a3, a4, rfl, rfl⟩
        exact h3 l j a1 a2 a3 a4
      | none =>
        dsimp only
        have hq8 := hV.lt hi
        have key := foldl_pre (fun (pre : List Nat) (st : CS × List Nat) => CSem os vars dn st.1 ∧ Pre s.ns st.1.ns ∧ st.2.length = 6 ∧ (∀ v, v < 6 → levOk st.1.ns m (st.2.getD v 0)) ∧ (∀ v, v ∉ pre → st.2.getD v 0 = 0) ∧
            (∀ v ∈ pre, v < 6 ∧ (dn.getD (vars.getD i 0).toNat 0).testBit v = true ∧ (∀ l, OutOf vars dn l → (dAcc st.1.ns m (i + 1) (st.2.getD v 0) l ↔ dAcc os m (i + 1) (nodeAt os old v) l)) ∧ (st.2.getD v 0 ≠ 0 → ∃ l, OutOf vars dn l ∧ dAcc os m (i + 1) (nodeAt os old v) l)) ∧
            ∀ q v, (st.1.sp.getD q 0).testBit v = true ↔ (s.sp.getD q 0).testBit v = true ∨ ∃ l j, OutOf vars dn l ∧ l.getD i 0 ∈ pre ∧ dAcc os m (i + 1) (nodeAt os old (l.getD i 0)) l ∧ i ≤ j ∧ j < vars.length ∧ (vars.getD j 0).toNat = q ∧ l.getD j 0 = v)
          (cutStep (cutTo os vars dn m (i + 1)) os old (vars.getD i 0).toNat) (vals (dn.getD (vars.getD i 0).toNat 0)) [] (s, zero6)
          ⟨h, Pre.refl _, rfl, fun v hv => by
            have e : zero6.getD v 0 = 0 := by
              rcases v with _ | _ | _ | _ | _ | _ | v <;> first | rfl | omega
            show levOk s.ns m (zero6.getD v 0)
            rw [e]
            exact lev_zero s.ns m, fun v _ => by
            rcases v with _ | _ | _ | _ | _ | _ | v <;> rfl, fun v hv => (by cases hv), fun q v => ⟨.inl, fun h' => h'.elim id (by rintro ⟨l, j, _, h1, _⟩; cases h1)⟩⟩
          (fun p a st ha hst => by
            obtain ⟨k1, k2, k3, k4, k5, k6, k7⟩ := hst
            have hab := (vals_mem (hd _)).1 ha
            have ha6 : a < 6 := vals_lt6 (hd _) ha
            have ih := cutTo_sem os hz vars dn hV hd hne m (i + 1) (nodeAt os old a) st.1 (by omega) (hch a ha6) k1
            unfold cutStep
            generalize cutTo os vars dn m (i + 1) (nodeAt os old a) st.1 = X at ih
            have hself : (st.2.set a X.2).getD a 0 = X.2 := set_getD k3 ha6
            refine ⟨ih.sem.mark _ a X.2 hq8, k2.trans ih.pre, by simp [k3], fun v hv => ?_, fun v hv => ?_, fun v hv => ?_, fun q v => ?_⟩
            · show levOk X.1.ns m ((st.2.set a X.2).getD v 0)
              by_cases e : a = v
              · subst e
                rw [hself]
                exact ih.lev
              · rw [set_getD_ne e]
                exact ih.pre.lev (k4 v hv)
            · have hv2 : v ∉ p ∧ ¬ a = v := by
                constructor
                · exact fun hc => hv (List.mem_append_left _ hc)
                · rintro rfl
                  exact hv (by simp)
              show (st.2.set a X.2).getD v 0 = 0
              rw [set_getD_ne hv2.2]
              exact k5 v hv2.1
            · show v < 6 ∧ _ ∧ (∀ l, OutOf vars dn l → (dAcc X.1.ns m (i + 1) ((st.2.set a X.2).getD v 0) l ↔ dAcc os m (i + 1) (nodeAt os old v) l)) ∧ ((st.2.set a X.2).getD v 0 ≠ 0 → _)
              by_cases e : a = v
              · subst e
                rw [hself]
                exact ⟨ha6, hab, ih.acc, ih.ne⟩
              · rw [set_getD_ne e]
                have hv' : v ∈ p := by
                  rcases List.mem_append.1 hv with h | h
                  · exact h
                  · exact absurd (List.mem_singleton.1 h).symm e
                obtain ⟨q1, q2, q3, q4⟩ := k6 v hv'
                refine ⟨q1, q2, fun l hO => ?_, q4⟩
                rw [← dAcc_pre ih.pre l (hO.lt6 hd) m (i + 1) _ (k4 v q1)]
                exact q3 l hO
            · rw [show (((X.1.mark (vars.getD i 0).toNat a X.2, st.2.set a X.2) : CS × List Nat).1.sp.getD q 0).testBit v = ((X.1.mark (vars.getD i 0).toNat a X.2).sp.getD q 0).testBit v from rfl, mark_bit _ _ _ _ _ _ (by rw [ih.sem.sp8]; exact hq8), ih.sp q v, k7 q v]
              have mem : ∀ l : List Nat, l.getD i 0 ∈ p ++ [a] ↔ l.getD i 0 ∈ p ∨ l.getD i 0 = a := fun l => by simp
              constructor
              · rintro (((h' | ⟨l, j, a1, a2, a3, a4⟩) | ⟨l, j, a1, a2, a3, a4, a5, a6⟩) | ⟨h0, rfl, rfl⟩)
                · exact .inl h'
                · exact .inr ⟨l, j, a1, (mem l).2 (.inl a2), a3, a4⟩
                · refine .inr ⟨l.set i a, j, a1.set i a hab, (mem _).2 (.inr (set_getD a1.1 hi)), ?_, by omega, a4, a5, by rw [set_getD_ne (by omega)]; exact a6⟩
                  rw [set_getD a1.1 hi]
                  exact (dAcc_set os l i a m (i + 1) _ (by omega)).2 a2
                · obtain ⟨l, a1, a2⟩ := ih.ne h0
                  refine .inr ⟨l.set i a, i, a1.set i a hab, (mem _).2 (.inr (set_getD a1.1 hi)), ?_, Nat.le_refl _, hi, rfl, set_getD a1.1 hi⟩
                  rw [set_getD a1.1 hi]
                  exact (dAcc_set os l i a m (i + 1) _ (by omega)).2 a2
              · rintro (h' | ⟨l, j, a1, a2, a3, a4, a5, a6, a7⟩)
                · exact .inl (.inl (.inl h'))
                · rcases (mem l).1 a2 with a2 | a2
                  · exact .inl (.inl (.inr ⟨l, j, a1, a2, a3, a4, a5, a6, a7⟩))
                  · rw [a2] at a3
                    by_cases e : j = i
                    · subst e
                      refine .inr ⟨fun h0 => ?_, a6, by rw [← a2]; exact a7⟩
                      have := (ih.acc l a1).2 a3
                      rw [h0] at this
                      exact dAcc_zero _ _ _ _ this
                    · exact .inl (.inr ⟨l, j, a1, a3, by omega, a5, a6, a7⟩))
        rw [List.nil_append] at key
        generalize (vals (dn.getD (vars.getD i 0).toNat 0)).foldl (cutStep (cutTo os vars dn m (i + 1)) os old (vars.getD i 0).toNat) (s, zero6) = st at key
        obtain ⟨k1, k2, k3, k4, k5, k6, k7⟩ := key
        have hp := numberTo_pre st.1.ns st.2
        have hlv := numberTo_lev st.1.ns k1.lev.two st.2 m k4
        have acc : ∀ l, OutOf vars dn l → (dAcc (numberTo st.1.ns st.2).1 (m + 1) i (numberTo st.1.ns st.2).2 l ↔ dAcc os (m + 1) i old l) := by
          intro l hO
          rw [dAcc_number st.1.ns k1.lev.two st.2 m i l (hO.lt6 hd) k4, (k6 _ ((vals_mem (hd _)).2 (hO.2 i hi))).2.2.1 l hO]
          exact ⟨fun h => ⟨ho2, h⟩, fun h => h.2⟩
        have ne : (numberTo st.1.ns st.2).2 ≠ 0 → ∃ l, OutOf vars dn l ∧ dAcc os (m + 1) i old l := by
          intro h0
          have hnz : st.2 ≠ zero6 := by
            intro e
            apply h0
            unfold numberTo
            rw [if_pos e]
          obtain ⟨v, hv6, hv⟩ := nz_of6 st.2 k3 hnz
          have hmem : v ∈ vals (dn.getD (vars.getD i 0).toNat 0) := Classical.byContradiction fun hc => hv (k5 v hc)
          obtain ⟨_, hb, _, hx⟩ := k6 v hmem
          obtain ⟨l, a1, a2⟩ := hx hv
          refine ⟨l.set i v, a1.set i v hb, ho2, ?_⟩
          rw [set_getD a1.1 hi]
          exact (dAcc_set os l i v m (i + 1) _ (by omega)).2 a2
        have sp : ∀ q v, (st.1.sp.getD q 0).testBit v = true ↔ (s.sp.getD q 0).testBit v = true ∨ ∃ l j, OutOf vars dn l ∧ dAcc os (m + 1) i old l ∧ i ≤ j ∧ j < vars.length ∧ (vars.getD j 0).toNat = q ∧ l.getD j 0 = v := by
          intro q v
          rw [k7 q v]
          constructor
          · rintro (h' | ⟨l, j, a1, _, a3, a4⟩)
            · exact .inl h'
            · exact .inr ⟨l, j, a1, ⟨ho2, a3⟩, a4⟩
          · rintro (h' | ⟨l, j, a1, a3, a4⟩)
            · exact .inl h'
            · exact .inr ⟨l, j, a1, (vals_mem (hd _)).2 (a1.2 i hi), a3.2, a4⟩
        have lev : CLev os (st.1.put st.2 old).1 := by
          refine ⟨?_, numberTo_nz st.1.ns k1.lev.nz st.2 k3, ?_⟩
          · obtain ⟨ex, he⟩ := hp
            show 2 ≤ (numberTo st.1.ns st.2).1.length
            rw [he]
            have := k1.lev.two
            simp
            omega
          · intro k x hx m' hk2 hkl
            have hx' : (if k = old then some (numberTo st.1.ns st.2).2 else st.1.mv k) = some x := hx
            split at hx'
            · rename_i hko
              subst hko
              cases hx'
              rw [lev_uniq os hz m' (m + 1) k (by omega) hkl hlev']
              exact hlv
            · exact hp.lev (k1.lev.mv k x hx' m' hk2 hkl)
        refine ⟨⟨lev, k1.sp8, ?_⟩, k2.trans hp, hlv, acc, ne, sp⟩
        intro k x m' i' hx hk2 hkl hmi
        have hx' : (if k = old then some (numberTo st.1.ns st.2).2 else st.1.mv k) = some x := hx
        split at hx'
        · rename_i hko
          subst hko
          cases hx'
          have e := lev_uniq os hz m' (m + 1) k (by omega) hkl hlev'
          subst e
          have e2 : i' = i := by omega
          subst e2
          exact ⟨acc, ne, fun l j a1 a2 a3 a4 => (sp _ _).2 (.inr ⟨l, j, a1, a2, a3, a4, rfl, rfl⟩)⟩
        · obtain ⟨q1, q2, q3⟩ := k1.mv k x m' i' hx' hk2 hkl hmi
          refine ⟨fun l hO => ?_, q2, q3⟩
          show dAcc (numberTo st.1.ns st.2).1 m' i' x l ↔ _
          rw [← dAcc_pre hp l (hO.lt6 hd) m' i' x (k1.lev.mv k x hx' m' hk2 hkl)]
          exact q1 l hO
/-- A diagram accepts what the table allows, of lists out of the domains. -/
def DRep (vars : List Int) (rows : List (List Int)) (nt : Bool) (dn : List Nat) (os : List (List Nat)) (root : Nat) : Prop := ∀ l, OutOf vars dn l → (dAcc os vars.length 0 root l ↔ Allow rows nt l)
theorem s0_sem (os : List (List Nat)) (vars : List Int) (dn : List Nat) : CSem os vars dn s0 := ⟨s0_lev os, rfl, fun k x m i h => by cases h⟩
/-- Way 2: what Narrow leaves are the supported values. -/
theorem dDom_sem (vars : List Int) (rows : List (List Int)) (nt : Bool) (dn : List Nat) (os : List (List Nat)) (root : Nat) (h8 : dn.length = 8) (hV : VarsOk vars) (hd : ∀ q, dn.getD q 0 < 64) (hz : NZ os) (hl : levOk os vars.length root) (hR : DRep vars rows nt dn os root)
    (hne : ∃ l, OutOf vars dn l) (i v : Nat) (hi : i < vars.length) : ((dDom os root vars dn).getD (vars.getD i 0).toNat 0).testBit v = true ↔ Supp vars rows nt dn i v := by
  unfold dDom
  rw [replTo_get vars dn _ (fun k hk => by rw [h8]; exact hV.lt hk) _ _ (Nat.le_refl _), if_pos ⟨i, hi, rfl⟩]
  have h := cutTo_sem os hz vars dn hV hd hne vars.length 0 root s0 rfl hl (s0_sem os vars dn)
  unfold dCut
  rw [h.sp]
  have hz8 : s0.sp.getD (vars.getD i 0).toNat 0 = 0 := zero8_get _
  rw [hz8]
  constructor
  · rintro (h0 | ⟨l, k, a1, a2, _, a4, a5, a6⟩)
    · simp at h0
    · have e := hV.nat a4 hi a5
      subst e
      exact ⟨l, a1, a6, (hR l a1).1 a2⟩
  · rintro ⟨l, a1, a2, a3⟩
    exact .inr ⟨l, i, a1, (hR l a1).2 a3, Nat.zero_le _, hi, rfl, a2⟩
theorem dCut_rep (vars : List Int) (rows : List (List Int)) (nt : Bool) (dn : List Nat) (os : List (List Nat)) (root : Nat) (hV : VarsOk vars) (hd : ∀ q, dn.getD q 0 < 64) (hz : NZ os) (hl : levOk os vars.length root) (hR : DRep vars rows nt dn os root)
    (hne : ∃ l, OutOf vars dn l) : DRep vars rows nt dn (dCut os root vars dn).1.ns (dCut os root vars dn).2 := by
  intro l hO
  have h := cutTo_sem os hz vars dn hV hd hne vars.length 0 root s0 rfl hl (s0_sem os vars dn)
  unfold dCut
  rw [h.acc l hO]
  exact hR l hO
end Go.Proofs.Ytkjfpdfkcfgfkaa

/- What Narrow leaves, of tables of any kind; the closure. -/
namespace Go.Proofs.Ytkjfpdfkcfgfkaa

theorem Pre.zero {ns ns' : List (List Nat)} (h : Pre ns ns') (h0 : 0 < ns.length) : ns'.getD 0 [] = ns.getD 0 [] := by
  obtain ⟨t, rfl⟩ := h
  simp only [List.getD]
  rw [List.getElem?_append_left h0]
/-- A table as the document has it. -/
structure Tb where
  vars : List Int
  rows : List (List Int)
  nt : Bool
structure Tb.Ok (b : Tb) : Prop where
  vars : VarsOk b.vars
  rows : ∀ j, j < b.rows.length → (b.rows.getD j []).length = b.vars.length
  pos : 1 ≤ b.vars.length
/-- What is left of a table is right for domains. -/
def TRep (b : Tb) (dn : List Nat) : TS → Prop
  | .rs nt br live => nt = b.nt ∧ br = brTo b.rows b.rows.length ∧ RsRep b.vars b.rows dn live
  | .dg _ os root => NZ os ∧ levOk os b.vars.length root ∧ DRep b.vars b.rows b.nt dn os root ∧ os.getD 0 [] = zero6
/-- Domains as the program keeps them. -/
structure Dm (dn : List Nat) : Prop where
  len : dn.length = 8
  lt : ∀ q, dn.getD q 0 < 64
theorem SubD.refl (d : List Nat) : SubD d d := fun _ _ h => h
theorem SubD.trans {a b c : List Nat} (h : SubD a b) (k : SubD b c) : SubD a c := fun q v x => k q v (h q v x)
theorem OutOf.mono {vars : List Int} {d d' l : List Nat} (h : OutOf vars d l) (hs : SubD d d') : OutOf vars d' l := ⟨h.1, fun i hi => hs _ _ (h.2 i hi)⟩
theorem Supp.mono {vars : List Int} {rows : List (List Int)} {nt : Bool} {d d' : List Nat} {i v : Nat} (h : Supp vars rows nt d i v) (hs : SubD d d') : Supp vars rows nt d' i v := by
  obtain ⟨l, a1, a2, a3⟩ := h
  exact ⟨l, a1.mono hs, a2, a3⟩
theorem TRep.mono {b : Tb} {d d' : List Nat} {t : TS} (h : TRep b d' t) (hs : SubD d d') : TRep b d t := by
  cases t with
  | rs nt br live => exact ⟨h.1, h.2.1, h.2.2.1, fun j hj ⟨l, a1, a2⟩ => h.2.2.2 j hj ⟨l, a1.mono hs, a2⟩⟩
  | dg nv os root => exact ⟨h.1, h.2.1, fun l hO => h.2.2.1 l (hO.mono hs), h.2.2.2⟩
/-- What Narrow leaves of a table's variables are the supported values. -/
theorem tDom_sem {b : Tb} (hb : b.Ok) {dn : List Nat} (hd : Dm dn) {t : TS} (ht : TRep b dn t) (hne : ∃ l, OutOf b.vars dn l) (i v : Nat) (hi : i < b.vars.length) :
    ((tDom b.vars dn t).getD (b.vars.getD i 0).toNat 0).testBit v = true ↔ Supp b.vars b.rows b.nt dn i v := by
  cases t with
  | rs nt br live =>
    obtain ⟨rfl, rfl, hR⟩ := ht
    cases hn : b.nt with
    | false => exact nDom_sem b.vars b.rows dn live hd.len hb.vars hd.lt hb.rows hR i v hi
    | true => exact nDomN_sem b.vars b.rows dn live hd.len hb.vars hd.lt hb.rows hR hne i v hi
  | dg nv os root => exact dDom_sem b.vars b.rows b.nt dn os root hd.len hb.vars hd.lt ht.1 ht.2.1 ht.2.2.1 hne i v hi
/-- Of other variables nothing is taken. -/
theorem tDom_other {b : Tb} (hb : b.Ok) {dn : List Nat} (hd : Dm dn) (t : TS) (q : Nat) (hq : ∀ i, i < b.vars.length → (b.vars.getD i 0).toNat ≠ q) : (tDom b.vars dn t).getD q 0 = dn.getD q 0 := by
  have key : ∀ s, (replTo b.vars dn s b.vars.length).getD q 0 = dn.getD q 0 := fun s => by
    rw [replTo_get b.vars dn s (fun k hk => by rw [hd.len]; exact hb.vars.lt hk) q _ (Nat.le_refl _), if_neg]
    rintro ⟨i, hi, e⟩
    exact hq i hi e
  cases t with
  | rs nt br live =>
    cases nt with
    | false => exact key _
    | true => exact key _
  | dg nv os root => exact key _
theorem tDom_len {b : Tb} {dn : List Nat} (hd : Dm dn) (t : TS) : (tDom b.vars dn t).length = 8 := by
  have key : ∀ s, (replTo b.vars dn s b.vars.length).length = 8 := fun s => by rw [replTo_length]; exact hd.len
  cases t with
  | rs nt br live =>
    cases nt with
    | false => exact key _
    | true => exact key _
  | dg nv os root => exact key _
theorem tDom_sub {b : Tb} (hb : b.Ok) {dn : List Nat} (hd : Dm dn) {t : TS} (ht : TRep b dn t) (hne : ∃ l, OutOf b.vars dn l) : SubD (tDom b.vars dn t) dn := by
  intro q v h
  by_cases hq : ∃ i, i < b.vars.length ∧ (b.vars.getD i 0).toNat = q
  · obtain ⟨i, hi, rfl⟩ := hq
    obtain ⟨l, a1, rfl, _⟩ := (tDom_sem hb hd ht hne i v hi).1 h
    exact a1.2 i hi
  · rw [tDom_other hb hd t q (fun i hi e => hq ⟨i, hi, e⟩)] at h
    exact h
theorem subD_lt {d d' : List Nat} (h : SubD d d') {q : Nat} (hl : d'.getD q 0 < 64) : d.getD q 0 < 64 := by
  apply Nat.lt_pow_two_of_testBit (n := 6)
  intro i hi
  cases hb : (d.getD q 0).testBit i with
  | false => rfl
  | true => exact absurd (bit_lt6 hl (h q i hb)) (by omega)
theorem tDom_dm {b : Tb} (hb : b.Ok) {dn : List Nat} (hd : Dm dn) {t : TS} (ht : TRep b dn t) (hne : ∃ l, OutOf b.vars dn l) : Dm (tDom b.vars dn t) := ⟨tDom_len hd t, fun q => subD_lt (tDom_sub hb hd ht hne) (hd.lt q)⟩
/-- A table supports all of domains. -/
def SuppAll (b : Tb) (d : List Nat) : Prop := ∀ i v, i < b.vars.length → (d.getD (b.vars.getD i 0).toNat 0).testBit v = true → Supp b.vars b.rows b.nt d i v
/-- What a table leaves it supports. -/
theorem tDom_supp {b : Tb} (hb : b.Ok) {dn : List Nat} (hd : Dm dn) {t : TS} (ht : TRep b dn t) (hne : ∃ l, OutOf b.vars dn l) : SuppAll b (tDom b.vars dn t) := by
  intro i v hi h
  obtain ⟨l, a1, a2, a3⟩ := (tDom_sem hb hd ht hne i v hi).1 h
  exact ⟨l, ⟨a1.1, fun j hj => (tDom_sem hb hd ht hne j _ hj).2 ⟨l, a1, rfl, a3⟩⟩, a2, a3⟩
/-- Nothing is taken that may stay. -/
theorem tDom_most {b : Tb} (hb : b.Ok) {dn : List Nat} (hd : Dm dn) {t : TS} (ht : TRep b dn t) (hne : ∃ l, OutOf b.vars dn l) {d : List Nat} (hs : SubD d dn) (hd' : SuppAll b d) : SubD d (tDom b.vars dn t) := by
  intro q v h
  by_cases hq : ∃ i, i < b.vars.length ∧ (b.vars.getD i 0).toNat = q
  · obtain ⟨i, hi, rfl⟩ := hq
    exact (tDom_sem hb hd ht hne i v hi).2 ((hd' i v hi h).mono hs)
  · rw [tDom_other hb hd t q (fun i hi e => hq ⟨i, hi, e⟩)]
    exact hs q v h
/-- A table none of whose variables has another domain supports them still. -/
theorem SuppAll.same {b : Tb} {d d' : List Nat} (h : SuppAll b d) (he : ∀ i, i < b.vars.length → d'.getD (b.vars.getD i 0).toNat 0 = d.getD (b.vars.getD i 0).toNat 0) : SuppAll b d' := by
  intro i v hi hv
  rw [he i hi] at hv
  obtain ⟨l, a1, a2, a3⟩ := h i v hi hv
  exact ⟨l, ⟨a1.1, fun j hj => by rw [he j hj]; exact a1.2 j hj⟩, a2, a3⟩
theorem next_rep {b : Tb} (hb : b.Ok) {dn : List Nat} (hd : Dm dn) {t t' : TS} (ht : TRep b dn t) (hne : ∃ l, OutOf b.vars dn l) (h : TS.Next b.vars dn t t') : TRep b dn t' := by
  cases t with
  | rs nt br live =>
    obtain rfl := h
    obtain ⟨rfl, rfl, hR⟩ := ht
    exact ⟨rfl, rfl, nLive_rep b.vars b.rows dn live hb.vars.four hd.lt hb.rows hR⟩
  | dg nv os root =>
    obtain ⟨nv', rfl⟩ := h
    have h1 := dCut_lev os root b.vars dn ht.1 hd.lt hb.vars.four ht.2.1
    exact ⟨h1.2.2, h1.2.1, dCut_rep b.vars b.rows b.nt dn os root hb.vars hd.lt ht.1 ht.2.1 ht.2.2.1 hne, (cutTo_lev os ht.1 b.vars dn hd.lt b.vars.length 0 root s0 ht.2.1 (s0_lev os)).1.zero (by decide)⟩
theorem mem_getD {rows : List (List Int)} {r : List Int} : r ∈ rows ↔ ∃ j, j < rows.length ∧ rows.getD j [] = r := by
  constructor
  · intro h
    obtain ⟨j, hj, e⟩ := List.getElem_of_mem h
    exact ⟨j, hj, by simp [List.getD, hj, e]⟩
  · rintro ⟨j, hj, e⟩
    have e2 : rows.getD j [] = rows[j] := by simp [List.getD, hj]
    rw [← e, e2]
    exact List.getElem_mem hj
theorem made_rep {b : Tb} (_hb : b.Ok) {dn : List Nat} (hd : Dm dn) {way : Int} {t : TS} (h : TS.Made b.vars b.rows b.nt dn way t) : TRep b dn t := by
  have two : (∃ nv, t = .dg nv (bldTo b.vars b.nt dn b.vars.length 0 b.rows [zero6, zero6]).1 (bldTo b.vars b.nt dn b.vars.length 0 b.rows [zero6, zero6]).2) → TRep b dn t := by
    rintro ⟨nv, rfl⟩
    refine ⟨bldTo_nz _ _ _ _ _ _ _ (fun k h2 hk => absurd hk (by show ¬ k < 2; omega)), (bldTo_lev b.vars b.nt dn b.vars.length 0 b.rows [zero6, zero6] (by decide)).2, fun l hO => ?_, (bldTo_lev b.vars b.nt dn b.vars.length 0 b.rows [zero6, zero6] (by decide)).1.zero (by decide)⟩
    rw [bldTo_acc b.vars b.nt dn hd.lt l hO b.vars.length 0 b.rows [zero6, zero6] rfl (by decide)]
    have key : ∀ r : List Int, (∀ k, 0 ≤ k → k < b.vars.length → bearsB (r.getD k 0) (l.getD k 0) = true) ↔ Covers r l := fun r =>
      ⟨fun h k hk => h k (Nat.zero_le _) (by rw [← hO.1]; exact hk), fun h k _ hk => h k (by rw [hO.1]; exact hk)⟩
    unfold AllowFrom Allow
    split
    · constructor
      · intro h j hj hc
        exact h _ (mem_getD.2 ⟨j, hj, rfl⟩) ((key _).2 hc)
      · intro h r hr hc
        obtain ⟨j, hj, rfl⟩ := mem_getD.1 hr
        exact h j hj ((key _).1 hc)
    · constructor
      · rintro ⟨r, hr, hc⟩
        obtain ⟨j, hj, rfl⟩ := mem_getD.1 hr
        exact ⟨j, hj, (key _).1 hc⟩
      · rintro ⟨j, hj, hc⟩
        exact ⟨_, mem_getD.2 ⟨j, hj, rfl⟩, (key _).2 hc⟩
  unfold TS.Made at h
  split at h
  · subst h
    refine ⟨rfl, rfl, fun j hj => ?_, fun j hj _ => ?_⟩
    · rw [Nat.testBit_two_pow_sub_one, decide_eq_true_eq] at hj
      exact hj
    · rw [Nat.testBit_two_pow_sub_one, decide_eq_true_eq]
      exact hj
  · exact two h

/-- No domain of the first n variables is empty. -/
def Full (n : Nat) (d : List Nat) : Prop := ∀ q, q < n → d.getD q 0 ≠ 0
/-- The closure of domains: the most that all tables support; or nothing, if a domain is emptied. -/
structure Closure (n : Nat) (bs : List Tb) (dn dn' : List Nat) : Prop where
  full : Full n dn' → SubD dn' dn ∧ (∀ b ∈ bs, SuppAll b dn') ∧ ∀ d, SubD d dn → (∀ b ∈ bs, SuppAll b d) → SubD d dn'
  none : ¬ Full n dn' → dn' = zero8 ∧ ∀ d, SubD d dn → (∀ b ∈ bs, SuppAll b d) → ¬ Full n d
theorem SubD.eq {a b : List Nat} (ha : Dm a) (hb : Dm b) (h1 : SubD a b) (h2 : SubD b a) : a = b := by
  refine List.ext_getElem (by rw [ha.len, hb.len]) fun q hq hq' => ?_
  have e : a.getD q 0 = b.getD q 0 := by
    apply Nat.eq_of_testBit_eq
    intro v
    cases h : (a.getD q 0).testBit v with
    | true => exact (h1 q v h).symm
    | false =>
      cases h' : (b.getD q 0).testBit v with
      | false => rfl
      | true => rw [h2 q v h'] at h; cases h
  simpa [List.getD, hq, hq'] using e
/-- There is one closure. -/
theorem Closure.one {n : Nat} {bs : List Tb} {dn a b : List Nat} (ha : Dm a) (hb : Dm b) (h : Closure n bs dn a) (k : Closure n bs dn b) : a = b := by
  by_cases fa : Full n a
  · by_cases fb : Full n b
    · obtain ⟨a1, a2, a3⟩ := h.full fa
      obtain ⟨b1, b2, b3⟩ := k.full fb
      exact SubD.eq ha hb (b3 a a1 a2) (a3 b b1 b2)
    · obtain ⟨a1, a2, a3⟩ := h.full fa
      exact absurd fa ((k.none fb).2 a a1 a2)
  · by_cases fb : Full n b
    · obtain ⟨b1, b2, b3⟩ := k.full fb
      exact absurd fb ((h.none fa).2 b b1 b2)
    · rw [(h.none fa).1, (k.none fb).1]
end Go.Proofs.Ytkjfpdfkcfgfkaa

/- wake over tables of any kind. -/
namespace Go.Proofs.Ytkjfpdfkcfgfkaa
open Go.RowKit

/-- A table of a Work: where it lies, and what is left of it. -/
structure Tab where
  G : Nat
  g : Nat
  cap : Nat
  vars : List Int
  t : TS
def Tab.val (x : Tab) : Value := .iface x.t.ty (.pointer (some ⟨x.G, 0, none⟩))
def tab0 : Tab := ⟨0, 0, 0, [], .rs false [] 0⟩
/-- The tables of a Work, in memory. -/
structure TabsAt (w : World) (so : Option Addr) (tcap : Nat) (ts : List Tab) : Prop where
  row : Row w (.slice so ts.length tcap) 93 (ts.map Tab.val)
  at_ : ∀ i, i < ts.length → TAt w (ts.getD i tab0).G (ts.getD i tab0).g (ts.getD i tab0).cap (ts.getD i tab0).vars (ts.getD i tab0).t
  four : ∀ i, i < ts.length → (ts.getD i tab0).vars.length ≤ 4
  ok : ∀ i, i < ts.length → ∀ k, k < (ts.getD i tab0).vars.length → 0 ≤ (ts.getD i tab0).vars.getD k 0 ∧ (ts.getD i tab0).vars.getD k 0 < 8
def mksV (m : List Bool) : Array Value := (m.map Value.bool).toArray
/-- The marks when wake has asked k tables. -/
def wakeTo (ts : List Tab) (a b : List Nat) (m : List Bool) : Nat → List Bool
  | 0 => m
  | k + 1 => if changedB (ts.getD k tab0).vars a b (ts.getD k tab0).vars.length then (wakeTo ts a b m k).set k true else wakeTo ts a b m k
theorem wakeTo_length (ts : List Tab) (a b : List Nat) (m : List Bool) : ∀ k, (wakeTo ts a b m k).length = m.length
  | 0 => rfl
  | k + 1 => by
    simp only [wakeTo]
    split
    · simp [wakeTo_length ts a b m k]
    · exact wakeTo_length ts a b m k
theorem TS.meth_changed (t : TS) (G : Nat) (v : Value) (W : World) (h : W.cell? ⟨G, 0, none⟩ = some v) : (method 286 t.ty (.pointer (some ⟨G, 0, none⟩)) "Changed").run Try.prog W = .ok (105, .agg #[v]) W := by
  cases t with
  | rs nt br live => exact Go.Proofs.Ytkjfpdfkcfgfkaa.meth_changed G v W h
  | dg nv os root => exact meth_dchanged G v W h
theorem TAt.vars {w : World} {G g cap : Nat} {vs : List Int} {t : TS} (h : TAt w G g cap vs t) : w.cell? ⟨G, 0, none⟩ = some (.slice (some ⟨g, 0, none⟩) vs.length cap) ∧ IntsAt w (some ⟨g, 0, none⟩) vs := by
  cases t with
  | rs nt br live => exact ⟨h.1.cell 0, h.2.1.ints⟩
  | dg nv os root => exact ⟨h.1.blk.cell 0, h.1.rv.ints⟩

set_option maxHeartbeats 1600000 in
set_option maxRecDepth 1000000 in
theorem wake_any (X M : Nat) (so : Option Addr) (tcap : Nat) (szv : Value) (d : List Nat) (l : Rest) (ts : List Tab) (a b : List Nat) (m : List Bool) (w : World)
    (hX : Blk w X (workCells szv d (.slice so ts.length tcap) l) 82) (hd8 : d.length = 8) (ht : TabsAt w so tcap ts) (h12 : ts.length ≤ 12) (hm : m.length = 12)
    (hnM : ∀ i, i < ts.length → (ts.getD i tab0).G ≠ M ∧ (ts.getD i tab0).g ≠ M) (hsM : ∀ o, so = some o → o.block ≠ M)
    (ha : a.length = 8) (hb : b.length = 8) (hM : Blk w M (mksV m) 91) :
    Calls Try.prog 56 #[.pointer (some ⟨X, 0, none⟩), .pointer (some ⟨M, 0, none⟩), .agg (domV a), .agg (domV b)] w fun e w' => e = .returned (.tuple #[]) ∧ Fr (fun k => k = M) w w' ∧
      Blk w' M (mksV (wakeTo ts a b m ts.length)) 91 := by
  obtain ⟨a0, a1, a2, a3, a4, a5, a6, a7, hav⟩ := domV8 ha
  obtain ⟨b0, b1, b2, b3, b4, b5, b6, b7, hbv⟩ := domV8 hb
  obtain ⟨W, hW⟩ : ∃ W, W = (w.alloc (.cells (domV a) 76)).alloc (.cells (domV b) 76) := ⟨_, rfl⟩
  have hfW : Nw w W := by rw [hW]; exact ((Fr.refl _ w).alloc _).alloc _
  have hbA : Blk W w.heap.size (domV a) 76 := by rw [hW]; exact (Blk.new _ _ _).alloc _
  have hbB : Blk W (w.heap.size + 1) (domV b) 76 := by
    rw [hW]
    have := Blk.new (w.alloc (.cells (domV a) 76)) (domV b) 76
    simpa using this
  have hct : W.cell? ⟨X, 9, none⟩ = some (.slice so ts.length tcap) := ((hX.nw hfW).cell 9).trans (workCells_tabs _ _ _ _ hd8)
  have HW := hd hW
  have Hav := hd hav
  have Hbv := hd hbv
  have HbA := hd hbA
  have HbB := hd hbB
  clear hav hbv hbA hbB hW
  go_enter Try.func56, Try.ntmps56
  go_upto_region 1 with fail
  rw [← HW.out]
  go_wp2_with fail
  have HtW : Hid (TabsAt w so tcap ts) := ht
  have hMlt := hM.lt
  have HMW := hd (hM.nw hfW)
  have HfW := hd hfW
  clear ht hM hX hfW
  go_loopw [15] (fun i wr => ∃ k : Nat, k ≤ ts.length ∧ i = .int .i64 k ∧ Hid (Fr (fun k => k = M) W wr) ∧ Hid (Blk wr M (mksV (wakeTo ts a b m k)) 91)) (fun i _ => ts.length - (intOf i).toNat)
  case atStart => exact ⟨0, Nat.zero_le _, rfl, Fr.refl _ _, HMW.out⟩
  case round =>
    obtain ⟨k, hk, rfl, HF, HB⟩ := hrel
    by_cases hlt : k < ts.length
    · have hFw : Fr (fun k => k = M) w wr := (HfW.out.mono (S' := fun k => k = M) (fun i h => h.elim)).trans HF.out (fun i h => .inl h)
      have hr := HtW.out.row.fr hFw (fun j hj => by
        cases so with
        | none => cases hj
        | some o => cases hj; exact hsM o rfl)
      obtain ⟨tb, tc, hso, _, hck, _⟩ := hr.cell k (by simpa using hlt)
      have hso' : so = some ⟨tb, 0, none⟩ := by simp at hso; exact hso.1
      subst hso'
      obtain ⟨x, hx⟩ : ∃ x, ts.getD k tab0 = x := ⟨_, rfl⟩
      have hxk : ts[k] = x := by rw [← hx]; simp [List.getD, hlt]
      have hat := HtW.out.at_ k hlt
      have h4 := HtW.out.four k hlt
      have hok := HtW.out.ok k hlt
      have hn := hnM k hlt
      have hstep : wakeTo ts a b m (k + 1) = if changedB x.vars a b x.vars.length then (wakeTo ts a b m k).set k true else wakeTo ts a b m k := by simp only [wakeTo, hx]
      rw [hx] at hat h4 hok hn
      have hGlt := hat.lt (.inl rfl)
      have hglt := hat.lt (.inr (.inl rfl))
      have hcG : wr.cell? ⟨x.G, 0, none⟩ = some (.slice (some ⟨x.g, 0, none⟩) x.vars.length x.cap) := (hFw.cell hGlt hn.1).trans hat.vars.1
      have HvI : Hid (IntsAt wr (some ⟨x.g, 0, none⟩) x.vars) := hat.vars.2.fr hFw (fun b o e => by cases e; exact hn.2)
      have hcT : wr.cell? ⟨tb, k, none⟩ = some (.iface x.t.ty (.pointer (some ⟨x.G, 0, none⟩))) := by
        rw [hck]
        simp only [List.getElem_map, hxk]
        rfl
      have hmc := TS.meth_changed x.t x.G _ wr hcG
      have hwM : w.heap.size ≠ M ∧ w.heap.size + 1 ≠ M := by omega
      obtain ⟨c0, c1, c2, c3, c4, c5, c6, c7⟩ := cells8 (Hav.out ▸ (HbA.out.fr HF.out hwM.1))
      obtain ⟨e0, e1, e2, e3, e4, e5, e6, e7⟩ := cells8 (Hbv.out ▸ (HbB.out.fr HF.out hwM.2))
      obtain ⟨ty, hty⟩ : ∃ ty, x.t.ty = ty := ⟨_, rfl⟩
      rw [hty] at hcT hmc
      have Hstep := hd hstep
      have Hok := hd hok
      have Hx := hd hx
      clear hr hso hck hstep hat hok hn hwM hxk hnM hsM hx
      go_wp2_with fail
      rw [← Hav.out, ← Hbv.out]
      refine (changed_any (some ⟨x.g, 0, none⟩) x.cap x.vars a b _ h4 Hok.out HvI.out ha hb).mono ?_
      have hl12 : (wakeTo ts a b m k).length = 12 := by rw [wakeTo_length]; exact hm
      have hk12 : k < 12 := by omega
      cases hch : changedB x.vars a b x.vars.length with
      | true =>
        rw [hch] at Hstep
        have Hl12 := hd hl12
        rintro e w1 ⟨rfl, hf1⟩
        have hM1 := HB.out.nw hf1
        have hcM1 : ∃ v, w1.cell? ⟨M, k, none⟩ = some v := ⟨_, (hM1.cell k).trans (Array.getElem?_eq_getElem (by simp [mksV, hl12]; omega))⟩
        obtain ⟨v, hcM1⟩ := hcM1
        have hfM1 := hM1.free k
        have HM1 := hd hM1
        have Hf1 := hd hf1
        clear hch hM1 hf1 hl12 c0 c1 c2 c3 c4 c5 c6 c7 e0 e1 e2 e3 e4 e5 e6 e7 hct hcT hcG hmc hFw
        go_wp2
        refine ⟨⟨k + 1, by omega, by go_num, ?_, ?_⟩, by simp [intOf]; omega⟩
        · exact ((HF.out.trans Hf1.out (fun i h => h.elim)).setCell ⟨M, k, none⟩ (.bool true) (.inl rfl))
        · show Blk _ M _ _
          have h5 := HM1.out.set k (.bool true)
          have e6 : mksV (wakeTo ts a b m (k + 1)) = (mksV (wakeTo ts a b m k)).setIfInBounds k (.bool true) := by
            rw [Hstep.out, if_pos trivial]
            simp [mksV, List.map_set]
          rw [e6]
          exact h5
      | false =>
        rw [hch] at Hstep
        rintro e w1 ⟨rfl, hf1⟩
        have HM1 := hd (HB.out.nw hf1)
        have Hf1 := hd hf1
        clear hch hf1 hl12 c0 c1 c2 c3 c4 c5 c6 c7 e0 e1 e2 e3 e4 e5 e6 e7 hct hcT hcG hmc hFw
        go_wp2
        refine ⟨⟨k + 1, by omega, by go_num, HF.out.trans Hf1.out (fun i h => h.elim), ?_⟩, by simp [intOf]; omega⟩
        show Blk _ M _ _
        rw [Hstep.out, if_neg (by simp)]
        exact HM1.out
    · obtain rfl : k = ts.length := by omega
      go_wp2
      go_end0
      exact ⟨rfl, (HfW.out.mono (S' := fun k => k = M) (fun i h => h.elim)).trans HF.out (fun i h => .inl h), HB.out⟩
end Go.Proofs.Ytkjfpdfkcfgfkaa

/- settle's rounds, in the document's words. -/
namespace Go.Proofs.Ytkjfpdfkcfgfkaa

def tb0 : Tb := ⟨[], [], false⟩
/-- A table of the document, and what is left of it in the program. -/
def Fits (bs : List Tb) (ts : List Tab) : Prop := ts.length = bs.length ∧ ∀ k, k < bs.length → (ts.getD k tab0).vars = (bs.getD k tb0).vars
/-- Between two rounds of settle. -/
structure SInv (bs : List Tb) (ts : List Tab) (m : List Bool) (start next : List Nat) : Prop where
  dm : Dm next
  sub : SubD next start
  most : ∀ d, SubD d start → (∀ b ∈ bs, SuppAll b d) → SubD d next
  quiet : ∀ k, k < bs.length → m.getD k false = false → SuppAll (bs.getD k tb0) next
  rep : ∀ k, k < bs.length → TRep (bs.getD k tb0) next (ts.getD k tab0).t
/-- Tables are ones of n variables. -/
def TbsOk (n : Nat) (bs : List Tb) : Prop := ∀ k, k < bs.length → (bs.getD k tb0).Ok ∧ ∀ i, i < (bs.getD k tb0).vars.length → ((bs.getD k tb0).vars.getD i 0).toNat < n
theorem full_out {n : Nat} {d : List Nat} (h : Full n d) {vars : List Int} (hv : ∀ i, i < vars.length → (vars.getD i 0).toNat < n) : ∃ l, OutOf vars d l := by
  obtain ⟨l, hl, _⟩ := outOf_choose vars d (fun _ _ => True) (fun i hi => by
    obtain ⟨v, hv⟩ := ne_zero_bit (h _ (hv i hi))
    exact ⟨v, hv, trivial⟩)
  exact ⟨l, hl⟩
theorem changed_same {vars : List Int} {a b : List Nat} (h : changedB vars a b vars.length = false) : ∀ i, i < vars.length → b.getD (vars.getD i 0).toNat 0 = a.getD (vars.getD i 0).toNat 0 := by
  intro i hi
  refine Classical.byContradiction fun hc => ?_
  have : changedB vars a b vars.length = true := by
    simp only [changedB, List.any_eq_true, List.mem_range]
    exact ⟨i, hi, by simpa using fun e => hc e.symm⟩
  rw [this] at h
  cases h
theorem getD_setB (l : List Bool) (q p : Nat) (x : Bool) : (l.set q x).getD p false = if q = p ∧ q < l.length then x else l.getD p false := by
  simp only [List.getD, List.getElem?_set]
  by_cases h : q = p
  · subst h
    by_cases h2 : q < l.length
    · simp [h2]
    · simp [h2]
  · simp [h]
theorem wakeTo_get (ts : List Tab) (a b : List Nat) (m : List Bool) (hm : ts.length ≤ m.length) (p : Nat) : ∀ k, k ≤ ts.length → ((wakeTo ts a b m k).getD p false = true ↔ m.getD p false = true ∨ (p < k ∧ changedB (ts.getD p tab0).vars a b (ts.getD p tab0).vars.length = true))
  | 0, _ => by simp [wakeTo]
  | k + 1, hk => by
    have ih := wakeTo_get ts a b m hm p k (by omega)
    simp only [wakeTo]
    split
    · rename_i hc
      rw [getD_setB, wakeTo_length]
      by_cases h : k = p
      · subst h
        rw [if_pos ⟨rfl, by omega⟩]
        exact ⟨fun _ => .inr ⟨by omega, hc⟩, fun _ => rfl⟩
      · rw [if_neg (fun e => h e.1), ih]
        constructor
        · rintro (h1 | ⟨h1, h2⟩)
          · exact .inl h1
          · exact .inr ⟨by omega, h2⟩
        · rintro (h1 | ⟨h1, h2⟩)
          · exact .inl h1
          · exact .inr ⟨by omega, h2⟩
    · rename_i hc
      rw [ih]
      constructor
      · rintro (h1 | ⟨h1, h2⟩)
        · exact .inl h1
        · exact .inr ⟨by omega, h2⟩
      · rintro (h1 | ⟨h1, h2⟩)
        · exact .inl h1
        · by_cases h : p = k
          · subst h
            exact absurd h2 hc
          · exact .inr ⟨by omega, h2⟩
theorem getD_mem {bs : List Tb} {k : Nat} (hk : k < bs.length) : bs.getD k tb0 ∈ bs := by
  have e : bs.getD k tb0 = bs[k] := by simp [List.getD, hk]
  rw [e]
  exact List.getElem_mem hk
/-- A round. -/
theorem SInv.step {n : Nat} {bs : List Tb} {ts : List Tab} {m : List Bool} {start next : List Nat} (h : SInv bs ts m start next) (hb : TbsOk n bs) (hf : Fits bs ts) (hm : bs.length ≤ m.length) (hfull : Full n next) {k : Nat} (hk : k < bs.length) {t' : TS}
    (hn : TS.Next (ts.getD k tab0).vars next (ts.getD k tab0).t t') :
    SInv bs (ts.set k { ts.getD k tab0 with t := t' }) ((wakeTo ts next (tDom (ts.getD k tab0).vars next (ts.getD k tab0).t) m ts.length).set k false) start (tDom (ts.getD k tab0).vars next (ts.getD k tab0).t) := by
  have hv := hf.2 k hk
  rw [hv] at hn ⊢
  obtain ⟨hok, hvn⟩ := hb k hk
  have hne := full_out hfull hvn
  have hrep := h.rep k hk
  have hsub := tDom_sub hok h.dm hrep hne
  refine ⟨tDom_dm hok h.dm hrep hne, hsub.trans h.sub, fun d hd hs => tDom_most hok h.dm hrep hne (h.most d hd hs) (hs _ (getD_mem hk)), fun j hj hq => ?_, fun j hj => ?_⟩
  · by_cases e : k = j
    · subst e
      exact tDom_supp hok h.dm hrep hne
    · rw [getD_setB, if_neg (fun x => e x.1)] at hq
      have hw := wakeTo_get ts next (tDom (bs.getD k tb0).vars next (ts.getD k tab0).t) m (by rw [hf.1]; exact hm) j ts.length (Nat.le_refl _)
      have h1 : m.getD j false = false := by
        cases hx : m.getD j false with
        | false => rfl
        | true => rw [hw.2 (.inl hx)] at hq; cases hq
      have h2 : changedB (bs.getD j tb0).vars next (tDom (bs.getD k tb0).vars next (ts.getD k tab0).t) (bs.getD j tb0).vars.length = false := by
        cases hx : changedB (bs.getD j tb0).vars next (tDom (bs.getD k tb0).vars next (ts.getD k tab0).t) (bs.getD j tb0).vars.length with
        | false => rfl
        | true =>
          rw [← hf.2 j hj] at hx
          rw [hw.2 (.inr ⟨by rw [hf.1]; exact hj, hx⟩)] at hq
          cases hq
      exact (h.quiet j hj h1).same (changed_same h2)
  · by_cases e : k = j
    · subst e
      have e2 : ((ts.set k { ts.getD k tab0 with t := t' }).getD k tab0).t = t' := by
        have : k < ts.length := by rw [hf.1]; exact hk
        simp [List.getD, this]
      rw [e2]
      exact (next_rep hok h.dm hrep hne hn).mono hsub
    · have e2 : (ts.set k { ts.getD k tab0 with t := t' }).getD j tab0 = ts.getD j tab0 := by simp [List.getD, e]
      rw [e2]
      exact (h.rep j hj).mono hsub
/-- Nothing waits: it is the closure. -/
theorem SInv.done {n : Nat} {bs : List Tb} {ts : List Tab} {m : List Bool} {start next : List Nat} (h : SInv bs ts m start next) (hfull : Full n next) (hq : ∀ k, k < bs.length → m.getD k false = false) : Closure n bs start next := by
  refine ⟨fun _ => ⟨h.sub, fun b hb => ?_, h.most⟩, fun hc => absurd hfull hc⟩
  obtain ⟨k, hk, e⟩ := List.getElem_of_mem hb
  have e2 : bs.getD k tb0 = b := by simp [List.getD, hk, e]
  rw [← e2]
  exact h.quiet k hk (hq k hk)
/-- A domain is emptied: so are all. -/
theorem SInv.dead {n : Nat} {bs : List Tb} {ts : List Tab} {m : List Bool} {start next : List Nat} (h : SInv bs ts m start next) (hn : 0 < n) (hfull : ¬ Full n next) : Closure n bs start zero8 := by
  refine ⟨fun hc => absurd (zero8_get 0) (hc 0 hn), fun _ => ⟨rfl, fun d hd hs hd2 => hfull fun q hq e => ?_⟩⟩
  obtain ⟨v, hv⟩ := ne_zero_bit (hd2 q hq)
  have := h.most d hd hs q v hv
  rw [e] at this
  simp at this
end Go.Proofs.Ytkjfpdfkcfgfkaa

/- settle comes to an end: values and marks get fewer. -/
namespace Go.Proofs.Ytkjfpdfkcfgfkaa

/-- How many values there are. -/
def bitsOf (d : List Nat) : Nat := ((List.range 8).map (fun q => (vals (d.getD q 0)).length)).foldl (· + ·) 0
def marksOf (m : List Bool) : Nat := m.count true
theorem sum_lt (f g : Nat → Nat) : ∀ (l : List Nat) (a b : Nat), (∀ q ∈ l, f q ≤ g q) → a ≤ b → (∃ q ∈ l, f q < g q) → (l.map f).foldl (· + ·) a < (l.map g).foldl (· + ·) b
  | [], _, _, _, _, h => by
    obtain ⟨q, hq, _⟩ := h
    cases hq
  | q :: l, a, b, h, hab, hx => by
    obtain ⟨p, hp, hlt⟩ := hx
    rcases List.mem_cons.1 hp with rfl | hp
    · have key : ∀ (l : List Nat) (a b : Nat), (∀ q ∈ l, f q ≤ g q) → a < b → (l.map f).foldl (· + ·) a < (l.map g).foldl (· + ·) b := by
        intro l
        induction l with
        | nil => intro a b _ h; exact h
        | cons q l ih =>
          intro a b h hab
          have := h q (List.mem_cons_self ..)
          exact ih (a + f q) (b + g q) (fun p hp => h p (List.mem_cons_of_mem _ hp)) (by omega)
      exact key l (a + f p) (b + g p) (fun q hq => h q (List.mem_cons_of_mem _ hq)) (by omega)
    · exact sum_lt f g l (a + f q) (b + g q) (fun p hp => h p (List.mem_cons_of_mem _ hp)) (Nat.add_le_add hab (h q (List.mem_cons_self ..))) ⟨p, hp, hlt⟩
theorem filter_le {p r : Nat → Bool} (h : ∀ x, p x = true → r x = true) : ∀ l : List Nat, (l.filter p).length ≤ (l.filter r).length
  | [] => Nat.le_refl _
  | x :: l => by
    have ih := filter_le h l
    by_cases hp : p x = true
    · rw [List.filter_cons_of_pos hp, List.filter_cons_of_pos (h x hp)]
      simp
      exact ih
    · rw [List.filter_cons_of_neg hp]
      by_cases hr : r x = true
      · rw [List.filter_cons_of_pos hr]
        simp
        omega
      · rw [List.filter_cons_of_neg hr]
        exact ih
theorem filter_lt {p r : Nat → Bool} (h : ∀ x, p x = true → r x = true) : ∀ l : List Nat, (∃ x ∈ l, r x = true ∧ p x = false) → (l.filter p).length < (l.filter r).length
  | [], hx => by
    obtain ⟨x, hx, _⟩ := hx
    cases hx
  | x :: l, hx => by
    obtain ⟨y, hy, hr, hp⟩ := hx
    rcases List.mem_cons.1 hy with rfl | hy
    · rw [List.filter_cons_of_pos hr, List.filter_cons_of_neg (by rw [hp]; simp)]
      have := filter_le h l
      simp
      omega
    · have ih := filter_lt h l ⟨y, hy, hr, hp⟩
      by_cases hpx : p x = true
      · rw [List.filter_cons_of_pos hpx, List.filter_cons_of_pos (h x hpx)]
        simp
        exact ih
      · rw [List.filter_cons_of_neg hpx]
        by_cases hrx : r x = true
        · rw [List.filter_cons_of_pos hrx]
          simp
          omega
        · rw [List.filter_cons_of_neg hrx]
          exact ih
theorem bits_lt {a b : List Nat} (ha : Dm a) (hb : Dm b) (h : SubD a b) (hne : a ≠ b) : bitsOf a < bitsOf b := by
  obtain ⟨q, v, hv, hn⟩ : ∃ q v, (b.getD q 0).testBit v = true ∧ (a.getD q 0).testBit v = false := by
    refine Classical.byContradiction fun hc => hne (SubD.eq ha hb h fun q v hv => ?_)
    cases hx : (a.getD q 0).testBit v with
    | true => rfl
    | false => exact absurd ⟨q, v, hv, hx⟩ hc
  have hq : q < 8 := by
    refine Classical.byContradiction fun hc => ?_
    have : b.getD q 0 = 0 := by
      have h1 : b.length ≤ q := by rw [hb.len]; omega
      simp [List.getD, List.getElem?_eq_none h1]
    rw [this] at hv
    simp at hv
  have hv8 : v < 8 := by
    have := bit_lt6 (hb.lt q) hv
    omega
  exact sum_lt _ _ _ 0 0 (fun q _ => filter_le (fun v hv => h q v hv) _) (Nat.le_refl _) ⟨q, List.mem_range.2 hq, filter_lt (fun v hv => h q v hv) _ ⟨v, List.mem_range.2 hv8, hv, hn⟩⟩
theorem wakeTo_same (ts : List Tab) (a : List Nat) (m : List Bool) : ∀ k, wakeTo ts a a m k = m
  | 0 => rfl
  | k + 1 => by
    have : changedB (ts.getD k tab0).vars a a (ts.getD k tab0).vars.length = false := by simp [changedB]
    simp only [wakeTo, this, Bool.false_eq_true, if_false]
    exact wakeTo_same ts a m k
theorem marks_le (m : List Bool) : marksOf m ≤ m.length := List.count_le_length
theorem marks_set : ∀ (m : List Bool) (k : Nat), m.getD k false = true → marksOf (m.set k false) < marksOf m
  | [], k, h => by simp [List.getD] at h
  | b :: m, 0, h => by
    have hb : b = true := by simpa [List.getD] using h
    subst hb
    simp [marksOf]
  | b :: m, k + 1, h => by
    have ih := marks_set m k (by simpa [List.getD] using h)
    simp only [marksOf, List.set_cons_succ, List.count_cons] at ih ⊢
    omega
/-- Each round makes them fewer. -/
theorem round_less {ts : List Tab} {m : List Bool} {next nd : List Nat} (hm : m.length = 12) (hd : Dm next) (hd' : Dm nd) (hs : SubD nd next) {k : Nat} (hk : m.getD k false = true) :
    bitsOf nd * 13 + marksOf ((wakeTo ts next nd m ts.length).set k false) < bitsOf next * 13 + marksOf m := by
  by_cases e : nd = next
  · subst e
    rw [wakeTo_same]
    have := marks_set m k hk
    omega
  · have h1 := bits_lt hd' hd hs e
    have h2 := marks_le ((wakeTo ts next nd m ts.length).set k false)
    rw [List.length_set, wakeTo_length, hm] at h2
    omega
end Go.Proofs.Ytkjfpdfkcfgfkaa

/- The trail within levels: Write, Push. -/
namespace Go.Proofs.Ytkjfpdfkcfgfkaa
open Go.RowKit

theorem workCells_setBacks (szv : Value) (d : List Nat) (tv : Value) (l : Rest) (h : d.length = 8) (v : Value) : (workCells szv d tv l).setIfInBounds 10 v = workCells szv d tv ⟨v, l.starts, l.busy⟩ := by
  obtain ⟨d0, d1, d2, d3, d4, d5, d6, d7, rfl⟩ := list8 h
  simp [workCells]
theorem Try.infoFunc : (Try.prog.info? 1).map (fun i => (i.zero, i.size, i.bytes)) = some (some .nilFunc, 1, 8) := by kernel_rfl

set_option maxHeartbeats 1600000 in
set_option maxRecDepth 1000000 in
/-- Within levels Write keeps the function. -/
theorem write_some (X : Nat) (szv : Value) (d : List Nat) (tv : Value) (l : Rest) (so : Option Addr) (n sc : Nat) (fn : Fn) (fs cs : Array Value) (xs : List Value) (w : World) (hX : Blk w X (workCells szv d tv l) 82) (hd8 : d.length = 8)
    (hl : l.starts = .slice so (n + 1) sc) (hb : Row w l.backs 1 xs) (hxs : xs.length ≤ 1000000) :
    Calls Try.prog 78 #[.pointer (some ⟨X, 10, none⟩), .func fn fs cs] w fun e w' => e = .returned (.tuple #[]) ∧ ∃ bv, Row w' bv 1 (xs ++ [.func fn fs cs]) ∧ Fr (fun k => k = X ∨ l.backs.ownBlock = some k) w w' ∧ Blk w' X (workCells szv d tv ⟨bv, l.starts, l.busy⟩) 82 ∧ (∀ k, bv.ownBlock = some k → l.backs.ownBlock = some k ∨ w.heap.size ≤ k) := by
  have h : w.cell? ⟨X, 11, none⟩ = some (.slice so (n + 1) sc) := (hX.cell 11).trans ((workCells_starts _ _ _ _ hd8).trans (by rw [hl]))
  have h10 : w.cell? ⟨X, 10, none⟩ = some l.backs := (hX.cell 10).trans (workCells_backs _ _ _ _ hd8)
  have hXf := hX.free 10
  have HX := hd hX
  have Hb := hd hb
  clear hX hb
  obtain ⟨bv, hbv⟩ : ∃ bv, l.backs = bv := ⟨_, rfl⟩
  rw [hbv] at h10
  obtain ⟨i0, hi0, hz0, hz1, hz2⟩ := info_parts Try.infoFunc
  have hXl : X < w.heap.size := HX.out.lt
  have HbN : Hid (bv.ownBlock ≠ some X) := by
    rw [← hbv]
    exact Hb.out.ne HX.out (by decide)
  have hb' : Row w bv 1 xs := hbv ▸ Hb.out
  obtain ⟨bo, bcap, hform, _⟩ := hb'.form
  subst hform
  have Hbv := hd hbv
  have Hl := hd hl
  clear hbv hl Hb
  go_enter Try.func78, Try.ntmps78
  go_wp2_with (first
    | (go_at_call 36; refine (level_any X so (n + 1) sc _ h).mono ?_; rintro e w' ⟨rfl, rfl⟩)
    | (at_builtin; refine wpList_append_own_at _ rfl _ _ 78 rfl 0 1 i0 .nilFunc 1 8 Try.underlying78 hi0 hz0 hz1 hz2 rfl (by decide) _ _ _ rfl (Row.alloc hb' _) ⟨_, 0, none⟩ 1 1 [.func fn fs cs] rfl rfl (cell_one_new _ _ _) (by simp [Value.oneCell']) (by unfold maxLen; omega) (by omega) (Nat.zero_le _) ?_; intro v' w1 hown' hgrow _ hat; obtain ⟨g', cap', rfl, hr1, hf1, ha1, hlt1⟩ := app1 hown' hgrow hat; have hX1 := HX.out.fr hf1 (fun e => HbN.out e); have hfz1 := hX1.free 10; have hc1 := (hX1.cell 10).trans (workCells_backs _ _ _ _ hd8); have HX1 := hd hX1; clear hX1 hown' hgrow hat))
  go_end0
  have hne : (Value.slice (some ⟨g', 0, none⟩) (xs.length + 1) cap').ownBlock ≠ some X := hr1.ne HX1.out (by decide)
  refine ⟨rfl, _, hr1.fr ((Fr.refl (fun k => k = X) w1).setCell ⟨X, 10, none⟩ _ (.inl rfl)) (fun k hk e => hne (by rw [← e]; exact hk)), ?_, ?_, fun k hk => ?_⟩
  · refine (hf1.mono (fun i h => .inl (.inr ?_))).setCell ⟨X, 10, none⟩ _ (.inl (.inl rfl))
    rw [Hbv.out]
    exact h
  · have h5 := HX1.out.set 10 (.slice (some ⟨g', 0, none⟩) (xs.length + 1) cap')
    rw [workCells_setBacks _ _ _ _ hd8] at h5
    exact h5
  · have e : g' = k := by cases hk; rfl
    subst e
    rcases ha1 with h | h
    · rw [Hbv.out]
      exact .inl h
    · exact .inr (by omega)

end Go.Proofs.Ytkjfpdfkcfgfkaa

/- Work.narrow, of tables of any kind, at any level. -/
namespace Go.Proofs.Ytkjfpdfkcfgfkaa
open Go.RowKit

/-- What the trail keeps behind a Write. -/
def wrTo (ss xs : List Value) (fv : Value) : List Value := if ss.isEmpty then xs else xs ++ [fv]
/-- A trail in memory. -/
structure TrAt (w : World) (l : Rest) (ss xs : List Value) : Prop where
  starts : Row w l.starts 3 ss
  backs : Row w l.backs 1 xs
theorem TrAt.fr {S : Nat → Prop} {w w' : World} {l : Rest} {ss xs : List Value} (h : TrAt w l ss xs) (f : Fr S w w') (hs : ∀ k, l.starts.ownBlock = some k → ¬ S k) (hb : ∀ k, l.backs.ownBlock = some k → ¬ S k) : TrAt w' l ss xs := ⟨h.starts.fr f hs, h.backs.fr f hb⟩
theorem TrAt.nw {w w' : World} {l : Rest} {ss xs : List Value} (h : TrAt w l ss xs) (f : Nw w w') : TrAt w' l ss xs := h.fr f (fun _ _ x => x) (fun _ _ x => x)
theorem Row.ne_row {w : World} {u v : Value} {e e' : TypeId} {xs ys : List Value} (h : Row w u e xs) (k : Row w v e' ys) (hne : e ≠ e') {j : Nat} (hu : u.ownBlock = some j) : v.ownBlock ≠ some j := by
  intro hv
  obtain ⟨cur, hb, _⟩ := h.blk hu
  exact k.ne hb (fun e => hne e.symm) hv
theorem write_any (X : Nat) (szv : Value) (d : List Nat) (tv : Value) (l : Rest) (ss xs : List Value) (fn : Fn) (fs cs : Array Value) (w : World) (hX : Blk w X (workCells szv d tv l) 82) (hd8 : d.length = 8) (ht : TrAt w l ss xs) (hxs : xs.length ≤ 1000000) :
    Calls Try.prog 78 #[.pointer (some ⟨X, 10, none⟩), .func fn fs cs] w fun e w' => e = .returned (.tuple #[]) ∧ ∃ bv, TrAt w' ⟨bv, l.starts, l.busy⟩ ss (wrTo ss xs (.func fn fs cs)) ∧ Fr (fun k => k = X ∨ l.backs.ownBlock = some k) w w' ∧
      Blk w' X (workCells szv d tv ⟨bv, l.starts, l.busy⟩) 82 ∧ (∀ k, bv.ownBlock = some k → l.backs.ownBlock = some k ∨ w.heap.size ≤ k) := by
  obtain ⟨so, sc, hform, _⟩ := ht.starts.form
  have hneX : l.starts.ownBlock ≠ some X := ht.starts.ne hX (by decide)
  cases ss with
  | nil =>
    refine (write_none X so sc _ w ((hX.cell 11).trans ((workCells_starts _ _ _ _ hd8).trans (by rw [hform]; rfl)))).mono ?_
    rintro e w' ⟨rfl, rfl⟩
    exact ⟨rfl, l.backs, ht, Fr.refl _ _, hX, fun k hk => .inl hk⟩
  | cons s ss =>
    refine (write_some X szv d tv l so ss.length sc fn fs cs xs w hX hd8 hform ht.backs hxs).mono ?_
    rintro e w' ⟨rfl, bv, hr, hf, hb, ho⟩
    refine ⟨rfl, bv, ⟨ht.starts.fr hf (fun k hk => ?_), hr⟩, hf, hb, ho⟩
    rintro (rfl | h)
    · exact hneX hk
    · exact ht.starts.ne_row ht.backs (by decide) hk h

theorem TS.call_state (t : TS) (a : Array Value) (W : World) : (callFunc t.fnState a).run Try.prog W = .ok (.enter t.fnState a) W := by
  cases t with
  | rs nt br live =>
    simp only [TS.fnState]
    kernel_rfl
  | dg nv os root =>
    simp only [TS.fnState]
    kernel_rfl
theorem TS.call_narrow (t : TS) (a : Array Value) (W : World) : (callFunc t.fnNarrow a).run Try.prog W = .ok (.enter t.fnNarrow a) W := by
  cases t with
  | rs nt br live =>
    simp only [TS.fnNarrow]
    kernel_rfl
  | dg nv os root =>
    simp only [TS.fnNarrow]
    kernel_rfl
theorem tDom_len8 (vars : List Int) (dn : List Nat) (h : dn.length = 8) (t : TS) : (tDom vars dn t).length = 8 := by
  have key : ∀ s, (replTo vars dn s vars.length).length = 8 := fun s => by rw [replTo_length]; exact h
  cases t with
  | rs nt br live =>
    cases nt with
    | false => exact key _
    | true => exact key _
  | dg nv os root => exact key _
/-- The function that puts a table back: the box of the table, the box of what it was. -/
def backN (T S : Nat) : Value := .func (.func 80) #[] #[.pointer (some ⟨T, 0, none⟩), .pointer (some ⟨S, 0, none⟩)]
/-- What lies in the blocks of a table. -/
theorem TAt.tyAt {w : World} {G g cap : Nat} {vars : List Int} {t : TS} (h : TAt w G g cap vars t) {k : Nat} (hk : k = G ∨ k = g ∨ t.nodes k) : ∃ cur e, Blk w k cur e ∧ (e = 142 ∨ e = 136 ∨ e = 3 ∨ e = 154) := by
  cases t with
  | rs nt br live =>
    rcases hk with rfl | rfl | hk
    · exact ⟨_, _, h.1, .inl rfl⟩
    · obtain ⟨cur, hb, _⟩ := h.2.1.blk rfl
      exact ⟨_, _, hb, .inr (.inr (.inl rfl))⟩
    · exact hk.elim
  | dg nv os root =>
    rcases hk with rfl | rfl | hk
    · exact ⟨_, _, h.1.blk, .inr (.inl rfl)⟩
    · obtain ⟨cur, hb, _⟩ := h.1.rv.blk rfl
      exact ⟨_, _, hb, .inr (.inr (.inl rfl))⟩
    · rcases h.1.row.2 with ⟨rfl, _⟩ | ⟨g', cap', cur, rfl, _, hb, _⟩
      · cases hk
      · cases hk
        exact ⟨_, _, hb, .inr (.inr (.inr rfl))⟩
theorem TAt.tyG {w : World} {G g cap : Nat} {vars : List Int} {t : TS} (h : TAt w G g cap vars t) : ∃ cur e, Blk w G cur e ∧ (e = 142 ∨ e = 136) := by
  cases t with
  | rs nt br live => exact ⟨_, _, h.1, .inl rfl⟩
  | dg nv os root => exact ⟨_, _, h.1.blk, .inr rfl⟩
/-- A table lies apart from a Work and the functions of its trail. -/
theorem TAt.apart {w : World} {G g cap : Nat} {vars : List Int} {t : TS} (h : TAt w G g cap vars t) {X : Nat} {cur : Array Value} (hX : Blk w X cur 82) {bv : Value} {xs : List Value} (hb : Row w bv 1 xs) {k : Nat} (hk : k = G ∨ k = g ∨ t.nodes k) : ¬ (k = X ∨ bv.ownBlock = some k) := by
  obtain ⟨c, e, h1, h2⟩ := h.tyAt hk
  rintro (rfl | h3)
  · have := (h1.inj hX).2
    subst this
    revert h2
    decide
  · refine hb.ne h1 ?_ h3
    rintro rfl
    revert h2
    decide
theorem TAt.state_form {w : World} {G g cap : Nat} {vars : List Int} {t : TS} (h : TAt w G g cap vars t) : ∃ (s0 : Int) (so : Option Addr) (sl sc : Nat) (s2 : Int), t.state = #[.int .u64 s0, .slice so sl sc, .int .i64 s2] := by
  cases t with
  | rs nt br live => exact ⟨_, _, _, _, _, rfl⟩
  | dg nv os root =>
    rcases h.1.row.2 with ⟨rfl, _⟩ | ⟨g, cap, cur, rfl, _⟩
    · exact ⟨_, _, _, _, _, rfl⟩
    · exact ⟨_, _, _, _, _, rfl⟩
set_option maxHeartbeats 3200000 in
set_option maxRecDepth 1000000 in
/-- narrow. -/
theorem narrowW_any (X G g cap : Nat) (szv : Value) (d : List Nat) (tv : Value) (l : Rest) (ss xs : List Value) (vars : List Int) (t : TS) (dn : List Nat) (w : World)
    (hX : Blk w X (workCells szv d tv l) 82) (hd8 : d.length = 8) (htr : TrAt w l ss xs) (hxs : xs.length ≤ 1000000)
    (hT : TAt w G g cap vars t) (h8 : dn.length = 8) (h4 : vars.length ≤ 4) (hv : ∀ i, i < vars.length → 0 ≤ vars.getD i 0 ∧ vars.getD i 0 < 8) (hd64 : ∀ q, dn.getD q 0 < 64) :
    Calls Try.prog 68 #[.pointer (some ⟨X, 0, none⟩), .iface t.ty (.pointer (some ⟨G, 0, none⟩)), .agg (domV dn)] w fun e w' => e = .returned (.agg (domV (tDom vars dn t))) ∧ Fr (fun k => k = G ∨ k = X ∨ l.backs.ownBlock = some k) w w' ∧
      ∃ (bv : Value) (t' : TS) (S : Nat), TS.Next vars dn t t' ∧ TAt w' G g cap vars t' ∧ Blk w' X (workCells szv d tv ⟨bv, l.starts, l.busy⟩) 82 ∧ TrAt w' ⟨bv, l.starts, l.busy⟩ ss (wrTo ss xs (backN w.heap.size S)) ∧
        Blk w' w.heap.size #[.iface t.ty (.pointer (some ⟨G, 0, none⟩))] 93 ∧ Blk w' S t.state 148 ∧ w.heap.size ≤ S ∧ (∀ k, t'.nodes k → w.heap.size ≤ k) ∧ (∀ k, bv.ownBlock = some k → l.backs.ownBlock = some k ∨ w.heap.size ≤ k) := by
  obtain ⟨v0, v1, v2, v3, v4, v5, v6, v7, hdv⟩ := domV8 h8
  obtain ⟨nd, hnd⟩ : ∃ nd, tDom vars dn t = nd := ⟨_, rfl⟩
  obtain ⟨n0, n1, n2, n3, n4, n5, n6, n7, hnv⟩ := domV8 (hnd ▸ tDom_len8 vars dn h8 t)
  obtain ⟨⟨y0, rfl⟩, ⟨y1, rfl⟩, ⟨y2, rfl⟩, ⟨y3, rfl⟩, ⟨y4, rfl⟩, ⟨y5, rfl⟩, ⟨y6, rfl⟩, ⟨y7, rfl⟩⟩ := domV_one nd hnv
  rw [hnd]
  have Hnd := hd hnd
  have Hnv := hd hnv
  clear hnd hnv
  have hXlt := hX.lt
  obtain ⟨ty, hty⟩ : ∃ ty, t.ty = ty := ⟨_, rfl⟩
  obtain ⟨W, hW⟩ : ∃ W, W = ((w.alloc (.cells #[.iface ty (.pointer (some ⟨G, 0, none⟩))] 93)).alloc (.cells (domV dn) 76)).alloc (.cells (domV zero8) 76) := ⟨_, rfl⟩
  have hfW : Nw w W := by rw [hW]; exact (((Fr.refl _ w).alloc _).alloc _).alloc _
  have hbT : Blk W w.heap.size #[.iface ty (.pointer (some ⟨G, 0, none⟩))] 93 := by rw [hW]; exact ((Blk.new _ _ _).alloc _).alloc _
  have hbD : Blk W (w.heap.size + 1) (domV dn) 76 := by
    rw [hW]
    have := (Blk.new (w.alloc (.cells #[.iface ty (.pointer (some ⟨G, 0, none⟩))] 93)) (domV dn) 76).alloc (.cells (domV zero8) 76)
    simpa using this
  have hbR : Blk W (w.heap.size + 2) (domV zero8) 76 := by
    rw [hW]
    have := Blk.new ((w.alloc (.cells #[.iface ty (.pointer (some ⟨G, 0, none⟩))] 93)).alloc (.cells (domV dn) 76)) (domV zero8) 76
    simpa using this
  have hsW : W.heap.size = w.heap.size + 3 := by rw [hW]; simp
  have hcT : W.cell? ⟨w.heap.size, 0, none⟩ = some (.iface ty (.pointer (some ⟨G, 0, none⟩))) := hbT.cell 0
  have hms := fun W => hty ▸ TS.meth_state t G W
  have HbT := hd hbT
  have HbD := hd hbD
  have HbR := hd hbR
  have HX := hd (hX.nw hfW)
  have HT := hd (hT.nw hfW)
  have Htr := hd (htr.nw hfW)
  have HW := hd hW
  have HsW := hd hsW
  have Hdv := hd hdv
  have HTw := hd hT
  have HXw := hd hX
  have Htrw := hd htr
  obtain ⟨fs, hfs⟩ : ∃ f, t.fnState = f := ⟨_, rfl⟩
  obtain ⟨s0, so, sl, sc, s2, hst⟩ := HTw.out.state_form
  have hcs := fun a W => TS.call_state t a W
  rw [hfs] at hms hcs
  rw [hty]
  clear hbT hbD hbR hX hT htr hW hsW hdv
  go_enter Try.func68, Try.ntmps68
  go_upto_region 1 with fail
  rw [show ((w.alloc (Obj.cells #[Value.iface ty (Value.pointer (some ⟨G, 0, none⟩))] 93)).alloc (Obj.cells (domV dn) 76)).alloc (Obj.cells #[Value.int .u8 0, .int .u8 0, .int .u8 0, .int .u8 0, .int .u8 0, .int .u8 0, .int .u8 0, .int .u8 0] 76) = W from HW.out.symm]
  go_wp2_with fail
  rw [← hfs]
  refine (stateT_any G g cap vars t _ HT.out).mono ?_
  rw [hst]
  rintro e w1 ⟨rfl, hf1⟩
  go_upto_region 2 with fail
  obtain ⟨U, hU⟩ : ∃ U, U = w1.alloc (.cells #[.int .u64 s0, .slice so sl sc, .int .i64 s2] 148) := ⟨_, rfl⟩
  have hfU : Nw W U := by rw [hU]; exact hf1.alloc _
  have hbS : Blk U w1.heap.size t.state 148 := by rw [hU, hst]; exact Blk.new _ _ _
  rw [← hU]
  have hsz1 := hf1.size
  obtain ⟨S, hS⟩ : ∃ S, w1.heap.size = S := ⟨_, rfl⟩
  rw [hS] at hbS hsz1 ⊢
  have hSU : S < U.heap.size := hbS.lt
  clear hU hcT hms hS hf1 hcs
  have hXU := HX.out.nw hfU
  have htrU := Htr.out.nw hfU
  have hTU := HT.out.nw hfU
  have hbTU := HbT.out.nw hfU
  have hbDU := HbD.out.nw hfU
  have hbRU := HbR.out.nw hfU
  have hsU := hfU.size
  rw [HsW.out] at hsU hsz1
  have HfU : Hid (Nw w U) := hfW.trans hfU (fun i h => h.elim)
  have hbl : ∀ k, l.backs.ownBlock = some k → k < w.heap.size := fun k hk => Htrw.out.backs.lt hk
  have HTU := hd hTU
  have HbTU := hd hbTU
  have HbDU := hd hbDU
  have HbRU := hd hbRU
  have HbS := hd hbS
  have HXU := hd hXU
  have HtrU := hd htrU
  have Hst := hd hst
  clear hTU hbTU hbDU hbRU hbS hXU htrU hfU hst
  go_wp2_with fail
  refine (write_any X szv d tv l ss xs _ _ _ _ HXU.out hd8 HtrU.out hxs).mono ?_
  rintro e w2 ⟨rfl, bv, htr2, hf2, hX2, ho2⟩
  have Ho2 := hd ho2
  clear ho2
  have hap : ∀ k, (k = G ∨ k = g ∨ t.nodes k) → ¬ (k = X ∨ l.backs.ownBlock = some k) := fun k hk => HTw.out.apart HXw.out Htrw.out.backs hk
  have hout : ∀ k, w.heap.size ≤ k → ¬ (k = X ∨ l.backs.ownBlock = some k) := fun k hk => by
    rintro (rfl | h)
    · omega
    · have := hbl k h
      omega
  have hT2 := HTU.out.fr hf2 hap
  have hbT2 := HbTU.out.fr hf2 (hout _ (Nat.le_refl _))
  have hbD2 := HbDU.out.fr hf2 (hout _ (by omega))
  have hbR2 := HbRU.out.fr hf2 (hout _ (by omega))
  have hbS2 := HbS.out.fr hf2 (hout _ (by omega))
  have hs2 := hf2.size
  have hcT : w2.cell? ⟨w.heap.size, 0, none⟩ = some (.iface ty (.pointer (some ⟨G, 0, none⟩))) := hbT2.cell 0
  obtain ⟨c0, c1, c2, c3, c4, c5, c6, c7⟩ := cells8 (Hdv.out ▸ hbD2)
  have hmn := fun W => hty ▸ TS.meth_narrow t G W
  have hcn := fun a W => TS.call_narrow t a W
  obtain ⟨fN, hfN⟩ : ∃ f, t.fnNarrow = f := ⟨_, rfl⟩
  rw [hfN] at hmn hcn
  have HT2 := hd hT2
  have HbT2 := hd hbT2
  have HbR2 := hd hbR2
  have HbS2 := hd hbS2
  have HX2 := hd hX2
  have Htr2 := hd htr2
  have Hf2 := hd hf2
  have Hap := hd hap
  have Hout := hd hout
  clear hT2 hbT2 hbD2 hbR2 hbS2 hX2 htr2 hf2 hap hout hbl
  go_wp2_with fail
  rw [← Hdv.out, ← hfN]
  refine (narrowT_any G g cap vars t dn _ HT2.out h8 h4 hv hd64).mono ?_
  rw [Hnd.out, Hnv.out]
  rintro e w3 ⟨rfl, hf3, t', hnx, hT3, hnew⟩
  have hGlt := HTw.out.lt (.inl rfl)
  have hR3 := HbR2.out.fr hf3 (by omega)
  obtain ⟨r0, r1, r2, r3, r4, r5, r6, r7⟩ := cells8 hR3
  have f0 : ∀ i, w3.frozen? ⟨w.heap.size + 2, i, none⟩ = false := hR3.free
  have hGX : X ≠ G := fun e => (Hap.out G (.inl rfl)) (.inl e.symm)
  have HX3 := hd (HX2.out.fr hf3 hGX)
  have HbT3 := hd (HbT2.out.fr hf3 (by omega))
  have HbS3 := hd (HbS2.out.fr hf3 (by omega))
  have Htr3 := hd (Htr2.out.fr hf3 (fun k hk e => by
      subst e
      obtain ⟨c, ty', h1, h2⟩ := HT2.out.tyG
      refine Htr2.out.starts.ne h1 ?_ hk
      rintro rfl
      revert h2
      decide) (fun k hk e => by
      subst e
      exact (HT2.out.apart HX2.out Htr2.out.backs (.inl rfl)) (.inr hk)))
  have HR3 := hd hR3
  have HT3 := hd hT3
  have HF3 : Hid (Fr (fun k => k = G ∨ k = X ∨ l.backs.ownBlock = some k) w w3) := ((HfU.out.mono (S' := fun k => k = G ∨ k = X ∨ l.backs.ownBlock = some k) (fun i h => h.elim)).trans Hf2.out (fun i h => .inl (.inr h))).trans hf3 (fun i h => .inl (.inl h))
  clear hR3 hT3 hf3 c0 c1 c2 c3 c4 c5 c6 c7 hcT hmn hcn
  go_wp2
  have hB := HR3.out.set8 0 1 2 3 4 5 6 7 (.int .u8 y0) (.int .u8 y1) (.int .u8 y2) (.int .u8 y3) (.int .u8 y4) (.int .u8 y5) (.int .u8 y6) (.int .u8 y7)
  have hF8 := HF3.out.set8 (w.heap.size + 2) 0 1 2 3 4 5 6 7 (.int .u8 y0) (.int .u8 y1) (.int .u8 y2) (.int .u8 y3) (.int .u8 y4) (.int .u8 y5) (.int .u8 y6) (.int .u8 y7) (.inr (by omega))
  have hFg := (Fr.refl (fun k => k = w.heap.size + 2) w3).set8 (w.heap.size + 2) 0 1 2 3 4 5 6 7 (.int .u8 y0) (.int .u8 y1) (.int .u8 y2) (.int .u8 y3) (.int .u8 y4) (.int .u8 y5) (.int .u8 y6) (.int .u8 y7) (.inl rfl)
  have hB' := (arr8 _ _ _ _ _ _ _ _ _ _ _ _ _ _ _ _) ▸ hB
  obtain ⟨q0, q1, q2, q3, q4, q5, q6, q7⟩ := cells8 hB'
  have hT8 := HT3.out.fr hFg (fun k hk e => by
    subst e
    obtain ⟨c, ty', h1, h2⟩ := HT3.out.tyAt hk
    have h3 := (h1.inj HR3.out).2
    subst h3
    revert h2
    decide)
  have hX8 := HX3.out.fr hFg (by omega)
  have htr8 := Htr3.out.fr hFg (fun k hk e => by
    subst e
    exact Htr3.out.starts.ne HR3.out (by decide) hk) (fun k hk e => by
    subst e
    exact Htr3.out.backs.ne HR3.out (by decide) hk)
  have hbT8 := HbT3.out.fr hFg (by omega)
  have hbS8 := HbS3.out.fr hFg (by omega)
  refine bodyPost_ret (v := .agg (domV nd)) ?_ rfl ⟨rfl, hF8, bv, t', S, hnx, hT8, hX8, htr8, hbT8, hbS8, by omega, fun k hk => ?_, fun k hk => (Ho2.out k hk).imp id (fun h => by have := HfU.out.size; omega)⟩
  · rw [Hnv.out]
    simp [results, Try.results68, go_sem, q0, q1, q2, q3, q4, q5, q6, q7]
  · have := hnew k hk
    omega
end Go.Proofs.Ytkjfpdfkcfgfkaa

/- Work.replace, at any level. -/
namespace Go.Proofs.Ytkjfpdfkcfgfkaa
open Go.RowKit

/-- The function that puts the domains back: the box of the Work, the box of what they were. -/
def backR (T D : Nat) : Value := .func (.func 79) #[] #[.pointer (some ⟨D, 0, none⟩), .pointer (some ⟨T, 0, none⟩)]

set_option maxHeartbeats 1600000 in
set_option maxRecDepth 1000000 in
/-- replace, at any level. -/
theorem replaceW_any (X : Nat) (szv : Value) (d : List Nat) (tv : Value) (l : Rest) (ss xs : List Value) (n : List Nat) (w : World)
    (hX : Blk w X (workCells szv d tv l) 82) (hd8 : d.length = 8) (htr : TrAt w l ss xs) (hxs : xs.length ≤ 1000000) (h8 : n.length = 8) (hd6 : ∀ x ∈ d, x < 64) (hn6 : ∀ x ∈ n, x < 64) :
    Calls Try.prog 67 #[.pointer (some ⟨X, 0, none⟩), .agg (domV n)] w fun e w' => e = .returned (.tuple #[]) ∧ Fr (fun k => k = X ∨ l.backs.ownBlock = some k) w w' ∧
      ((n = d ∧ Blk w' X (workCells szv d tv l) 82 ∧ TrAt w' l ss xs) ∨ (n ≠ d ∧ ∃ bv D, Blk w' X (workCells szv n tv ⟨bv, l.starts, l.busy⟩) 82 ∧ TrAt w' ⟨bv, l.starts, l.busy⟩ ss (wrTo ss xs (backR w.heap.size D)) ∧
        Blk w' w.heap.size #[.pointer (some ⟨X, 0, none⟩)] 36 ∧ Blk w' D (domV d) 76 ∧ w.heap.size ≤ D ∧ (∀ k, bv.ownBlock = some k → l.backs.ownBlock = some k ∨ w.heap.size ≤ k))) := by
  obtain ⟨v0, v1, v2, v3, v4, v5, v6, v7, hnv⟩ := domV8 h8
  obtain ⟨u0, u1, u2, u3, u4, u5, u6, u7, hdv⟩ := domV8 hd8
  obtain ⟨⟨x0, rfl⟩, ⟨x1, rfl⟩, ⟨x2, rfl⟩, ⟨x3, rfl⟩, ⟨x4, rfl⟩, ⟨x5, rfl⟩, ⟨x6, rfl⟩, ⟨x7, rfl⟩⟩ := domV_one n hnv
  obtain ⟨⟨y0, rfl⟩, ⟨y1, rfl⟩, ⟨y2, rfl⟩, ⟨y3, rfl⟩, ⟨y4, rfl⟩, ⟨y5, rfl⟩, ⟨y6, rfl⟩, ⟨y7, rfl⟩⟩ := domV_one d hdv
  have hXlt := hX.lt
  obtain ⟨W, hW⟩ : ∃ W, W = (w.alloc (.cells #[.pointer (some ⟨X, 0, none⟩)] 36)).alloc (.cells (domV n) 76) := ⟨_, rfl⟩
  have hfW : Nw w W := by rw [hW]; exact ((Fr.refl _ w).alloc _).alloc _
  have hbP : Blk W w.heap.size #[.pointer (some ⟨X, 0, none⟩)] 36 := by rw [hW]; exact (Blk.new _ _ _).alloc _
  have hbN : Blk W (w.heap.size + 1) (domV n) 76 := by
    rw [hW]
    have := Blk.new (w.alloc (.cells #[.pointer (some ⟨X, 0, none⟩)] 36)) (domV n) 76
    simpa using this
  have hsW : W.heap.size = w.heap.size + 2 := by rw [hW]; simp
  have hXW := hX.nw hfW
  obtain ⟨c0, c1, c2, c3, c4, c5, c6, c7⟩ := work8 hXW hdv
  obtain ⟨e0, e1, e2, e3, e4, e5, e6, e7⟩ := cells8 (hnv ▸ hbN)
  have hcP : W.cell? ⟨w.heap.size, 0, none⟩ = some (.pointer (some ⟨X, 0, none⟩)) := hbP.cell 0
  have HXW := hd hXW
  have HbP := hd hbP
  have HbN := hd hbN
  have HsW := hd hsW
  have HW := hd hW
  have Hnv := hd hnv
  have Hdv := hd hdv
  clear hXW hbP hbN hsW hW hnv hdv hX
  go_enter Try.func67, Try.ntmps67
  go_upto_region 1 with fail
  rw [← HW.out]
  go_upto_region 2 with fail
  obtain ⟨U, hU⟩ : ∃ U, U = W.alloc (.cells (domV d) 76) := ⟨_, rfl⟩
  have hfU : Nw W U := by rw [hU]; exact (Fr.refl _ W).alloc _
  have hbU : Blk U W.heap.size (domV d) 76 := by rw [hU]; exact Blk.new _ _ _
  rw [← Hdv.out]
  rw [← hU]
  clear hU c0 c1 c2 c3 c4 c5 c6 c7 e0 e1 e2 e3 e4 e5 e6 e7 hcP
  have hXU := HXW.out.nw hfU
  have hcP : U.cell? ⟨w.heap.size, 0, none⟩ = some (.pointer (some ⟨X, 0, none⟩)) := (HbP.out.nw hfU).cell 0
  obtain ⟨e0, e1, e2, e3, e4, e5, e6, e7⟩ := cells8 (Hnv.out ▸ (HbN.out.nw hfU))
  obtain ⟨g0, g1, g2, g3, g4, g5, g6, g7⟩ := cells8 (Hdv.out ▸ hbU)
  obtain ⟨c0, c1, c2, c3, c4, c5, c6, c7⟩ := work8 hXU Hdv.out
  have hfz : ∀ i, U.frozen? ⟨X, i, none⟩ = false := hXU.free
  have HXU := hd hXU
  have HtrU := hd ((htr.nw hfW).nw hfU)
  have Htrw := hd htr
  have HbPU := hd (HbP.out.nw hfU)
  have HbU := hd hbU
  have hsU : w.heap.size + 2 ≤ W.heap.size := by rw [HsW.out]; exact Nat.le_refl _
  clear htr
  have HfWU := hd hfU
  have HfU : Hid (Nw w U) := hfW.trans hfU (fun i h => h.elim)
  clear hbU hXU hfU hfW
  by_cases hnd : n = d
  · have heq := eql_doms n d h8 hd8 hn6 hd6
    rw [decide_eq_true hnd, Hnv.out, Hdv.out] at heq
    have Hnd := hd hnd
    clear hnd
    go_wp2
    exact bodyPost_ret (v := .tuple #[]) (results_none rfl _ _ _) rfl ⟨rfl, HfU.out.mono (fun i h => h.elim), .inl ⟨Hnd.out, HXU.out, HtrU.out⟩⟩
  · have heq := eql_doms n d h8 hd8 hn6 hd6
    rw [decide_eq_false hnd, Hnv.out, Hdv.out] at heq
    have Hnd := hd hnd
    clear hnd
    go_wp2_with (go_at_call 78; refine (write_any X szv d tv l ss xs _ _ _ _ HXU.out hd8 HtrU.out hxs).mono ?_; rintro e w2 ⟨rfl, bv, htr2, hf2, hX2, ho2⟩; have Ho2 := hd ho2; clear ho2; clear c0 c1 c2 c3 c4 c5 c6 c7 e0 e1 e2 e3 e4 e5 e6 e7 g0 g1 g2 g3 g4 g5 g6 g7 hcP hfz; have hbl : ∀ k, l.backs.ownBlock = some k → k < w.heap.size := (fun k hk => Htrw.out.backs.lt hk); have hout : ∀ k, w.heap.size ≤ k → ¬ (k = X ∨ l.backs.ownBlock = some k) := (fun k hk h => h.elim (fun h => by omega) (fun h => by have := hbl k h; omega)); have hbN2 := (HbN.out.nw HfWU.out).fr hf2 (hout _ (by omega)); have hbP2 := HbPU.out.fr hf2 (hout _ (Nat.le_refl _)); have hbU2 := HbU.out.fr hf2 (hout _ (by omega)); obtain ⟨e0, e1, e2, e3, e4, e5, e6, e7⟩ := cells8 (Hnv.out ▸ hbN2); obtain ⟨c0, c1, c2, c3, c4, c5, c6, c7⟩ := work8 hX2 Hdv.out; have hcP : w2.cell? ⟨w.heap.size, 0, none⟩ = some (.pointer (some ⟨X, 0, none⟩)) := hbP2.cell 0; have hfz : ∀ i, w2.frozen? ⟨X, i, none⟩ = false := hX2.free; have HX2 := hd hX2; have Htr2 := hd htr2; have Hf2 := hd hf2; have HbP2 := hd hbP2; have HbU2 := hd hbU2; clear hX2 htr2 hf2 hbP2 hbU2 hbN2 hbl hout)
    go_end0
    have hFg := (Fr.refl (fun k => k = X) w2).set8 X 1 2 3 4 5 6 7 8 (.int .u8 x0) (.int .u8 x1) (.int .u8 x2) (.int .u8 x3) (.int .u8 x4) (.int .u8 x5) (.int .u8 x6) (.int .u8 x7) (.inl rfl)
    refine ⟨rfl, ?_, .inr ⟨Hnd.out, bv, W.heap.size, ?_, Htr2.out.fr hFg (fun k hk e => ?_) (fun k hk e => ?_), HbP2.out.fr hFg (by omega), HbU2.out.fr hFg (by omega), by omega, fun k hk => (Ho2.out k hk).imp id (fun h => by have := HfU.out.size; omega)⟩⟩
    · exact ((HfU.out.mono (S' := fun k => k = X ∨ l.backs.ownBlock = some k) (fun i h => h.elim)).trans Hf2.out (fun i h => .inl h)).set8 X 1 2 3 4 5 6 7 8 _ _ _ _ _ _ _ _ (.inl (.inl rfl))
    · have h5 := HX2.out.set8 1 2 3 4 5 6 7 8 (.int .u8 x0) (.int .u8 x1) (.int .u8 x2) (.int .u8 x3) (.int .u8 x4) (.int .u8 x5) (.int .u8 x6) (.int .u8 x7)
      rw [workCells_put szv d tv ⟨bv, l.starts, l.busy⟩ hd8 n Hnv.out] at h5
      exact h5
    · subst e
      exact Htr2.out.starts.ne HX2.out (by decide) hk
    · subst e
      exact Htr2.out.backs.ne HX2.out (by decide) hk
end Go.Proofs.Ytkjfpdfkcfgfkaa

/- The functions of the trail. -/
namespace Go.Proofs.Ytkjfpdfkcfgfkaa
open Go.RowKit

end Go.Proofs.Ytkjfpdfkcfgfkaa

/- Contract of settle where there is one table, of Way 1, that waits, and no domain comes out empty. -/
namespace Go.Proofs.Ytkjfpdfkcfgfkaa
open Go.RowKit

theorem Blk.put8 {b : World} {g : Nat} {e : TypeId} {n : List Nat} {v0 v1 v2 v3 v4 v5 v6 v7 : Value} (h : Blk b g (domV zero8) e) (hn : domV n = #[v0, v1, v2, v3, v4, v5, v6, v7]) :
    Blk ((((((((b.setCell ⟨g, 0, none⟩ v0).setCell ⟨g, 1, none⟩ v1).setCell ⟨g, 2, none⟩ v2).setCell ⟨g, 3, none⟩ v3).setCell ⟨g, 4, none⟩ v4).setCell ⟨g, 5, none⟩ v5).setCell ⟨g, 6, none⟩ v6).setCell ⟨g, 7, none⟩ v7) g (domV n) e := by
  have h1 := Blk.set8 (cur := #[Value.int .u8 0, Value.int .u8 0, Value.int .u8 0, Value.int .u8 0, Value.int .u8 0, Value.int .u8 0, Value.int .u8 0, Value.int .u8 0]) h 0 1 2 3 4 5 6 7 v0 v1 v2 v3 v4 v5 v6 v7
  rw [arr8] at h1
  rw [hn]
  exact h1
theorem Try.arrMarks : Try.prog.underlying 91 = some (.array 12 4) := by kernel_rfl
theorem slice_marks (b : Nat) (W : World) : (Instr.sliceAt 91 (.pointer (some ⟨b, 0, none⟩)) none none none).run Try.prog W = .ok (.slice (some ⟨b, 0, none⟩) 12 12) W := by
  have h1 : Try.prog.arrayLen 91 = 12 := by kernel_rfl
  have h2 : Try.prog.elem 91 = 4 := by kernel_rfl
  rw [run_sliceAt_array_all W 91 ⟨b, 0, none⟩ (by rw [h1, h2]; exact Try.arrMarks), h1, h2]
  simp [go_sem, slicedAt]

end Go.Proofs.Ytkjfpdfkcfgfkaa

/- Small parts of settle over any tables: the first mark, an empty domain. -/
namespace Go.Proofs.Ytkjfpdfkcfgfkaa
open Go.RowKit

theorem firstAt_spec : ∀ (l : List Bool) (k : Nat), (firstAt true l k = -1 ∧ ∀ i, l.getD i false = false) ∨ ∃ i, i < l.length ∧ firstAt true l k = ((k + i : Nat) : Int) ∧ l.getD i false = true
  | [], k => .inl ⟨rfl, fun i => by simp [List.getD]⟩
  | b :: l, k => by
    cases b with
    | true => exact .inr ⟨0, by simp, by simp [firstAt], rfl⟩
    | false =>
      rcases firstAt_spec l (k + 1) with ⟨h1, h2⟩ | ⟨i, h1, h2, h3⟩
      · refine .inl ⟨by simpa [firstAt] using h1, fun i => ?_⟩
        cases i with
        | zero => rfl
        | succ i => simpa [List.getD] using h2 i
      · refine .inr ⟨i + 1, by simp; omega, ?_, by simpa [List.getD] using h3⟩
        have e : firstAt true (false :: l) k = firstAt true l (k + 1) := by simp [firstAt]
        rw [e, h2]
        congr 1
        omega
theorem mksV_get (m : List Bool) (i : Nat) (hi : i < m.length) : (mksV m)[i]? = some (.bool (m.getD i false)) := by
  simp [mksV, List.getD, hi]
/-- Index over the marks. -/
theorem index_mks (b : Nat) (m : List Bool) (w : World) (hm : m.length = 12) (h : Blk w b (mksV m) 91) :
    Calls Try.prog 66 #[.slice (some ⟨b, 0, none⟩) 12 12, .bool true] w fun e w' => e = .returned (.int .i64 (firstAt true m 0)) ∧ w' = w := by
  have hc := indexBool_any b 0 12 m w (by omega) (fun i hi => by
    rw [Nat.zero_add, h.cell i]
    exact mksV_get m i hi)
  rw [hm] at hc
  exact hc
theorem empty_full {n : Nat} {d : List Nat} (hd : d.length = 8) (hn : n ≤ 8) : emptyB n d = false ↔ Full n d := by
  unfold emptyB Full
  constructor
  · intro h q hq e
    have : (d.take n).contains 0 = true := by
      rw [List.contains_iff_mem, List.mem_iff_getElem]
      refine ⟨q, by simp; omega, ?_⟩
      have hq' : q < d.length := by omega
      simp only [List.getElem_take]
      simpa [List.getD, hq'] using e
    rw [this] at h
    cases h
  · intro h
    cases hx : (d.take n).contains 0 with
    | false => rfl
    | true =>
      rw [List.contains_iff_mem, List.mem_iff_getElem] at hx
      obtain ⟨q, hq, e⟩ := hx
      simp at hq
      have hq' : q < d.length := by omega
      refine absurd ?_ (h q (by omega))
      simp only [List.getElem_take] at e
      simpa [List.getD, hq'] using e
end Go.Proofs.Ytkjfpdfkcfgfkaa

/- What stands on the trail: how each change is put back; frames by the types of what is written. -/
namespace Go.Proofs.Ytkjfpdfkcfgfkaa
open Go.RowKit

/-- The blocks of S that there are hold elements of these types alone. -/
def Only (w : World) (S : Nat → Prop) (es : List TypeId) : Prop := ∀ k cur e, S k → Blk w k cur e → e ∈ es
theorem Only.one {w : World} {X : Nat} {cur : Array Value} {e : TypeId} (h : Blk w X cur e) : Only w (fun k => k = X) [e] := by
  rintro k cur' e' rfl h'
  rw [(h'.inj h).2]
  exact List.mem_singleton.2 rfl
theorem Only.or {w : World} {S S' : Nat → Prop} {es es' : List TypeId} (h : Only w S es) (h' : Only w S' es') : Only w (fun k => S k ∨ S' k) (es ++ es') := by
  rintro k cur e (hs | hs) hb
  · exact List.mem_append_left _ (h k cur e hs hb)
  · exact List.mem_append_right _ (h' k cur e hs hb)
theorem Only.row {w : World} {v : Value} {e : TypeId} {xs : List Value} (h : Row w v e xs) : Only w (fun k => v.ownBlock = some k) [e] := by
  intro k cur e' hk hb
  refine Classical.byContradiction fun hc => ?_
  exact h.ne hb (fun x => hc (by rw [x]; exact List.mem_singleton.2 rfl)) hk
theorem Only.mono {w : World} {S S' : Nat → Prop} {es es' : List TypeId} (h : Only w S es) (hs : ∀ k, S' k → S k) (he : ∀ e ∈ es, e ∈ es') : Only w S' es' := fun k cur e hk hb => he e (h k cur e (hs k hk) hb)
theorem Only.none (w : World) : Only w (fun _ => False) [] := fun _ _ _ h => h.elim
theorem Blk.frO {S : Nat → Prop} {w w' : World} {g : Nat} {cur : Array Value} {e : TypeId} (h : Blk w g cur e) (f : Fr S w w') {es : List TypeId} (o : Only w S es) (he : e ∉ es) : Blk w' g cur e := h.fr f (fun hs => he (o g cur e hs h))
theorem Row.frO {S : Nat → Prop} {w w' : World} {v : Value} {e : TypeId} {xs : List Value} (h : Row w v e xs) (f : Fr S w w') {es : List TypeId} (o : Only w S es) (he : e ∉ es) : Row w' v e xs := h.fr f (fun k hk hs => by
  obtain ⟨cur, hb, _⟩ := h.blk hk
  exact he (o k cur e hs hb))
theorem ownsRow.blk {w : World} {v : Value} {e : TypeId} {size n : Nat} {xs : List Value} (h : w.ownsRow 0 e size v n xs) {k : Nat} (hk : v.ownBlock = some k) : ∃ cur, Blk w k cur e := by
  rcases h.2 with ⟨rfl, _⟩ | ⟨g, cap, cur, rfl, _, hb, _⟩
  · cases hk
  · cases hk
    exact ⟨cur, hb⟩
theorem ownsRow.frO {S : Nat → Prop} {w w' : World} {v : Value} {e : TypeId} {size n : Nat} {xs : List Value} (h : w.ownsRow 0 e size v n xs) (f : Fr S w w') {es : List TypeId} (o : Only w S es) (he : e ∉ es) : w'.ownsRow 0 e size v n xs := ownsRow.fr h f (fun k hk hs => by
  obtain ⟨cur, hb⟩ := ownsRow.blk h hk
  exact he (o k cur e hs hb))
theorem TrAt.frO {S : Nat → Prop} {w w' : World} {l : Rest} {ss xs : List Value} (h : TrAt w l ss xs) (f : Fr S w w') {es : List TypeId} (o : Only w S es) (he : 3 ∉ es ∧ 1 ∉ es) : TrAt w' l ss xs := ⟨h.starts.frO f o he.1, h.backs.frO f o he.2⟩
/-- Types that lie in the blocks of a table. -/
def tabTys : List TypeId := [142, 136, 3, 154]
theorem TAt.frO {S : Nat → Prop} {w w' : World} {G g cap : Nat} {vars : List Int} {t : TS} (h : TAt w G g cap vars t) (f : Fr S w w') {es : List TypeId} (o : Only w S es) (he : ∀ e ∈ tabTys, e ∉ es) : TAt w' G g cap vars t := h.fr f (fun k hk hs => by
  obtain ⟨cur, e, hb, hc⟩ := h.tyAt hk
  refine he e ?_ (o k cur e hs hb)
  simp only [tabTys, List.mem_cons, List.not_mem_nil, or_false]
  exact hc)
theorem TabsAt.frO {S : Nat → Prop} {w w' : World} {so : Option Addr} {tcap : Nat} {ts : List Tab} (h : TabsAt w so tcap ts) (f : Fr S w w') {es : List TypeId} (o : Only w S es) (he : ∀ e ∈ 93 :: tabTys, e ∉ es) : TabsAt w' so tcap ts :=
  ⟨h.row.frO f o (he _ (List.mem_cons_self ..)), fun i hi => (h.at_ i hi).frO f o (fun e h' => he e (List.mem_cons_of_mem _ h')), h.four, h.ok⟩
theorem TabsAt.nw {w w' : World} {so : Option Addr} {tcap : Nat} {ts : List Tab} (h : TabsAt w so tcap ts) (f : Nw w w') : TabsAt w' so tcap ts := h.frO f (Only.none w) (fun _ _ => List.not_mem_nil)

/-- Of one kind: what Narrow and PutBack never change is the same. -/
def TS.Kin : TS → TS → Prop
  | .rs nt br _, .rs nt' br' _ => nt' = nt ∧ br' = br
  | .dg .., .dg .. => True
  | _, _ => False
theorem TS.Kin.refl (t : TS) : TS.Kin t t := by cases t <;> simp [TS.Kin]
theorem TS.Kin.trans {a b c : TS} (h : TS.Kin a b) (k : TS.Kin b c) : TS.Kin a c := by
  cases a <;> cases b <;> cases c <;> simp_all [TS.Kin]
theorem TS.Kin.ty {a b : TS} (h : TS.Kin a b) : b.ty = a.ty := by
  cases a <;> cases b <;> simp_all [TS.Kin, TS.ty]
theorem TS.Next.kin {vars : List Int} {dn : List Nat} {t t' : TS} (h : TS.Next vars dn t t') : TS.Kin t t' := by
  cases t with
  | rs nt br live =>
    have : t' = .rs nt br (nLive br live vars dn) := h
    subst this
    exact ⟨rfl, rfl⟩
  | dg nv os root =>
    obtain ⟨nv', rfl⟩ := h
    trivial
theorem TS.Was.kin {w : World} {G : Nat} {vars : List Int} {t t' t0 : TS} (h : TS.Was w G vars t t0) (k : TS.Kin t t') : TS.Was w G vars t' t0 := by
  cases t <;> cases t' <;> cases t0 <;> simp_all [TS.Kin, TS.Was]
theorem TS.Was.frO {S : Nat → Prop} {w w' : World} {G : Nat} {vars : List Int} {t t0 : TS} (h : TS.Was w G vars t t0) (f : Fr S w w') {es : List TypeId} (o : Only w S es) (he : 154 ∉ es) : TS.Was w' G vars t t0 := by
  cases t <;> cases t0
  · exact h
  · exact h
  · exact h
  · exact ⟨ownsRow.frO h.1 f o he, h.2⟩
theorem TAt.was {w : World} {G g cap : Nat} {vars : List Int} {t : TS} (h : TAt w G g cap vars t) : TS.Was w G vars t t := by
  cases t with
  | rs nt br live => exact ⟨rfl, rfl, h.2.2.2.2.1⟩
  | dg nv os root => exact ⟨h.1.row, h.1.ok, h.1.two, fun e => by
      obtain ⟨cur, hb⟩ := ownsRow.blk h.1.row e
      have := (hb.inj h.1.blk).2
      revert this
      decide, h.2⟩
/-- The same tables, of which another part may be left. -/
structure SameT (ts ts' : List Tab) : Prop where
  len : ts'.length = ts.length
  at_ : ∀ i, i < ts.length → (ts'.getD i tab0).G = (ts.getD i tab0).G ∧ (ts'.getD i tab0).g = (ts.getD i tab0).g ∧ (ts'.getD i tab0).cap = (ts.getD i tab0).cap ∧ (ts'.getD i tab0).vars = (ts.getD i tab0).vars ∧ TS.Kin (ts.getD i tab0).t (ts'.getD i tab0).t
theorem SameT.refl (ts : List Tab) : SameT ts ts := ⟨rfl, fun _ _ => ⟨rfl, rfl, rfl, rfl, TS.Kin.refl _⟩⟩
theorem SameT.trans {a b c : List Tab} (h : SameT a b) (k : SameT b c) : SameT a c := ⟨k.len.trans h.len, fun i hi => by
  obtain ⟨h1, h2, h3, h4, h5⟩ := h.at_ i hi
  obtain ⟨k1, k2, k3, k4, k5⟩ := k.at_ i (by rw [h.len]; exact hi)
  exact ⟨k1.trans h1, k2.trans h2, k3.trans h3, k4.trans h4, h5.trans k5⟩⟩
theorem SameT.val {ts ts' : List Tab} (h : SameT ts ts') (i : Nat) (hi : i < ts.length) : (ts'.getD i tab0).val = (ts.getD i tab0).val := by
  obtain ⟨h1, _, _, _, h5⟩ := h.at_ i hi
  simp only [Tab.val, h1, h5.ty]
theorem SameT.vals {ts ts' : List Tab} (h : SameT ts ts') : ts'.map Tab.val = ts.map Tab.val := by
  refine List.ext_getElem (by simp [h.len]) fun i h1 h2 => ?_
  have hi : i < ts.length := by simpa using h2
  have hi' : i < ts'.length := by simpa using h1
  have := h.val i hi
  simpa [List.getD, hi, hi'] using this
theorem getD_setT (ts : List Tab) (k i : Nat) (x : Tab) (hk : k < ts.length) : (ts.set k x).getD i tab0 = if k = i then x else ts.getD i tab0 := by
  simp only [List.getD, List.getElem?_set]
  by_cases h : k = i
  · subst h
    simp [hk]
  · simp [h]
theorem SameT.set {ts : List Tab} {k : Nat} (hk : k < ts.length) {t' : TS} (h : TS.Kin (ts.getD k tab0).t t') : SameT ts (ts.set k { ts.getD k tab0 with t := t' }) := ⟨by simp, fun i hi => by
  rw [getD_setT _ _ _ _ hk]
  by_cases e : k = i
  · subst e
    simpa using h
  · rw [if_neg e]
    exact ⟨rfl, rfl, rfl, rfl, TS.Kin.refl _⟩⟩
theorem SameT.fits {bs : List Tb} {ts ts' : List Tab} (h : SameT ts ts') (hf : Fits bs ts) : Fits bs ts' := ⟨h.len.trans hf.1, fun k hk => by
  rw [← hf.2 k hk]
  exact (h.at_ k (by rw [hf.1]; exact hk)).2.2.2.1⟩

/-- A change that is put back: a table, number k, that was t0; the domains, that were d0. -/
inductive Un where
  | n (T S k : Nat) (t0 : TS)
  | r (T D : Nat) (d0 : List Nat)
def Un.val : Un → Value
  | .n T S _ _ => backN T S
  | .r T D _ => backR T D
def Un.isN : Un → Prop
  | .n .. => True
  | .r .. => False
/-- The blocks that a change has of its own. -/
def Un.boxes : Un → Nat → Prop
  | .n T S _ _ => fun k => k = T ∨ k = S
  | .r T D _ => fun k => k = T ∨ k = D
/-- It lies in memory. -/
def Un.At (w : World) (X : Nat) (ts : List Tab) : Un → Prop
  | .n T S k t0 => k < ts.length ∧ Blk w T #[(ts.getD k tab0).val] 93 ∧ Blk w S t0.state 148 ∧ TS.Was w (ts.getD k tab0).G (ts.getD k tab0).vars (ts.getD k tab0).t t0
  | .r T D d0 => Blk w T #[.pointer (some ⟨X, 0, none⟩)] 36 ∧ Blk w D (domV d0) 76 ∧ d0.length = 8 ∧ ∀ x ∈ d0, x < 64
/-- What it does. -/
def Un.undo : Un → List Nat × List TS → List Nat × List TS
  | .n _ _ k t0, s => (s.1, s.2.set k t0)
  | .r _ _ d0, s => (d0, s.2)
theorem Un.At.frO {S : Nat → Prop} {w w' : World} {X : Nat} {ts : List Tab} {u : Un} (h : u.At w X ts) (f : Fr S w w') {es : List TypeId} (o : Only w S es) (he : 93 ∉ es ∧ 148 ∉ es ∧ 154 ∉ es ∧ 36 ∉ es) (hD : u.isN ∨ 76 ∉ es) : u.At w' X ts := by
  cases u with
  | n T S' k t0 => exact ⟨h.1, h.2.1.frO f o he.1, h.2.2.1.frO f o he.2.1, h.2.2.2.frO f o he.2.2.1⟩
  | r T D d0 =>
    rcases hD with hD | hD
    · exact hD.elim
    · exact ⟨h.1.frO f o he.2.2.2, h.2.1.frO f o hD, h.2.2⟩
theorem Un.At.same {w : World} {X : Nat} {ts ts' : List Tab} {u : Un} (h : u.At w X ts) (s : SameT ts ts') : u.At w X ts' := by
  cases u with
  | n T S' k t0 =>
    obtain ⟨h1, h2, h3, h4⟩ := h
    obtain ⟨e1, e2, e3, e4, e5⟩ := s.at_ k h1
    refine ⟨by rw [s.len]; exact h1, by rw [s.val k h1]; exact h2, h3, ?_⟩
    rw [e1, e4]
    exact h4.kin e5
  | r T D d0 => exact h
/-- Tables that lie apart. -/
def Inj (ts : List Tab) : Prop := ∀ i j, i < ts.length → j < ts.length → (ts.getD i tab0).G = (ts.getD j tab0).G → i = j
theorem SameT.inj {ts ts' : List Tab} (h : SameT ts ts') (k : Inj ts) : Inj ts' := fun i j hi hj e => by
  rw [h.len] at hi hj
  rw [(h.at_ i hi).1, (h.at_ j hj).1] at e
  exact k i j hi hj e
/-- One table is narrowed. -/
theorem TabsAt.step {S : Nat → Prop} {w w' : World} {so : Option Addr} {tcap : Nat} {ts : List Tab} (h : TabsAt w so tcap ts) (hi : Inj ts) {k : Nat} (hk : k < ts.length) {es : List TypeId} (o : Only w S es) (f : Fr (fun q => q = (ts.getD k tab0).G ∨ S q) w w')
    (he : ∀ e ∈ 93 :: tabTys, e ∉ es) {t' : TS} (kin : TS.Kin (ts.getD k tab0).t t') (ht : TAt w' (ts.getD k tab0).G (ts.getD k tab0).g (ts.getD k tab0).cap (ts.getD k tab0).vars t') : TabsAt w' so tcap (ts.set k { ts.getD k tab0 with t := t' }) := by
  have hs := SameT.set hk kin
  obtain ⟨cG, eG, hbG, hcG⟩ := (h.at_ k hk).tyG
  have oG : Only w (fun q => q = (ts.getD k tab0).G ∨ S q) (eG :: es) := (Only.one hbG).or o
  refine ⟨?_, fun i hi' => ?_, fun i hi' => ?_, fun i hi' => ?_⟩
  · rw [hs.len, hs.vals]
    refine h.row.frO f oG ?_
    rw [List.mem_cons]
    rintro (rfl | hx)
    · revert hcG; decide
    · exact he _ (List.mem_cons_self ..) hx
  · rw [List.length_set] at hi'
    rw [getD_setT _ _ _ _ hk]
    by_cases e : k = i
    · subst e
      rw [if_pos rfl]
      exact ht
    · rw [if_neg e]
      refine (h.at_ i hi').fr f ?_
      rintro q hq (hx | hx)
      · obtain ⟨cur, e', hb, hc⟩ := (h.at_ i hi').tyAt hq
        subst hx
        have e2 := (hb.inj hbG).2
        rcases hq with hq | hq | hq
        · exact e (hi k i hk hi' hq)
        · obtain ⟨cur2, hb2, _⟩ := (show Row w (.slice (some ⟨(ts.getD i tab0).g, 0, none⟩) (ts.getD i tab0).vars.length (ts.getD i tab0).cap) 3 ((ts.getD i tab0).vars.map (Value.int .i64)) from by
            have := h.at_ i hi'
            revert this
            cases (ts.getD i tab0).t with
            | rs nt br live => exact fun h => h.2.1
            | dg nv os root => exact fun h => h.1.rv).blk (k := (ts.getD i tab0).g) rfl
          rw [hq] at hbG
          have e3 := (hb2.inj hbG).2
          subst e3
          revert hcG
          decide
        · have h3 := h.at_ i hi'
          revert h3 hq
          cases (ts.getD i tab0).t with
          | rs nt br live => exact fun hq => hq.elim
          | dg nv os root =>
            intro h3 hq
            obtain ⟨cur2, hb2⟩ := ownsRow.blk hq.1.row h3
            have e3 := (hb2.inj hbG).2
            subst e3
            revert hcG
            decide
      · obtain ⟨cur, e', hb, hc⟩ := (h.at_ i hi').tyAt hq
        refine he e' (List.mem_cons_of_mem _ ?_) (o q cur e' hx hb)
        simp only [tabTys, List.mem_cons, List.not_mem_nil, or_false]
        exact hc
  · rw [List.length_set] at hi'
    rw [(hs.at_ i hi').2.2.2.1]
    exact h.four i hi'
  · rw [List.length_set] at hi'
    rw [(hs.at_ i hi').2.2.2.1]
    exact h.ok i hi'
theorem undo_app (us : List Un) (u : Un) (s s' : List Nat × List TS) (h : u.undo s' = s) : (us ++ [u]).foldr Un.undo s' = us.foldr Un.undo s := by
  simp [List.foldr_append, h]
/-- Narrowing table k is put back. -/
theorem undo_set (ts : List Tab) (k : Nat) (hk : k < ts.length) (t' : TS) (d : List Nat) (T S : Nat) : (Un.n T S k (ts.getD k tab0).t).undo (d, (ts.set k { ts.getD k tab0 with t := t' }).map Tab.t) = (d, ts.map Tab.t) := by
  simp only [Un.undo, List.map_set, List.set_set, Prod.mk.injEq, true_and]
  refine List.ext_getElem (by simp) fun i h1 h2 => ?_
  simp only [List.getElem_set, List.getElem_map]
  split
  · rename_i e
    subst e
    simp [List.getD, hk]
  · rfl
end Go.Proofs.Ytkjfpdfkcfgfkaa

/- settle, over any tables, at any level: what lies in memory between its rounds. -/
namespace Go.Proofs.Ytkjfpdfkcfgfkaa
open Go.RowKit

/-- Numbers of a block, for the measure. -/
def cellsOf (w : World) (g : Nat) : List Value := match w.heap[g]? with
  | some (.cells c _ _) => c.toList
  | _ => []
def natOf : Value → Nat
  | .int _ z => z.toNat
  | _ => 0
def boolOf : Value → Bool
  | .bool b => b
  | _ => false
theorem cellsOf_blk {w : World} {g : Nat} {cur : Array Value} {e : TypeId} (h : Blk w g cur e) : cellsOf w g = cur.toList := by
  have h' : w.heap[g]? = some (.cells cur e (0, 0)) := h
  simp [cellsOf, h']
def muOf (w : World) (N : Nat) : Nat := bitsOf ((cellsOf w N).map natOf) * 13 + marksOf ((cellsOf w (N + 1)).map boolOf)
theorem mu_at {w : World} {N : Nat} {next : List Nat} {m : List Bool} (h : Blk w N (domV next) 76) (h' : Blk w (N + 1) (mksV m) 91) : muOf w N = bitsOf next * 13 + marksOf m := by
  have e1 : (domV next).toList.map natOf = next := by
    exact List.ext_getElem (by simp) (fun i h1 h2 => by simp [natOf])
  have e2 : (mksV m).toList.map boolOf = m := by
    exact List.ext_getElem (by simp [mksV]) (fun i h1 h2 => by simp [mksV, boolOf])
  simp only [muOf, cellsOf_blk h, cellsOf_blk h', e1, e2]

/-- What settle is called with: the Work, its domains, its tables in memory and in the document's words, its trail, where the closure begins. -/
structure SCtx where
  X : Nat
  szv : Value
  zs : List Int
  d : List Nat
  so : Option Addr
  tcap : Nat
  l : Rest
  ss : List Value
  xs : List Value
  ts : List Tab
  bs : List Tb
  start : List Nat
/-- What settle may write: the Work, its tables, the trail's row. -/
def SFr (X : Nat) (ts : List Tab) (bv : Value) (k : Nat) : Prop := k = X ∨ (∃ i, i < ts.length ∧ k = (ts.getD i tab0).G) ∨ bv.ownBlock = some k
/-- What the trail holds: at level 0 nothing more. -/
def keepIf (ss xs : List Value) (us : List Un) : List Value := if ss.isEmpty then xs else xs ++ us.map Un.val
theorem keepIf_nil (ss xs : List Value) : keepIf ss xs [] = xs := by simp [keepIf]
theorem keepIf_wr (ss xs : List Value) (us : List Un) (u : Un) : wrTo ss (keepIf ss xs us) u.val = keepIf ss xs (us ++ [u]) := by
  unfold wrTo keepIf
  split <;> simp
theorem keepIf_len (ss xs : List Value) (us : List Un) : (keepIf ss xs us).length ≤ xs.length + us.length := by
  unfold keepIf
  split <;> simp
/-- Memory between two rounds. -/
structure SMem (c : SCtx) (w wr : World) (next : List Nat) (m : List Bool) (ts : List Tab) (bv : Value) (us : List Un) : Prop where
  fr : Fr (SFr c.X c.ts c.l.backs) w wr
  own : ∀ k, bv.ownBlock = some k → c.l.backs.ownBlock = some k ∨ w.heap.size ≤ k
  blk : Blk wr c.X (workCells c.szv c.d (.slice c.so ts.length c.tcap) ⟨bv, c.l.starts, c.l.busy⟩) 82
  nx : Blk wr w.heap.size (domV next) 76
  mks : Blk wr (w.heap.size + 1) (mksV m) 91
  sz : Row wr c.szv 3 (c.zs.map (Value.int .i64))
  tabs : TabsAt wr c.so c.tcap ts
  tr : TrAt wr ⟨bv, c.l.starts, c.l.busy⟩ c.ss (keepIf c.ss c.xs us)
  same : SameT c.ts ts
  un : ∀ u ∈ us, u.At wr c.X ts ∧ u.isN
  new : ∀ u ∈ us, ∀ k, u.boxes k → w.heap.size ≤ k
  back : us.foldr Un.undo (c.d, ts.map Tab.t) = (c.d, c.ts.map Tab.t)
/-- Marks and domains are written. -/
theorem SMem.wr {c : SCtx} {w wr wr' : World} {next next' : List Nat} {m m' : List Bool} {ts : List Tab} {bv : Value} {us : List Un} {S : Nat → Prop} (h : SMem c w wr next m ts bv us) (f : Fr S wr wr') (o : Only wr S [91, 76]) (hs : ∀ k, S k → w.heap.size ≤ k)
    (nx' : Blk wr' w.heap.size (domV next') 76) (mk' : Blk wr' (w.heap.size + 1) (mksV m') 91) : SMem c w wr' next' m' ts bv us :=
  ⟨h.fr.trans f (fun i hi => .inr (hs i hi)), h.own, h.blk.frO f o (by decide), nx', mk', h.sz.frO f o (by decide), h.tabs.frO f o (by decide), h.tr.frO f o (by decide), h.same, fun u hu => ⟨(h.un u hu).1.frO f o (by decide) (.inl (h.un u hu).2), (h.un u hu).2⟩, h.new, h.back⟩
theorem SMem.nw {c : SCtx} {w wr wr' : World} {next : List Nat} {m : List Bool} {ts : List Tab} {bv : Value} {us : List Un} (h : SMem c w wr next m ts bv us) (f : Nw wr wr') : SMem c w wr' next m ts bv us :=
  h.wr f ((Only.none wr).mono (fun _ x => x) (fun _ x => by cases x)) (fun _ x => x.elim) (h.nx.nw f) (h.mks.nw f)
theorem SMem.only {c : SCtx} {w wr : World} {next : List Nat} {m : List Bool} {ts : List Tab} {bv : Value} {us : List Un} (h : SMem c w wr next m ts bv us) {k : Nat} (hk : k < ts.length) :
    Only wr (fun q => q = (ts.getD k tab0).G ∨ q = c.X ∨ bv.ownBlock = some q) [142, 136, 82, 1] := by
  obtain ⟨cG, eG, hbG, hcG⟩ := (h.tabs.at_ k hk).tyG
  have oR : Only wr (fun q => q = c.X ∨ bv.ownBlock = some q) [82, 1] := (Only.one h.blk).or (Only.row h.tr.backs)
  refine ((Only.one hbG).or oR).mono (fun _ x => x) ?_
  intro e he
  rcases hcG with rfl | rfl
  · revert e; decide
  · revert e; decide
/-- What the round reads. -/
theorem SMem.reads {c : SCtx} {w wr : World} {next : List Nat} {m : List Bool} {ts : List Tab} {bv : Value} {us : List Un} (h : SMem c w wr next m ts bv us) (hd8 : c.d.length = 8) {k : Nat} (hk : k < ts.length) {tb : Nat} (hso : c.so = some ⟨tb, 0, none⟩) :
    wr.cell? ⟨c.X, 9, none⟩ = some (.slice (some ⟨tb, 0, none⟩) ts.length c.tcap) ∧ wr.cell? ⟨tb, k, none⟩ = some (ts.getD k tab0).val ∧ Blk wr w.heap.size (domV next) 76 := by
  refine ⟨(h.blk.cell 9).trans ((workCells_tabs _ _ _ _ hd8).trans (by rw [hso])), ?_, h.nx⟩
  have hr := h.tabs.row
  rw [hso] at hr
  rw [(hr.at_ k (by simpa using hk)).1]
  simp [List.getD, hk]
/-- A table is narrowed. -/
theorem SMem.narrowed {c : SCtx} {w wr w3 : World} {next : List Nat} {m : List Bool} {ts : List Tab} {bv bv' : Value} {us : List Un} (h : SMem c w wr next m ts bv us) (hinj : Inj c.ts) {k : Nat} (hk : k < ts.length) {t' : TS} {T S : Nat} (kin : TS.Kin (ts.getD k tab0).t t')
    (f : Fr (fun q => q = (ts.getD k tab0).G ∨ q = c.X ∨ bv.ownBlock = some q) wr w3) (hT : TAt w3 (ts.getD k tab0).G (ts.getD k tab0).g (ts.getD k tab0).cap (ts.getD k tab0).vars t')
    (hX : Blk w3 c.X (workCells c.szv c.d (.slice c.so ts.length c.tcap) ⟨bv', c.l.starts, c.l.busy⟩) 82) (htr : TrAt w3 ⟨bv', c.l.starts, c.l.busy⟩ c.ss (wrTo c.ss (keepIf c.ss c.xs us) (backN T S)))
    (hbT : Blk w3 T #[(ts.getD k tab0).val] 93) (hbS : Blk w3 S (ts.getD k tab0).t.state 148) (hown : ∀ q, bv'.ownBlock = some q → bv.ownBlock = some q ∨ wr.heap.size ≤ q) (hTl : wr.heap.size ≤ T) (hSl : wr.heap.size ≤ S) :
    SMem c w w3 next m (ts.set k { ts.getD k tab0 with t := t' }) bv' (us ++ [Un.n T S k (ts.getD k tab0).t]) := by
  have hs := SameT.set hk kin
  have oR : Only wr (fun q => q = c.X ∨ bv.ownBlock = some q) [82, 1] := (Only.one h.blk).or (Only.row h.tr.backs)
  have o := h.only hk
  have hk0 : k < c.ts.length := by rw [← h.same.len]; exact hk
  refine ⟨h.fr.trans f ?_, fun q hq => ?_, ?_, h.nx.frO f o (by decide), h.mks.frO f o (by decide), h.sz.frO f o (by decide), h.tabs.step (h.same.inj hinj) hk oR f (by decide) kin hT, ?_, h.same.trans hs, ?_, ?_, ?_⟩
  · rintro i (rfl | rfl | hi)
    · exact .inl (.inr (.inl ⟨k, hk0, (h.same.at_ k hk0).1⟩))
    · exact .inl (.inl rfl)
    · exact (h.own i hi).imp (fun x => .inr (.inr x)) id
  · rcases hown q hq with h1 | h1
    · exact h.own q h1
    · exact .inr (Nat.le_trans h.fr.size h1)
  · rw [hs.len]
    exact hX
  · rw [← keepIf_wr]
    exact htr
  · intro u hu
    rcases List.mem_append.1 hu with hu | hu
    · exact ⟨((h.un u hu).1.frO f o (by decide) (.inl (h.un u hu).2)).same hs, (h.un u hu).2⟩
    · rw [List.mem_singleton] at hu
      subst hu
      refine ⟨Un.At.same (ts := ts) ⟨hk, hbT, hbS, ?_⟩ hs, trivial⟩
      exact (h.tabs.at_ k hk).was.frO f o (by decide)
  · intro u hu q hq
    rcases List.mem_append.1 hu with hu | hu
    · exact h.new u hu q hq
    · rw [List.mem_singleton] at hu
      subst hu
      have := h.fr.size
      rcases hq with rfl | rfl
      · omega
      · omega
  · rw [undo_app _ _ (c.d, ts.map Tab.t) _ (undo_set ts k hk t' c.d T S)]
    exact h.back
/-- Behind settle. -/
structure Settled (c : SCtx) (B : Nat) (w w' : World) (d' : List Nat) (bv : Value) (ts : List Tab) (us : List Un) : Prop where
  fr : Fr (SFr c.X c.ts c.l.backs) w w'
  own : ∀ k, bv.ownBlock = some k → c.l.backs.ownBlock = some k ∨ w.heap.size ≤ k
  blk : Blk w' c.X (workCells c.szv d' (.slice c.so ts.length c.tcap) ⟨bv, c.l.starts, c.l.busy⟩) 82
  sz : Row w' c.szv 3 (c.zs.map (Value.int .i64))
  tabs : TabsAt w' c.so c.tcap ts
  tr : TrAt w' ⟨bv, c.l.starts, c.l.busy⟩ c.ss (keepIf c.ss c.xs us)
  same : SameT c.ts ts
  un : ∀ u ∈ us, u.At w' c.X ts
  new : ∀ u ∈ us, ∀ k, u.boxes k → w.heap.size ≤ k
  back : us.foldr Un.undo (d', ts.map Tab.t) = (c.d, c.ts.map Tab.t)
  clo : Closure c.zs.length c.bs c.start d'
  dm : Dm d'
  rep : ∀ k, k < c.bs.length → TRep (c.bs.getD k tb0) d' (ts.getD k tab0).t
  cnt : us.length + bitsOf d' * 13 ≤ B + (if d' = c.d then 0 else 1)
/-- The domains are replaced. -/
theorem SMem.replaced {c : SCtx} {w wr w' : World} {next n : List Nat} {m : List Bool} {ts : List Tab} {bv : Value} {us : List Un} (h : SMem c w wr next m ts bv us) {B : Nat} (hd8 : c.d.length = 8) (hd6 : ∀ x ∈ c.d, x < 64)
    (hclo : Closure c.zs.length c.bs c.start n) (hdm : Dm n) (hrep : ∀ k, k < c.bs.length → TRep (c.bs.getD k tb0) n (ts.getD k tab0).t) (hcnt : us.length + bitsOf n * 13 ≤ B)
    (f : Fr (fun k => k = c.X ∨ bv.ownBlock = some k) wr w') {tv : Value} (htv : tv = .slice c.so ts.length c.tcap)
    (hp : (n = c.d ∧ Blk w' c.X (workCells c.szv c.d tv ⟨bv, c.l.starts, c.l.busy⟩) 82 ∧ TrAt w' ⟨bv, c.l.starts, c.l.busy⟩ c.ss (keepIf c.ss c.xs us)) ∨ (n ≠ c.d ∧ ∃ bv' D, Blk w' c.X (workCells c.szv n tv ⟨bv', c.l.starts, c.l.busy⟩) 82 ∧ TrAt w' ⟨bv', c.l.starts, c.l.busy⟩ c.ss (wrTo c.ss (keepIf c.ss c.xs us) (backR wr.heap.size D)) ∧
        Blk w' wr.heap.size #[.pointer (some ⟨c.X, 0, none⟩)] 36 ∧ Blk w' D (domV c.d) 76 ∧ wr.heap.size ≤ D ∧ (∀ k, bv'.ownBlock = some k → bv.ownBlock = some k ∨ wr.heap.size ≤ k))) :
    ∃ bv us, Settled c B w w' n bv ts us := by
  subst htv
  have o : Only wr (fun q => q = c.X ∨ bv.ownBlock = some q) [82, 1] := (Only.one h.blk).or (Only.row h.tr.backs)
  have hfr := h.fr.trans f (fun i hi => hi.elim (fun e => .inl (.inl e)) (fun e => (h.own i e).imp (fun x => .inr (.inr x)) id))
  have hun : ∀ u ∈ us, u.At w' c.X ts := fun u hu => (h.un u hu).1.frO f o (by decide) (.inl (h.un u hu).2)
  rcases hp with ⟨rfl, hX, htr⟩ | ⟨hne, bv', D, hX, htr, hbP, hbD, hDl, hown⟩
  · exact ⟨bv, us, hfr, h.own, hX, h.sz.frO f o (by decide), h.tabs.frO f o (by decide), htr, h.same, hun, h.new, h.back, hclo, hdm, hrep, by rw [if_pos rfl]; exact hcnt⟩
  · refine ⟨bv', us ++ [Un.r wr.heap.size D c.d], hfr, fun q hq => ?_, hX, h.sz.frO f o (by decide), h.tabs.frO f o (by decide), ?_, h.same, fun u hu => ?_, fun u hu q hq => ?_, ?_, hclo, hdm, hrep, ?_⟩
    · rcases hown q hq with h1 | h1
      · exact h.own q h1
      · exact .inr (Nat.le_trans h.fr.size h1)
    · rw [← keepIf_wr]
      exact htr
    · rcases List.mem_append.1 hu with hu | hu
      · exact hun u hu
      · rw [List.mem_singleton] at hu
        subst hu
        exact ⟨hbP, hbD, hd8, hd6⟩
    · rcases List.mem_append.1 hu with hu | hu
      · exact h.new u hu q hq
      · rw [List.mem_singleton] at hu
        subst hu
        have := h.fr.size
        rcases hq with rfl | rfl
        · omega
        · omega
    · rw [undo_app _ _ (c.d, ts.map Tab.t) _ rfl]
      exact h.back
    · rw [if_neg hne, List.length_append]
      simp only [List.length_singleton]
      omega
end Go.Proofs.Ytkjfpdfkcfgfkaa
