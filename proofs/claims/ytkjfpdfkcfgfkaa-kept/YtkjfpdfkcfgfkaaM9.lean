/- Parts of the proof, number 9: contracts of the functions that the statement calls. -/
import Derived.Test.YtkjfpdfkcfgfkaaM8

/- Kept: all: the lists that all tables allow, counted up. -/
namespace Go.Proofs.Ytkjfpdfkcfgfkaa
open Go.RowKit

def natI (l : List Nat) : List Int := l.map (fun (x : Nat) => (x : Int))
theorem natI_len (l : List Nat) : (natI l).length = l.length := by simp [natI]
theorem natI_get' (l : List Nat) (k : Nat) : (natI l).getD k 0 = ((l.getD k 0 : Nat) : Int) := natI_get l k
/-- Rows in memory, in blocks from K on. -/
structure OutAt (K : Nat) (w : World) (v : Value) (rl : List Value) (rows : List (List Int)) : Prop where
  row : Row w v 22 rl
  len : rl.length = rows.length
  each : ∀ i, i < rows.length → Row w (rl.getD i undef) 3 ((rows.getD i []).map (Value.int .i64))
  since : ∀ q, v.ownBlock = some q → K ≤ q
  sinces : ∀ i, i < rows.length → ∀ q, (rl.getD i undef).ownBlock = some q → K ≤ q
theorem OutAt.toT {K : Nat} {w : World} {v : Value} {rl : List Value} {rows : List (List Int)} (h : OutAt K w v rl rows) : RowsT w v rl rows := ⟨h.row, h.len, h.each⟩
theorem OutAt.fr {S : Nat → Prop} {K : Nat} {w w2 : World} {v : Value} {rl : List Value} {rows : List (List Int)} (h : OutAt K w v rl rows) (f : Fr S w w2) (hs : ∀ k, S k → k < K) : OutAt K w2 v rl rows :=
  ⟨h.row.fr f (fun k hk hS => by have := h.since k hk; have := hs k hS; omega), h.len, fun i hi => (h.each i hi).fr f (fun k hk hS => by have := h.sinces i hi k hk; have := hs k hS; omega), h.since, h.sinces⟩
theorem OutAt.nw {K : Nat} {w w2 : World} {v : Value} {rl : List Value} {rows : List (List Int)} (h : OutAt K w v rl rows) (f : Nw w w2) : OutAt K w2 v rl rows := h.fr f (fun _ x => x.elim)
/-- One row more. -/
theorem OutAt.app {K : Nat} {w w2 : World} {v v' nv : Value} {rl : List Value} {rows : List (List Int)} {row : List Int} {g : Nat} (h : OutAt K w v rl rows) (hn : Row w nv 3 (row.map (Value.int .i64))) (hnK : ∀ q, nv.ownBlock = some q → K ≤ q) (hr : Row w2 v' 22 (rl ++ [nv])) (hf : Fr (fun k => v.ownBlock = some k) w w2)
    (hv : v'.ownBlock = some g) (ha : v.ownBlock = some g ∨ K ≤ g) : OutAt K w2 v' (rl ++ [nv]) (rows ++ [row]) := by
  have fI : ∀ (u : Value) (xs : List Value), Row w u 3 xs → Row w2 u 3 xs := fun u xs ho => ho.fr hf (fun k hk hS => by
    obtain ⟨cur, hb, _⟩ := ho.blk hk
    exact h.row.ne hb (by decide) hS)
  have e1 : ∀ i, i < rows.length → (rl ++ [nv]).getD i undef = rl.getD i undef := fun i hij => by simp only [List.getD]; rw [List.getElem?_append_left (by rw [h.len]; exact hij)]
  have e2 : ∀ i, i < rows.length → (rows ++ [row]).getD i [] = rows.getD i [] := fun i hij => by simp only [List.getD]; rw [List.getElem?_append_left hij]
  have e3 : (rl ++ [nv]).getD rows.length undef = nv := by simp only [List.getD]; rw [List.getElem?_append_right (by rw [h.len]; omega), h.len]; simp
  have e4 : (rows ++ [row]).getD rows.length [] = row := by simp only [List.getD]; rw [List.getElem?_append_right (by omega)]; simp
  refine ⟨hr, by rw [List.length_append, List.length_append, h.len]; rfl, fun i hi => ?_, fun q hq => ?_, fun i hi => ?_⟩
  · rw [List.length_append] at hi
    by_cases hij : i < rows.length
    · rw [e1 i hij, e2 i hij]
      exact fI _ _ (h.each i hij)
    · have hi' : i = rows.length := by simp at hi; omega
      subst hi'
      rw [e3, e4]
      exact fI _ _ hn
  · rw [hv] at hq
    cases hq
    rcases ha with h' | h'
    · exact h.since _ h'
    · exact h'
  · rw [List.length_append] at hi
    by_cases hij : i < rows.length
    · rw [e1 i hij]
      exact h.sinces i hij
    · have hi' : i = rows.length := by simp at hi; omega
      subst hi'
      rw [e3]
      exact hnK
/-- Do the first k tables allow it? -/
def okTo (ts : List Tw) (l : List Nat) (k : Nat) : Bool := (List.range k).all (fun j => allowI (ts.getD j tw0).tb.rows (ts.getD j tw0).tb.vars (natI l) (ts.getD j tw0).tb.nt)
theorem okTo_succ (ts : List Tw) (l : List Nat) (k : Nat) : okTo ts l (k + 1) = (okTo ts l k && allowI (ts.getD k tw0).tb.rows (ts.getD k tw0).tb.vars (natI l) (ts.getD k tw0).tb.nt) := by simp [okTo, List.range_succ]
theorem allowI_eq (b : Tb) (l : List Nat) : allowI b.rows b.vars (natI l) b.nt = allowB b.rows b.nt (picks b.vars l) := by
  rw [Bool.eq_iff_iff, allowB_iff]
  exact allowI_allow (by simp [picks]) (fun k hk => by rw [natI_get', picks_get _ _ _ hk])
theorem okTo_all (ts : List Tw) (l : List Nat) : okTo ts l ts.length = goodB (ts.map Tw.tb) l := by
  rw [Bool.eq_iff_iff]
  unfold okTo goodB
  simp only [List.all_eq_true, List.mem_range, List.mem_map]
  constructor
  · rintro h b ⟨t, ht, rfl⟩
    obtain ⟨i, hi, rfl⟩ := List.getElem_of_mem ht
    have := h i hi
    rw [show ts.getD i tw0 = ts[i] by simp [List.getD, hi], allowI_eq] at this
    exact this
  · intro h i hi
    rw [allowI_eq]
    refine h _ ⟨ts.getD i tw0, ?_, rfl⟩
    rw [show ts.getD i tw0 = ts[i] by simp [List.getD, hi]]
    exact List.getElem_mem hi
theorem cnt_le {zs : List Nat} (h : ∀ z ∈ zs, z ≤ 6) : (cntL zs).length ≤ 6 ^ zs.length := by
  induction zs with
  | nil => simp [cntL]
  | cons z zs ih =>
    have h1 := ih (fun y hy => h y (by simp [hy]))
    have h2 := h z (by simp)
    have e : (cntL (z :: zs)).length = z * (cntL zs).length := by
      simp only [cntL, List.length_flatMap, List.length_map]
      rw [List.map_const', List.sum_replicate_nat, List.length_range]
    rw [e, List.length_cons, Nat.pow_succ, Nat.mul_comm]
    exact Nat.mul_le_mul h1 h2
/-- The numbers that lie in a block. -/
def memL (w : World) (b : Nat) : List Nat := match w.heap[b]? with
  | some (.cells cur _ _) => cur.toList.map (fun v => (intOf v).toNat)
  | _ => []
theorem memL_of {w : World} {b : Nat} {l : List Nat} {e : TypeId} (h : Blk w b (intsV (natI l)) e) : memL w b = l := by
  have h' : w.heap[b]? = some (.cells (intsV (natI l)) e (0, 0)) := h
  unfold memL
  rw [h']
  simp only [intsV, natI, List.map_map]
  rw [show (fun v => (intOf v).toNat) ∘ Value.int IntKind.i64 ∘ (fun (x : Nat) => (x : Int)) = fun x => x from by funext x; simp [intOf]]
  simp
theorem drop_zero (l : List Nat) (n j : Nat) (hl : l.length = n) (hj : j < n) : (l.take (j + 1) ++ List.replicate (n - (j + 1)) 0).set j 0 = l.take j ++ List.replicate (n - j) 0 := by
  have e : l.take (j + 1) = l.take j ++ [l.getD j 0] := by
    rw [List.take_succ_eq_append_getElem (by omega)]
    simp [List.getD, hl, hj]
  have e2 : (l.take j).length = j := by simp; omega
  rw [e, List.append_assoc, List.set_append_right _ _ (by omega), e2, Nat.sub_self, List.singleton_append, List.set_cons_zero]
  obtain ⟨m, hm⟩ : ∃ m, n - j = m + 1 := ⟨n - j - 1, by omega⟩
  rw [hm, show n - (j + 1) = m by omega, List.replicate_succ]
theorem up_one (l : List Nat) (n j x : Nat) (hl : l.length = n) (hj : j < n) : (l.take (j + 1) ++ List.replicate (n - (j + 1)) 0).set j x = l.take j ++ x :: List.replicate (n - (j + 1)) 0 := by
  have e : l.take (j + 1) = l.take j ++ [l.getD j 0] := by
    rw [List.take_succ_eq_append_getElem (by omega)]
    simp [List.getD, hl, hj]
  have e2 : (l.take j).length = j := by simp; omega
  rw [e, List.append_assoc, List.set_append_right _ _ (by omega), e2, Nat.sub_self, List.singleton_append, List.set_cons_zero]
theorem take_get (l : List Nat) (n j : Nat) (hl : l.length = n) (hj : j < n) : (l.take (j + 1) ++ List.replicate (n - (j + 1)) 0).getD j 0 = l.getD j 0 := by
  rw [getD_before _ _ _ (by simp; omega)]
  simp [List.getD]
theorem natI_set (l : List Nat) (j x : Nat) : (natI l).set j (x : Int) = natI (l.set j x) := by simp [natI, List.map_set]
end Go.Proofs.Ytkjfpdfkcfgfkaa

/- Kept: all, the walk. -/
namespace Go.Proofs.Ytkjfpdfkcfgfkaa
open Go.RowKit

theorem up_get (l : List Nat) (j x m q : Nat) (hj : j < l.length) : (l.take j ++ x :: List.replicate m 0).getD q 0 = if q < j then l.getD q 0 else if q = j then x else 0 := by
  have e2 : (l.take j).length = j := by simp; omega
  by_cases h : q < j
  · rw [if_pos h, getD_before _ _ _ (by omega)]
    simp [List.getD, h]
  · rw [if_neg h]
    simp only [List.getD]
    rw [List.getElem?_append_right (by omega), e2]
    by_cases h2 : q = j
    · subst h2
      simp
    · rw [if_neg h2]
      obtain ⟨k, hk⟩ : ∃ k, q - j = k + 1 := ⟨q - j - 1, by omega⟩
      rw [hk, List.getElem?_cons_succ, List.getElem?_replicate]
      split <;> rfl
theorem OutAt.mono {K K' : Nat} {w : World} {v : Value} {rl : List Value} {rows : List (List Int)} (h : OutAt K w v rl rows) (hk : K' ≤ K) : OutAt K' w v rl rows := ⟨h.row, h.len, h.each, fun q hq => Nat.le_trans hk (h.since q hq), fun i hi q hq => Nat.le_trans hk (h.sinces i hi q hq)⟩
/-- What append(nil, ..) leaves: a list of its own. -/
theorem nil_end {w w1 : World} {e : TypeId} {v' : Value} {n : Nat} {xs : List Value} (hx : 0 < n) (hn : xs.length = n) (h1 : w1.ownsRow 0 e 1 v' (0 + n) ([] ++ xs))
    (hg : w.grownBy w1 (Value.slice none 0 0).ownBlock) (hat : v'.ownBlock = (Value.slice none 0 0).ownBlock ∨ v'.ownBlock = some w.heap.size) :
    ∃ g cap, v' = .slice (some ⟨g, 0, none⟩) n cap ∧ Nw w w1 ∧ Row w1 v' e xs ∧ w.heap.size ≤ g := by
  subst hn
  have hr : Row w1 v' e xs := by unfold Row; simpa using h1
  have hfr : Nw w w1 := (Fr.refl _ w).grown hg (fun k hk => (by cases hk))
  rcases h1.2 with ⟨_, hn⟩ | ⟨g, cap, cur, rfl, _⟩
  · omega
  · refine ⟨g, cap, by simp, hfr, hr, ?_⟩
    rcases hat with hat | hat
    · simp [Value.ownBlock] at hat
    · simp [Value.ownBlock] at hat; omega

set_option maxHeartbeats 3200000 in
set_option maxRecDepth 1000000 in
theorem all_any (so : Option Addr) (sc : Nat) (lv : Value) (zs : List Int) (tvs : List Value) (ts : List Tw) (W w : World) (hok : okSizes zs = true) (ht12 : ts.length ≤ 12) (htok : ∀ i, i < ts.length → okTable zs (ts.getD i tw0).tb.vars (ts.getD i tw0).tb.rows (ts.getD i tw0).way = true)
    (hs : IntsAt w so zs) (hT : TblsOwn W w lv tvs ts) :
    Calls Try.prog 25 #[.slice so zs.length sc, lv] w fun e w' => ∃ v, e = .returned v ∧ Nw w w' ∧ ∃ rl, OutAt w.heap.size w' v rl (((cntL (zs.map Int.toNat)).filter (goodB (ts.map Tw.tb))).map natI) := by
  obtain ⟨i0, hi0, hz0, hz1, hz2⟩ := info_parts Try.infoInt
  obtain ⟨i1, hi1', hz1a, hz1b, hz1c⟩ := info_parts Try.infoInts
  obtain ⟨hn0, hn8⟩ := okSizes_len hok
  have hzget := fun i hi => okSizes_get hok i hi
  obtain ⟨lo, lcap, hform⟩ := hT.form
  subst hform
  have HT := hd hT
  have Hs := hd hs
  clear hT hs
  have hzn1 : ∀ z ∈ zs.map Int.toNat, 1 ≤ z := fun z hz => by
    obtain ⟨y, hy, rfl⟩ := List.mem_map.1 hz
    obtain ⟨i, hi, e⟩ := List.getElem_of_mem hy
    have := hzget i hi
    rw [show zs.getD i 0 = y by simp [List.getD, hi, e]] at this
    omega
  have hzn6 : ∀ z ∈ zs.map Int.toNat, z ≤ 6 := fun z hz => by
    obtain ⟨y, hy, rfl⟩ := List.mem_map.1 hz
    obtain ⟨i, hi, e⟩ := List.getElem_of_mem hy
    have := hzget i hi
    rw [show zs.getD i 0 = y by simp [List.getD, hi, e]] at this
    omega
  have hznl : (zs.map Int.toNat).length = zs.length := by simp
  have hznget : ∀ q, q < zs.length → (zs.map Int.toNat).getD q 0 = (zs.getD q 0).toNat := fun q hq => by simp [List.getD, hq]
  have hcl : (cntL (zs.map Int.toNat)).length ≤ 1679616 := by
    refine Nat.le_trans (cnt_le hzn6) ?_
    rw [hznl]
    exact Nat.le_trans (Nat.pow_le_pow_right (by omega) hn8) (by decide)
  obtain ⟨zn, hzn⟩ : ∃ zn, zs.map Int.toNat = zn := ⟨_, rfl⟩
  rw [hzn] at hzn1 hznl hznget hcl ⊢
  obtain ⟨bs, hbs⟩ : ∃ bs, ts.map Tw.tb = bs := ⟨_, rfl⟩
  have Hoka := hd (okTo_all ts)
  rw [hbs] at Hoka ⊢
  have Hcnt0 : Hid (rest zn (List.replicate zs.length 0) = cntL zn) := hd (by rw [← hznl]; exact rest_zero zn hzn1)
  clear hzn hbs hzn6
  go_enter Try.func25, Try.ntmps25
  go_wp2_with (at_make; refine wpList_make_full _ rfl _ _ 22 rfl w.heap.size 3 i0 (.int .i64 0) 1 Try.underlying22 hi0 hz0 hz1 .i64 .i64 _ _ zs.length rfl rfl (by go_num) (by go_num) (by rw [hz2]; omega) (by unfold maxLen; omega) (Nat.le_refl _) ?_; intro w1 hown hgrow)
  have hf1 : Nw w w1 := (Fr.refl (fun _ => False) w).grown hgrow (fun k e => by cases e)
  have hb1 : Blk w1 w.heap.size (intsV (natI (List.replicate zs.length 0))) 3 := by
    have h := blk_of_owns hown
    rw [made_ints] at h
    have e : natI (List.replicate zs.length 0) = List.replicate zs.length (0 : Int) := by simp [natI]
    rw [e]
    simpa using h
  have Hb1 := hd hb1
  have Hf1 := hd hf1
  have hs1 : w.heap.size < w1.heap.size := hb1.lt
  clear hb1 hf1 hown hgrow
  go_wp2_with fail
  go_loopw [5, 7, 8, 9, 10, 11] (fun out _ _ _ _ _ wr => ∃ (l : List Nat) (done : List (List Nat)) (rl : List Value), l.length = zs.length ∧ (∀ q, q < zs.length → (l.getD q 0 : Int) < zs.getD q 0) ∧ Hid (done ++ rest zn l = cntL zn) ∧ Hid (Blk wr w.heap.size (intsV (natI l)) 3) ∧ Hid (Fr (fun k => k = w.heap.size) w1 wr) ∧ Hid (OutAt w1.heap.size wr out rl ((done.filter (goodB bs)).map natI))) (fun _ _ _ _ _ _ wr => (rest zn (memL wr w.heap.size)).length)
  case atStart =>
    refine ⟨List.replicate zs.length 0, [], [], by simp, fun q hq => ?_, Hcnt0, Hb1, Fr.refl _ _, ⟨Row.nil _ _, rfl, fun i hi => absurd hi (Nat.not_lt_zero _), fun q hq => (by cases hq), fun i hi => absurd hi (Nat.not_lt_zero _)⟩⟩
    have := hzget q hq
    rw [show (List.replicate zs.length 0).getD q 0 = 0 by simp [List.getD, hq]]
    omega
  case round =>
    obtain ⟨l, done, rl, hll, hlz, HC, HL, HF, HO⟩ := hrel
    have HNw := hd (Hf1.out.trans HF.out (fun i h => .inr (by omega)))
    have hnl := natI_len l
    rw [hll] at hnl
    go_wp2_with fail
    go_loopw [7, 8, 9] (fun ok k _ w2 => ∃ q : Nat, q ≤ ts.length ∧ k = .int .i64 (q : Int) ∧ ok = .bool (okTo ts l q) ∧ Hid (Nw wr w2)) (fun _ k _ _ => ts.length - (intOf k).toNat)
    case atStart => exact ⟨0, by omega, rfl, rfl, Fr.refl _ _⟩
    case round =>
      rename World => w2
      obtain ⟨q, hq, rfl, rfl, HN⟩ := hrel
      by_cases hlt : q < ts.length
      · have hd1 : (q : Int) < (ts.length : Int) := by omega
        have hTw := HT.out.step (HNw.out.trans HN.out (fun _ x => x.elim))
        obtain ⟨g, cap, vo, vcap, tro, trc, hv, hgl, c0, c1, c2, c3, hvc, hI1, hI2⟩ := hTw.cell q hlt
        simp only [Value.slice.injEq] at hv
        obtain ⟨rfl, _, rfl⟩ := hv
        obtain ⟨hway, hv1, hr60, hVO, hvn, hrl⟩ := okTable_parts (htok q hlt) hn8
        have hIl : IntsAt w2 (some ⟨w.heap.size, 0, none⟩) (natI l) := IntsAt.of_blk (HL.out.nw HN.out) 0 _ (fun i hi => by rw [Nat.zero_add]; exact intsV_get _ i hi)
        have hal := allows_any vo tro (some ⟨w.heap.size, 0, none⟩) vcap trc zs.length (ts.getD q tw0).tb.vars (natI l) (ts.getD q tw0).tb.rows (ts.getD q tw0).tb.nt (ts.getD q tw0).way w2 hVO.four hr60 (fun i hi => ⟨(hVO.ok i hi).1, by rw [hnl]; exact hvn i hi⟩) hrl hI1 hI2 hIl
        rw [hnl] at hal
        have hsucc := okTo_succ ts l q
        obtain ⟨t, htv⟩ : ∃ t, ts.getD q tw0 = t := ⟨_, rfl⟩
        rw [htv] at c0 c1 c2 c3 hal hsucc
        obtain ⟨ab, hab⟩ : ∃ ab, allowI t.tb.rows t.tb.vars (natI l) t.tb.nt = ab := ⟨_, rfl⟩
        rw [hab] at hal hsucc
        have Hal := hd hal
        have Hsucc := hd hsucc
        clear hal hsucc hab htv hIl hTw hI1 hI2 hvc hVO hvn hrl hway hv1 hr60
        go_wp2_with fail
        refine Hal.out.mono ?_
        rintro e w3 ⟨rfl, hf3⟩
        have HN3 := hd (HN.out.trans hf3 (fun _ x => x.elim))
        clear hf3 Hal
        obtain ⟨ob, hob⟩ : ∃ ob, okTo ts l q = ob := ⟨_, rfl⟩
        rw [hob] at Hsucc ⊢
        clear hob
        cases ob with
        | true =>
          go_wp2_with fail
          exact ⟨⟨q + 1, by omega, by simp, by rw [Hsucc.out, Bool.true_and], HN3⟩, by simp [intOf]; omega⟩
        | false =>
          go_wp2_with fail
          exact ⟨⟨q + 1, by omega, by simp, by rw [Hsucc.out, Bool.false_and], HN3⟩, by simp [intOf]; omega⟩
      · obtain rfl : ts.length = q := by omega
        have hd1 : ¬ ((ts.length : Int) < (ts.length : Int)) := by omega
        rw [Hoka.out l]
        obtain ⟨gb, hgb⟩ : ∃ gb, goodB bs l = gb := ⟨_, rfl⟩
        rw [hgb]
        have HL2 := hd (HL.out.nw HN.out)
        have HO2 := hd (HO.out.nw HN.out)
        have HF2 := hd (HF.out.trans HN.out (fun _ x => x.elim))
        have Hgb := hd hgb
        obtain ⟨oo, oc, hof, _⟩ := HO.out.row.form
        have Hrl := hd (show rl.length = (done.filter (goodB bs)).length by rw [HO.out.len, List.length_map])
        have hdl : rl.length < 1679616 := by
          have h1 := congrArg List.length HC.out
          rw [List.length_append, rest_next zn l (by rw [hll, hznl]) hzn1, List.length_cons] at h1
          have h2 := List.length_filter_le (goodB bs) done
          have h3 := Hrl.out
          omega
        subst hof
        have Hmem := hd (memL_of HL.out)
        clear HL HO HF HN hgb
        go_upto_if 31 with fail
        go_cut [5, 10] (fun out _ wx => ∃ rl', Hid (Fr (fun k => k = w.heap.size) w1 wx) ∧ Hid (Blk wx w.heap.size (intsV (natI l)) 3) ∧ Hid (OutAt w1.heap.size wx out rl' (((done ++ [l]).filter (goodB bs)).map natI)))
        case first =>
          cases gb with
          | true =>
            have Hsrc : Hid (∀ (j : Nat) (v : Value), ((natI l).map (Value.int .i64))[j]? = some v → w2.cell? ((⟨w.heap.size, 0, none⟩ : Addr).add j) = some v) := fun j v hj => by
              rw [show (⟨w.heap.size, 0, none⟩ : Addr).add j = ⟨w.heap.size, j, none⟩ from by by_cases h : j = 0 <;> simp [Addr.add, h], HL2.out.cell]
              simpa [intsV] using hj
            have Hnl := hd hnl
            clear hnl
            go_wp2_with (at_builtin; first
              | (refine wpList_append_own_at _ rfl _ _ 22 rfl 0 3 i0 (.int .i64 0) 1 8 Try.underlying22 hi0 hz0 hz1 hz2 rfl (by decide) _ 0 [] rfl (World.ownsRow_nil _ _ _ _) ⟨w.heap.size, 0, none⟩ zs.length zs.length ((natI l).map (Value.int .i64)) rfl (by rw [List.length_map, Hnl.out]; simp) Hsrc.out (ints_oneCell _ _) (by unfold maxLen; omega) (by omega) (Nat.zero_le _) ?_; intro v' w3 hown' hgrow _ hat; obtain ⟨g', cap', rfl, hf3, hr3, hg3⟩ := nil_end hn0 (by rw [List.length_map, Hnl.out]) hown' hgrow hat; clear hown' hgrow hat; have Hr3 := hd hr3; have Hf3 := hd hf3; have HO3 := hd (HO2.out.nw hf3); clear hr3 hf3)
              | (refine wpList_append_own_at _ rfl _ _ 25 rfl 0 22 i1 (.slice none 0 0) 1 24 Try.underlying25 hi1' hz1a hz1b hz1c rfl (by decide) _ _ _ rfl (Row.alloc HO3.out.row _) ⟨_, 0, none⟩ 1 1 [.slice (some ⟨g', 0, none⟩) zs.length cap'] rfl rfl (cell_one_new _ _ _) (by simp [Value.oneCell']) (by unfold maxLen; omega) (by omega) (Nat.zero_le _) ?_; intro v' w4 hown' hgrow _ hat; obtain ⟨g4, cap4, rfl, hr4, hf4, ha4, hlt4⟩ := app1 hown' hgrow hat))
            go_meet
            have hw2 := HF2.out.size
            have hw3 := Hf3.out.size
            refine ⟨rl ++ [.slice (some ⟨g', 0, none⟩) zs.length cap'], ?_, ?_, ?_⟩
            · exact (HF2.out.trans Hf3.out (fun _ x => x.elim)).trans hf4 (fun i hi => .inr (HO3.out.since i hi))
            · exact (HL2.out.nw Hf3.out).fr hf4 (fun h => by have := HO3.out.since _ h; omega)
            · rw [List.filter_append, List.filter_cons_of_pos Hgb.out, List.filter_nil, List.map_append]
              exact HO3.out.app (g := g4) (row := natI l) Hr3.out (fun q hq => by cases hq; show w1.heap.size ≤ g'; omega) hr4 hf4 rfl (ha4.imp (fun h => h) (fun h => by omega))
          | false =>
            go_wp2_with fail
            go_meet
            exact ⟨rl, HF2, HL2, by rw [List.filter_append, List.filter_cons_of_neg (by rw [Hgb.out]; simp), List.filter_nil, List.append_nil]; exact HO2⟩
        case rest =>
          obtain ⟨rl', HF3, HL3, HO3⟩ := hcut
          rename World => wx
          clear HF2 HL2 HO2
          obtain ⟨oo3, oc3, hof3, _⟩ := HO3.out.row.form
          subst hof3
          go_wp2_with fail
          go_loopw [11] (fun i w4 => ∃ j : Nat, j ≤ zs.length ∧ i = .int .i64 ((j : Int) - 1) ∧ Hid (∀ q, j ≤ q → q < zs.length → l.getD q 0 + 1 = (zs.getD q 0).toNat) ∧ Hid (Blk w4 w.heap.size (intsV (natI (l.take j ++ List.replicate (zs.length - j) 0))) 3) ∧ Hid (Fr (fun k => k = w.heap.size) wx w4)) (fun i _ => (intOf i + 1).toNat)
          case atStart =>
            refine ⟨zs.length, by omega, by simp, fun q h1 h2 => by omega, ?_, Fr.refl _ _⟩
            rw [List.take_of_length_le (by omega), Nat.sub_self, List.replicate_zero, List.append_nil]
            exact HL3
          case round =>
            rename World => w4
            obtain ⟨j, hj, rfl, Hmax, HL4, HF4⟩ := hrel
            cases j with
            | zero =>
              have hge : ¬ ((0 : Int) ≤ ((0 : Nat) : Int) - 1) := by omega
              go_wp2_with fail
              go_quiet (fail)
              go_wp2_with fail
              go_ret
              refine ⟨_, rfl, ?_, rl', ?_⟩
              · exact (Hf1.out.trans HF3.out (fun i h => .inr (by omega))).trans (HF4.out.drewN nq) (fun i h => .inr (by omega))
              · have hnx := nxt_none zn l (by rw [hll, hznl]) (fun q hq => by rw [hznl] at hq; rw [hznget q hq]; exact Hmax.out q (Nat.zero_le _) hq)
                have hre := rest_next zn l (by rw [hll, hznl]) hzn1
                rw [hnx] at hre
                have hC := HC.out
                rw [hre] at hC
                rw [← hC]
                show OutAt _ _ (.slice oo3 rl'.length oc3) rl' _
                exact (HO3.out.fr (HF4.out.drewN nq) (fun k h => by omega)).mono (Nat.le_of_lt hs1)
            | succ j =>
              have e1 : (((j + 1 : Nat) : Int) - 1) = (j : Int) := by omega
              rw [e1]
              have hjz : j < zs.length := by omega
              have hjI : (j : Int) < (zs.length : Int) := by omega
              have hge : (0 : Int) ≤ (j : Int) := by omega
              have HN4 := hd ((Hf1.out.trans HF3.out (fun i h => .inr (by omega))).trans HF4.out (fun i h => .inr (by omega)))
              obtain ⟨zb, zof, hze, hzl, hzc⟩ := (Hs.out.nw HN4.out) j hjz
              subst hze
              have hzj := hzget j hjz
              have hlj := hlz j hjz
              have hcl4 : w4.cell? ⟨w.heap.size, j, none⟩ = some (.int .i64 ((l.getD j 0 : Nat) : Int)) := by
                have h := HL4.out.cell j
                rw [intsV_get _ _ (by rw [natI_len]; simp; omega), natI_get', take_get l zs.length j hll hjz] at h
                exact h
              have hfl4 := HL4.out.free j
              have hbl4 := HL4.out.lt
              obtain ⟨z, hz⟩ : ∃ z, zs.getD j 0 = z := ⟨_, rfl⟩
              obtain ⟨y, hy⟩ : ∃ y, l.getD j 0 = y := ⟨_, rfl⟩
              rw [hz] at hzc hzj hlj
              rw [hy] at hcl4 hlj
              have Hz := hd hz
              have Hy := hd hy
              clear hz hy
              by_cases hyz : (y : Int) = z - 1
              · have hb : ((y : Int) == z - 1) = true := by simp [hyz]
                go_wp2_with fail
                go_quiet (fail)
                go_wp2_with fail
                refine ⟨⟨j, by omega, rfl, fun q h1 h2 => ?_, ?_, (HF4.out.drewN nq).setCell _ _ (.inl rfl)⟩, by simp [intOf]⟩
                · by_cases hq : q = j
                  · rw [hq, Hy.out, Hz.out]
                    omega
                  · exact Hmax.out q (by omega) h2
                · have h5 := (HL4.out.drewN nq).set j (.int .i64 ((0 : Nat) : Int))
                  rw [intsV_set, natI_set, drop_zero l zs.length j hll hjz] at h5
                  exact h5
              · have hb : ((y : Int) == z - 1) = false := by rw [beq_eq_false_iff_ne]; exact hyz
                go_wp2_with fail
                go_quiet (fail)
                go_wp2_with fail
                have h5 := (HL4.out.drewN nq).set j (.int .i64 ((y + 1 : Nat) : Int))
                rw [intsV_set, natI_set, up_one l zs.length j (y + 1) hll hjz] at h5
                have hnx := nxt_some j zn l (by rw [hll, hznl]) (by rw [hznl]; exact hjz) (fun q h1 h2 => by rw [hznl] at h2; rw [hznget q h2]; exact Hmax.out q (by omega) h2) (by rw [hznget j hjz, Hy.out, Hz.out]; omega)
                rw [Hy.out, hznl] at hnx
                have hre := rest_next zn l (by rw [hll, hznl]) hzn1
                rw [hnx] at hre
                have hre' : rest zn l = l :: rest zn (l.take j ++ (y + 1) :: List.replicate (zs.length - (j + 1)) 0) := hre
                have hF5 : Fr (fun k => k = w.heap.size) wx ((w4.drewN nq).setCell ⟨w.heap.size, j, none⟩ (.int .i64 ((y + 1 : Nat) : Int))) := (HF4.out.drewN nq).setCell _ _ (.inl rfl)
                rw [show ((y : Int) + 1) = ((y + 1 : Nat) : Int) from rfl]
                refine ⟨⟨l.take j ++ (y + 1) :: List.replicate (zs.length - (j + 1)) 0, done ++ [l], rl', by simp; omega, fun q hq => ?_, ?_, h5, HF3.out.trans hF5 (fun i h => .inl h), HO3.out.fr hF5 (fun k h => by omega)⟩, ?_⟩
                · rw [up_get l j _ _ q (by omega)]
                  have hzq := hzget q hq
                  split
                  · exact hlz q hq
                  · split
                    · rename_i hqj
                      rw [hqj, Hz.out]
                      omega
                    · omega
                · show (done ++ [l]) ++ _ = _
                  rw [← HC.out, hre', List.append_assoc]
                  rfl
                · rw [memL_of h5, Hmem.out, hre']
                  simp
end Go.Proofs.Ytkjfpdfkcfgfkaa

/- A function that holds a range over solutions, and whose answer lies in a cell. -/
namespace Go.Proofs.Ytkjfpdfkcfgfkaa
open Go.RowKit Go.Shelf

/-- How a function ends that held one range over solutions: its answer lies in a cell. -/
structure MarkEnd (w : World) (p Rb : Nat) (a : Act) (W : World) : Prop where
  ptr : a.tmps.getD p undef = .pointer (some ⟨Rb, 0, none⟩)
  cell : W.cell? ⟨Rb, 0, none⟩ = some (.bool true)
  mark : ∃ D, a.defers = [mark D] ∧ W.heap[D]? = some (.deferred (some [])) ∧ w.heap.size ≤ D
  nw : Nw w W
def markPost (w : World) (p Rb : Nat) : Exit → Act → World → Prop
  | .normal, a, W | .ret, a, W => MarkEnd w p Rb a W
  | _, _, _ => False
theorem calls_marks {f : FuncId} {fn : Func} {c : Code} {args : Array Value} {w : World} {p Rb : Nat} (hf : Try.prog.funcs[f]? = some fn) (hb : fn.body = some c) (hr : fn.results = #[.cell p 4])
    (h : c.wp Try.prog (markPost w p Rb) { tmps := args ++ Array.replicate (fn.ntmps - args.size) undef, defers := [] } w) : Calls Try.prog f args w fun e w' => e = .returned (.bool true) ∧ Nw w w' := by
  have key : ∀ (a : Act) (W : World), MarkEnd w p Rb a W → LeavesInM Fence.wide 9 Try.prog fn a.tmps (fun e w' => e = .returned (.bool true) ∧ Nw w w') a.defers .returning W := fun a W hm => by
    obtain ⟨D, hD, hK, hs⟩ := hm.mark
    rw [hD]
    refine ⟨by simp, .inl ⟨_, _, rfl, run_takeDeferred hK, ?_⟩⟩
    have hpD : Fr (fun k => k = D) W (W.putObj D (.deferred none)) := (Fr.refl (fun k => k = D) W).grown (grownBy_putObj' W D _) (fun k hk => by cases hk; exact .inl rfl)
    have hne : Rb ≠ D := fun e => by
      have hc := hm.cell
      rw [e] at hc
      unfold World.cell? at hc
      rw [hK] at hc
      cases hc
    have hlt : Rb < W.heap.size := by
      refine Classical.byContradiction fun hn => ?_
      have hc := hm.cell
      unfold World.cell? at hc
      rw [Array.getElem?_eq_none (show W.heap.size ≤ Rb by omega)] at hc
      cases hc
    refine ⟨_, results_cell1 (v := .bool true) hr hm.ptr (by kernel_rfl) ((hpD.cell hlt hne).trans hm.cell), rfl, hm.nw.trans hpD (fun i h => .inr (by omega))⟩
  refine (callsIn_wide (n := 9)).1 ?_
  refine callsIn_of_wp_marks hf hb trivial (wpIn_wide.2 (Code.wp_mono (fun e a W hq => ?_) h)) rfl
  cases e with
  | normal => exact key a W hq
  | ret => exact key a W hq
  | _ => exact False.elim hq

/-- A range over solutions, whose body always ends. -/
theorem wp_sols2 {n X : Nat} {zs : List Int} {s : WS} {g : Operand} {t : Tmp} {assign body : Code} {Q : Exit → Act → World → Prop} {a : Act} {w : World} (t2 : Tmp)
    (hg : a.eval g = .func (.func 46) #[.pointer (some ⟨X, 0, none⟩)] #[]) (hA : WAt w X zs s) (hbz : s.l.busy = false)
    (hassign : ∀ (l : Nat) (v : Value) (W : World) (K : Act → World → Prop), K { tmps := (a.tmps.setIfInBounds t v).setIfInBounds t2 v, defers := [] } W → assign.wpIn (Fence.wide.inRound l) (n - 1 - 1) Try.prog (Exit.then K (fun _ _ _ => False)) { tmps := a.tmps.setIfInBounds t v, defers := [] } W)
    (I : List (List Nat) → (Nat → Prop) → World → Prop) (hI : SolInv X w.heap.size I) (C : Nat → Prop) (hC : ∀ k, s.own X k → ¬ C k) (h0 : I [] C w)
    (hround : ∀ (l : Nat) (done : List (List Nat)) (C : Nat → Prop) (x : List Nat) (b cap : Nat) (W : World), (done ++ [x]) <+: solN s.d s.bs zs.length [] → I done C W → WAt W X zs (s.busyAs true) → w.heap.size ≤ b → ¬ C b → Row W (.slice (some ⟨b, 0, none⟩) x.length cap) 3 (ints x) →
      body.wpIn (Fence.wide.inRound l) (n - 1 - 1) Try.prog (solPost (I (done ++ [x])) (fun _ _ => False) 0 C b W) { tmps := (a.tmps.setIfInBounds t (.slice (some ⟨b, 0, none⟩) x.length cap)).setIfInBounds t2 (.slice (some ⟨b, 0, none⟩) x.length cap), defers := [] } W)
    (hdone : ∀ (D : Nat) (C' : Nat → Prop) (W : World), w.heap.size ≤ D → (∀ k, C' k → C k ∨ w.heap.size ≤ k) → I (solN s.d s.bs zs.length []) C' W → WAt W X zs s → Fr (fun k => C k ∨ k = X) w W → W.heap[D]? = some (.deferred (some [])) → Q .normal { a with defers := mark D :: a.defers } W) :
    (Code.rangeFunc g #[t] assign body).wp Try.prog Q a w := by
  refine (wpIn_wide (n := n)).1 ?_
  exact wp_sols (id := 0) (zs := zs) (s := s) (fun v => { tmps := (a.tmps.setIfInBounds t v).setIfInBounds t2 v, defers := [] }) hg hA hbz hA.pos hassign I (fun _ _ _ => False) hI ⟨fun _ _ _ _ _ h => h.elim, fun _ _ _ _ h => h.elim⟩ C hC h0 hround hdone (fun _ _ _ _ _ _ _ _ h => h.elim)

/-- Two numbers differ. -/
theorem exec_neI {ev : Operand → Value} {o : Oper} {w : World} (a b : Int) (r : Bool) (x y : Operand) (ho : o.op = .binOp .neq 3 x y 3) (hx : ev x = .int .i64 a) (hy : ev y = .int .i64 b) (hr : (!(a == b)) = r) : (execOp ev o).run Try.prog w = .ok (.value (.bool r)) w := by
  have h2 : (eqGuard .neq 3 x y (.int .i64 a) (.int .i64 b)).run Try.prog w = .ok () w := by kernel_rfl
  have h3 : (binOp .neq 3 (.int .i64 a) (.int .i64 b)).run Try.prog w = .ok (.bool (!(a == b))) w := by kernel_rfl
  unfold execOp
  simp [ho, hx, hy, h2, h3, hr, Result.andThen]
theorem prefix_last {α : Type} {done all : List α} {x d : α} (h : (done ++ [x]) <+: all) : done.length < all.length ∧ all.getD done.length d = x ∧ x ∈ all := by
  obtain ⟨r, rfl⟩ := h
  refine ⟨by simp, ?_, by simp⟩
  simp [List.getD]
end Go.Proofs.Ytkjfpdfkcfgfkaa

/- Kept: the walk. -/
namespace Go.Proofs.Ytkjfpdfkcfgfkaa
open Go.RowKit Go.Shelf
attribute [local go_sem] Oper.semAt_some

set_option maxHeartbeats 400000 in
theorem in_any (ao : Option Addr) (ac : Nat) (ls : List Int) (v : Int) (w : World) (hl : ls.length ≤ 8) (h : IntsAt w ao ls) (hm : v ∈ ls) :
    Calls Try.prog 29 #[.slice ao ls.length ac, .int .i64 v] w fun e w' => e = .returned (.bool true) ∧ w' = w := by
  go_enter Try.func29, Try.ntmps29
  go_wp2_with fail
  go_loopw [5] (fun i wr => wr = w ∧ ∃ k : Nat, k ≤ ls.length ∧ i = .int .i64 (k : Int) ∧ anyTo ls v k = false) (fun i _ => ls.length - (intOf i).toNat)
  case atStart => exact ⟨rfl, 0, by omega, rfl, rfl⟩
  case round =>
    obtain ⟨rfl, k, hk, rfl, hany⟩ := hrel
    by_cases hlt : k < ls.length
    · have hd1 : (k : Int) < (ls.length : Int) := by omega
      obtain ⟨b, o, rfl, hb, hc⟩ := h k hlt
      have Hs := hd (anyTo_succ ls v k hlt)
      obtain ⟨x, hx⟩ : ∃ x, ls.getD k 0 = x := ⟨_, rfl⟩
      rw [hx] at hc Hs
      rw [hany] at Hs
      clear hx hany
      by_cases he : x = v
      · have he' : (x == v) = true := by simp [he]
        go_wp2_with fail
        go_ret
        exact ⟨rfl, rfl⟩
      · have he' : (x == v) = false := by rw [beq_eq_false_iff_ne]; exact he
        rw [he'] at Hs
        go_wp2_with fail
        exact ⟨⟨trivial, k + 1, by omega, by simp, Hs.out⟩, by simp [intOf]; omega⟩
    · obtain rfl : ls.length = k := by omega
      exfalso
      unfold anyTo at hany
      rw [List.take_length, List.any_eq_false] at hany
      exact hany v hm (by simp)
noncomputable def keptReg : Array Oper := regOps Try.f6 20

set_option maxHeartbeats 3200000 in
set_option maxRecDepth 1000000 in
theorem kept_walk (ao ro : Option Addr) (ac rc : Nat) (raw : List Int) (rs : List RawT) (w : World) (hl1 : raw.length * 8 ≤ 140737488355328)
    (ha : IntsAt w ao raw) (hr : RawsAt w ro rs) (hi1 : ∀ c ∈ raw, In64 c) :
    Calls Try.prog 6 #[.slice ao raw.length ac, .slice ro rs.length rc] w fun e w' => e = .returned (.bool true) ∧ Nw w w' := by
  obtain ⟨hz1, hz6⟩ := fitL_len raw 6 (by omega)
  have hzok := fitL_sizes raw 6 (by omega) (by omega)
  obtain ⟨zs, hzs⟩ : ∃ zs, fitL raw 6 = zs := ⟨_, rfl⟩
  rw [hzs] at hz1 hz6 hzok
  have hzget := fun i hi => okSizes_get hzok i hi
  have htok := tablesTo_ok zs rs 6 hz1 hzget
  obtain ⟨ts, hts⟩ : ∃ ts, tablesTo zs rs 6 = ts := ⟨_, rfl⟩
  have htl : ts.length ≤ 6 := by rw [← hts]; simp [tablesTo]; omega
  rw [hts] at htok
  have Hha := hd ha
  have Hhr := hd hr
  clear ha hr
  refine calls_marks (p := 4) (Rb := w.heap.size) Try.func6 rfl rfl ?_
  simp only [Try.ntmps6, List.size_toArray, List.length_cons, List.length_nil, Nat.reduceAdd, Nat.reduceSub, Array.replicate_succ, Array.replicate_zero, List.push_toArray, List.append_toArray, List.nil_append, List.cons_append]
  have hR0 : Blk (w.alloc (.cells #[.bool false] 4)) w.heap.size #[.bool false] 4 := Blk.new _ _ _
  have hfR : Nw w (w.alloc (.cells #[.bool false] 4)) := (Fr.refl _ w).alloc _
  go_wp2_with fail
  obtain ⟨wa, hwa⟩ : ∃ wa, w.alloc (.cells #[.bool false] 4) = wa := ⟨_, rfl⟩
  rw [hwa] at hR0 hfR ⊢
  have HR0 := hd hR0
  have HfR := hd hfR
  clear hR0 hfR hwa
  refine (sure_ok _).mono ?_
  rintro e w0 ⟨rfl, hf0⟩
  have Hf0 := hd hf0
  clear hf0
  go_wp2_with fail
  refine (counted_ok _).mono ?_
  rintro e w1 ⟨rfl, hf1⟩
  have Hf1 := hd (Hf0.out.trans hf1 (fun _ x => x.elim))
  clear hf1 Hf0
  go_wp2_with fail
  refine (fit_any ao ac raw 6 w1 (by omega) hl1 (Hha.out.nw (HfR.out.trans Hf1.out (fun _ x => x.elim))) hi1).mono ?_
  rintro e w2 ⟨zv, rfl, hO⟩
  rw [hzs] at hO
  obtain ⟨zo, zc, hzv, _⟩ := hO.row.form
  rw [List.length_map] at hzv
  subst hzv
  obtain ⟨wb, hwb⟩ : ∃ wb, w2.alloc (.cells #[.slice zo zs.length zc] 22) = wb := ⟨_, rfl⟩
  have hfb : Nw w2 wb := by rw [← hwb]; exact (Fr.refl _ w2).alloc _
  have hSb : Blk wb w2.heap.size #[.slice zo zs.length zc] 22 := by rw [← hwb]; exact Blk.new _ _ _
  have HO := hd (hO.row.nw hfb).ints'
  have Hf2 := hd ((Hf1.out.trans hO.nw (fun _ x => x.elim)).trans hfb (fun _ x => x.elim))
  have HSb := hd hSb
  have hcS : wb.cell? ⟨w2.heap.size, 0, none⟩ = some (.slice zo zs.length zc) := hSb.cell 0
  have hlS := hSb.lt
  clear hO Hf1 hfb hSb
  go_wp2_with fail
  refine (tables_any ro zo rc zc rs zs 6 wb (by omega) (by omega) hzget (Hhr.out.nw (HfR.out.trans Hf2.out (fun _ x => x.elim))) HO.out).mono ?_
  rw [hts]
  rintro e w3 ⟨tv, rfl, tvs, hT⟩
  have HT := hd hT
  have HO3 := hd (HO.out.nw hT.nw)
  have Hf3 := hd (Hf2.out.trans hT.nw (fun _ x => x.elim))
  have HSb3 := hd (HSb.out.nw hT.nw)
  have hcS : w3.cell? ⟨w2.heap.size, 0, none⟩ = some (.slice zo zs.length zc) := HSb3.out.cell 0
  have hlS := HSb3.out.lt
  have hS3 := HSb3.out.lt
  clear hT HO Hf2 hts hzs HSb hwb
  go_wp2_with fail
  refine (posted_any zo zc tv zs tvs ts wb w3 hzok (by omega) htok HO3.out HT.out).mono ?_
  rintro e w4 ⟨X, rfl, s, hP⟩
  have HP := hd hP
  have HT4 := hd (HT.out.step hP.nw)
  have HO4 := hd (HO3.out.nw hP.nw)
  have HSb4 := hd (HSb3.out.nw hP.nw)
  have hcS4 : w4.cell? ⟨w2.heap.size, 0, none⟩ = some (.slice zo zs.length zc) := HSb4.out.cell 0
  have hlS4 := HSb4.out.lt
  clear hP HT HO3 HSb3 hcS hlS
  go_wp2_with fail
  refine (all_any zo zc tv zs tvs ts wb w4 hzok (by omega) htok HO4.out HT4.out).mono ?_
  rintro e w5 ⟨wv, rfl, hf5, rl, hW⟩
  obtain ⟨wo, wc, hwf, _⟩ := hW.row.form
  subst hwf
  have HW := hd hW
  have Hf5 := hd hf5
  have HSb5 := hd (HSb4.out.nw hf5)
  clear hW hf5 HT4 HSb4 hcS4 hlS4
  have hnil : ∀ (W : World), (binOp .eql 49 (.func (.func 46) #[.pointer (some ⟨X, 0, none⟩)] #[]) .nilFunc).run Try.prog W = .ok (.bool false) W := fun W => by kernel_rfl
  go_wp2_with (go_at_call 26; refine (solutions_any X _).mono ?_; rintro e w' ⟨rfl, rfl⟩)
  have hsol := PSem.sols HP.out.at_ (PSem.of_posted HP.out) (fun b hb => by
    obtain ⟨t, ht, rfl⟩ := List.mem_map.1 hb
    obtain ⟨i, hi, e⟩ := List.getElem_of_mem ht
    have e2 : ts.getD i tw0 = t := by simp [List.getD, hi, e]
    obtain ⟨_, hv1, _, hVO, hvn, _⟩ := okTable_parts (htok i hi) (by omega)
    rw [e2] at hv1 hVO hvn
    obtain ⟨j, hj, he⟩ := maxTo_mem t.tb.vars t.tb.vars.length hv1
    refine ⟨?_, fun i hi => (hVO.ok i hi).1⟩
    unfold lastOf
    rw [he]
    exact hvn j hj)
  rw [extD_all (by omega) hzget] at hsol
  have hin := fun x hx => solN_in HP.out.at_.good.dm.lt s.bs zs.length [] x hx (fun q hq => absurd hq (Nat.not_lt_zero _))
  have hsl : (solN s.d s.bs zs.length []).length ≤ 46656 := by
    rw [hsol]
    refine Nat.le_trans (List.length_filter_le _ _) (Nat.le_trans (cnt_le (fun z hz => ?_)) ?_)
    · obtain ⟨y, hy, rfl⟩ := List.mem_map.1 hz
      obtain ⟨i, hi, e⟩ := List.getElem_of_mem hy
      have := hzget i hi
      rw [show zs.getD i 0 = y by simp [List.getD, hi, e]] at this
      omega
    · rw [List.length_map]
      exact Nat.le_trans (Nat.pow_le_pow_right (by omega) hz6) (by decide)
  rw [← hsol] at HW
  obtain ⟨sols, hsols⟩ : ∃ sols, solN s.d s.bs zs.length [] = sols := ⟨_, rfl⟩
  rw [hsols] at HW hin hsl
  have hrll : rl.length = sols.length := by rw [HW.out.len, List.length_map]
  have Hin : Hid (∀ x, x ∈ sols → x.length = zs.length ∧ ∀ q, q < zs.length → (s.d.getD q 0).testBit (x.getD q 0) = true) := fun x hx => by
    obtain ⟨h1, _, h3⟩ := hin x hx
    have h1' : x.length = zs.length := by simpa using h1
    exact ⟨h1', fun q hq => h3 q (by omega)⟩
  have HRT := hd HW.out
  have Hsols := hd hsols
  clear hsol hin hsols hnil
  obtain ⟨W1, hW1⟩ : ∃ W1, (w5.alloc (.cells #[.slice wo rl.length wc] 25)).alloc (.cells #[.int .i64 0] 3) = W1 := ⟨_, rfl⟩
  have hf6 : Nw w5 W1 := by rw [← hW1]; exact ((Fr.refl _ w5).alloc _).alloc _
  have hs6 : W1.heap.size = w5.heap.size + 2 := by rw [← hW1]; simp
  have hbW : Blk W1 w5.heap.size #[.slice wo rl.length wc] 25 := by rw [← hW1]; exact (Blk.new _ _ _).alloc _
  have hbA : Blk W1 (w5.heap.size + 1) #[.int .i64 ((0 : Nat) : Int)] 3 := by
    have h := Blk.new (w5.alloc (.cells #[.slice wo rl.length wc] 25)) #[.int .i64 0] 3
    rw [hW1] at h
    simpa using h
  rw [hW1]
  have HA1 := hd ((HP.out.at_.nw Hf5.out).nw hf6)
  have Hf6 := hd hf6
  have HbW := hd hbW
  have HSb6 := hd (HSb5.out.nw hf6)
  have Hf4 := hd ((Hf3.out.trans HP.out.nw (fun _ x => x.elim)).trans Hf5.out (fun _ x => x.elim))
  have hbz := HP.out.busy
  have hX4 : X < w4.heap.size := HP.out.at_.mem.blk.lt
  have hXl : X < w5.heap.size := Nat.lt_of_lt_of_le HP.out.at_.mem.blk.lt Hf5.out.size
  have hSX : w2.heap.size ≠ X := fun e => by
    have h1 := (HSb5.out)
    rw [e] at h1
    have h2 := (HP.out.at_.nw Hf5.out).mem.blk
    have := (h1.inj h2).2
    exact absurd this (by decide)
  have hSl : w2.heap.size < w5.heap.size := HSb5.out.lt
  clear hW1 hf6 hbW HSb5 HO4 HW
  refine wp_sols2 (n := 9) (zs := zs) (s := s) 13 rfl HA1.out hbz (fun l v W' K hK => ?asg)
    (fun done C A => (∀ k, C k ↔ k = w5.heap.size + 1) ∧ Blk A (w5.heap.size + 1) #[.int .i64 ((done.length : Nat) : Int)] 3 ∧ Fr (fun k => k = w5.heap.size + 1 ∨ k = X) W1 A) ?inv (fun k => k = w5.heap.size + 1) (fun k hk e => ?own) ⟨fun k => Iff.rfl, hbA, Fr.refl _ _⟩ ?round ?done
  case asg =>
    simp only [List.setIfInBounds_toArray, List.set_cons_zero, List.set_cons_succ] at hK ⊢
    gi_wp2
    exact hK
  case inv =>
    refine ⟨?_, ?_⟩
    · rintro done C S A B ⟨h1, h2, h3⟩ hf hs
      refine ⟨h1, h2.fr hf (fun h => ?_), h3.trans hf (fun i hi => ?_)⟩
      · rcases hs _ h with h | h <;> omega
      · rcases hs _ hi with h | h
        · exact .inr h.1
        · exact .inl (.inr h)
    · rintro done C A k ⟨h1, h2, h3⟩ hk
      rw [(h1 k).1 hk]
      exact ⟨_, _, h2, by decide⟩
  case own =>
    have := ((HP.out.at_.nw Hf5.out).mem.lt hk)
    omega
  case round =>
    rintro lp done C x b cap Wr hpre ⟨hC, h1, hF⟩ hAr hbN hbC hrow
    simp only [List.setIfInBounds_toArray, List.set_cons_zero, List.set_cons_succ]
    rw [Hsols.out] at hpre
    obtain ⟨hdl, hdx, hxm⟩ := prefix_last (d := []) hpre
    obtain ⟨hxl, hxd⟩ := Hin.out x hxm
    have hF5 : Fr (fun k => k = X) w5 Wr := (Hf6.out.mono (fun _ h => h.elim)).trans hF (fun i h => by
      rcases h with h | h
      · exact .inr (by omega)
      · exact .inl h)
    obtain ⟨wb', wof, qo, qc, hwe, hwl, hwc, hRow⟩ := (HRT.out.fr hF5 (fun k hk => by rw [hk]; exact hX4)).toT.rows done.length (by rw [List.length_map]; exact hdl)
    have hrx : (sols.map natI).getD done.length [] = natI x := by
      have h : sols[done.length]? = some x := by
        have := hdx
        rw [List.getD, List.getElem?_eq_getElem hdl] at this
        rw [List.getElem?_eq_getElem hdl]
        simpa using this
      simp [List.getD, h]
    rw [hrx] at hwc hRow
    rw [natI_len] at hwc
    subst hwe
    have c0 : Wr.cell? ⟨w5.heap.size + 1, 0, none⟩ = some (.int .i64 ((done.length : Nat) : Int)) := h1.cell 0
    have c0f := h1.free 0
    have c0l := h1.lt
    have hW2 := HbW.out.fr hF (by omega)
    have cW : Wr.cell? ⟨w5.heap.size, 0, none⟩ = some (.slice (some ⟨wb', wof, none⟩) rl.length wc) := hW2.cell 0
    have cWl := hW2.lt
    have hS2 := HSb6.out.fr hF (by omega)
    have cS : Wr.cell? ⟨w2.heap.size, 0, none⟩ = some (.slice zo zs.length zc) := hS2.cell 0
    have cSl := hS2.lt
    have hx8 : x.length ≤ 6 := by omega
    have Hxl := hd hxl
    have Hrll := hd hrll
    have hIx : IntsAt Wr (some ⟨b, 0, none⟩) (natI x) := by
      have h : Row Wr (.slice (some ⟨b, 0, none⟩) (natI x).length cap) 3 ((natI x).map (Value.int .i64)) := by
        rw [natI_len]
        rw [ints_eq] at hrow
        exact hrow
      exact h.ints'
    have hdI : ¬ ((done.length : Int) ≥ (rl.length : Int)) := by omega
    have hdI' : ¬ ((rl.length : Int) ≤ (done.length : Int)) := by omega
    have hxb : ((x.length : Int) == (zs.length : Int)) = true := by rw [hxl]; simp
    have hdlr : done.length < rl.length := by omega
    have H1 := hd h1
    have HF := hd hF
    have HIx := hd hIx
    have HRow := hd hRow
    have HC := hd hC
    clear h1 hF hIx hRow hC hrow hAr hpre hF5 hW2 hS2 hdx hrx hxd hxm hxl hrll
    gi_wp2_with fail
    gi_loopw [14] (fun i w7 => ∃ k : Nat, k ≤ x.length ∧ i = .int .i64 (k : Int) ∧ Hid (Nw Wr w7)) (fun i _ => x.length - (intOf i).toNat)
    case atStart => exact ⟨0, by omega, rfl, Fr.refl _ _⟩
    case round =>
      rename World => w7
      obtain ⟨k, hk, rfl, HN7⟩ := hrel
      by_cases hlt : k < x.length
      · have hdk : (k : Int) < (x.length : Int) := by omega
        obtain ⟨b', o', hbe, hbl, hbc⟩ := HIx.out k (by rw [natI_len]; exact hlt)
        simp only [Option.some.injEq, Addr.mk.injEq, and_true] at hbe
        obtain ⟨rfl, rfl⟩ := hbe
        obtain ⟨qb, qof, hqe, hql, hqc⟩ := HRow.out k (by rw [natI_len]; exact hlt)
        subst hqe
        rw [natI_get'] at hbc hqc
        obtain ⟨y, hy⟩ : ∃ y, x.getD k 0 = y := ⟨_, rfl⟩
        rw [hy] at hbc hqc
        clear hy
        gi_wp2_with fail
        have hK0 : Nw Wr w7.drew := HN7.out.drew
        refine region_inH keptReg 12 (fun w'' => Nw Wr w'') (by kernel_rfl) (by kernel_rfl) (by kernel_rfl) (fun _ _ h => h) ?_
        refine take_at (i := 0) (d := some 68) (v := .slice (some ⟨b, 0, none⟩) x.length cap) (by kernel_rfl) (by kernel_rfl) (fun _ _ _ h => h) (fun w'' hS => by kernel_rfl) hK0 ?_
        refine take_at (i := 1) (d := some 69) (v := .int .i64 (k : Int)) (by kernel_rfl) (by kernel_rfl) (fun _ _ _ h => h) (fun w'' hS => by kernel_rfl) hK0 ?_
        refine take_at (i := 2) (d := some 70) (v := .pointer (some ⟨b, 0 + k, none⟩)) (by kernel_rfl) (by kernel_rfl) (fun _ _ _ h => h) (fun w'' hS => exec_index (i := k) (n := x.length) (cap := cap) 22 3 (.tmp 68) (.tmp 69) (by kernel_rfl) (by kernel_rfl) (by kernel_rfl) hlt (by kernel_rfl) (by kernel_rfl)) hK0 ?_
        refine take_at (i := 3) (d := some 71) (v := .int .i64 (y : Int)) (by kernel_rfl) (by kernel_rfl) (fun _ _ _ h => h) (fun w'' hS => exec_load 3 (.tmp 70) (by kernel_rfl) (by kernel_rfl) (by kernel_rfl) ((hS.cell hbl (fun x => x)).trans hbc)) hK0 ?_
        refine take_at (i := 4) (d := some 72) (v := .slice (some ⟨wb', wof, none⟩) rl.length wc) (by kernel_rfl) (by kernel_rfl) (fun _ _ _ h => h) (fun w'' hS => exec_load 25 (.tmp 10) (by kernel_rfl) (by kernel_rfl) (by kernel_rfl) ((hS.cell cWl (fun x => x)).trans cW)) hK0 ?_
        refine take_at (i := 5) (d := some 73) (v := .int .i64 ((done.length : Nat) : Int)) (by kernel_rfl) (by kernel_rfl) (fun _ _ _ h => h) (fun w'' hS => exec_load 3 (.tmp 11) (by kernel_rfl) (by kernel_rfl) (by kernel_rfl) ((hS.cell c0l (fun x => x)).trans c0)) hK0 ?_
        refine take_at (i := 6) (d := some 74) (v := .pointer (some ⟨wb', wof + done.length, none⟩)) (by kernel_rfl) (by kernel_rfl) (fun _ _ _ h => h) (fun w'' hS => exec_index (i := done.length) (n := rl.length) (cap := wc) 25 22 (.tmp 72) (.tmp 73) (by kernel_rfl) (by kernel_rfl) (by kernel_rfl) hdlr (by kernel_rfl) (by kernel_rfl)) hK0 ?_
        refine take_at (i := 7) (d := some 75) (v := .slice (some ⟨qb, qof, none⟩) x.length qc) (by kernel_rfl) (by kernel_rfl) (fun _ _ _ h => h) (fun w'' hS => exec_load 22 (.tmp 74) (by kernel_rfl) (by kernel_rfl) (by kernel_rfl) ((hS.cell hwl (fun x => x)).trans hwc)) hK0 ?_
        refine take_at (i := 8) (d := some 76) (v := .int .i64 (k : Int)) (by kernel_rfl) (by kernel_rfl) (fun _ _ _ h => h) (fun w'' hS => by kernel_rfl) hK0 ?_
        refine take_at (i := 9) (d := some 77) (v := .pointer (some ⟨qb, qof + k, none⟩)) (by kernel_rfl) (by kernel_rfl) (fun _ _ _ h => h) (fun w'' hS => exec_index (i := k) (n := x.length) (cap := qc) 22 3 (.tmp 75) (.tmp 76) (by kernel_rfl) (by kernel_rfl) (by kernel_rfl) hlt (by kernel_rfl) (by kernel_rfl)) hK0 ?_
        refine take_at (i := 10) (d := some 78) (v := .int .i64 (y : Int)) (by kernel_rfl) (by kernel_rfl) (fun _ _ _ h => h) (fun w'' hS => exec_load 3 (.tmp 77) (by kernel_rfl) (by kernel_rfl) (by kernel_rfl) ((hS.cell hql (fun x => x)).trans hqc)) hK0 ?_
        refine take_at (i := 11) (d := some 79) (v := .bool false) (by kernel_rfl) (by kernel_rfl) (fun _ _ _ h => h) (fun w'' hS => exec_neI (y : Int) (y : Int) false (.tmp 71) (.tmp 78) (by kernel_rfl) (by kernel_rfl) (by kernel_rfl) (by simp)) hK0 ?_
        refine wpAnyH_done (by kernel_rfl) ?_ _
        simp only [Act.put, List.setIfInBounds_toArray, List.set_cons_zero, List.set_cons_succ]
        gi_wp2_with fail
        exact ⟨⟨k + 1, by omega, by simp, HN7.out.drew⟩, by simp [intOf]; omega⟩
      · obtain rfl : x.length = k := by omega
        have hdk : ¬ ((x.length : Int) < (x.length : Int)) := by omega
        have c7 : w7.cell? ⟨w5.heap.size + 1, 0, none⟩ = some (.int .i64 ((done.length : Nat) : Int)) := (HN7.out.cell c0l (fun x => x)).trans c0
        have H17 := hd (H1.out.nw HN7.out)
        have c7f := H17.out.free 0
        have c7l := H17.out.lt
        have hlt3 : (done.length : Int) + 1 < 9223372036854775808 := by omega
        gi_wp2_with fail
        have hf8 : Fr (fun k => k = w5.heap.size + 1) Wr (w7.setCell ⟨w5.heap.size + 1, 0, none⟩ (.int .i64 ((done.length : Int) + 1))) := (HN7.out.mono (fun _ h => h.elim)).setCell _ _ (.inl rfl)
        exact ⟨C, fun k h => .inl h, hf8.mono (fun i h => .inl (.inl ((HC.out i).2 h))), HC.out, H17.out.set 0 (.int .i64 ((done.length : Int) + 1)), HF.out.trans hf8 (fun i h => .inl (.inl h))⟩
  case done =>
    rintro D C' Wd hD hg ⟨hC, h1, hF⟩ hAd hfd hK
    rw [Hsols.out] at h1
    have hF5 : Fr (fun k => k = X) w5 Wd := (Hf6.out.mono (fun _ h => h.elim)).trans hF (fun i h => by
      rcases h with h | h
      · exact .inr (by omega)
      · exact .inl h)
    have HOd := hd (HRT.out.fr hF5 (fun k hk => by rw [hk]; exact hX4))
    have HWd := hd (HbW.out.fr hF (by omega))
    have HSd := hd (HSb6.out.fr hF (by omega))
    have H1d := hd h1
    have hX3 := HP.out.since X (.inl rfl)
    have hw3 := Hf3.out.size
    have hRl := HR0.out.lt
    have hRd : Blk Wd w.heap.size #[.bool false] 4 := (HR0.out.nw Hf4.out).fr hF5 (by omega)
    have hNd : Nw w Wd := (HfR.out.trans Hf4.out (fun _ x => x.elim)).trans hF5 (fun i h => .inr (by omega))
    have HAd := hd hAd
    have HRd := hd hRd
    have HNd := hd hNd
    have HK := hd hK
    clear hF hfd hF5 h1 hAd hRd hNd hK hC hg
    go_wp2_with fail
    refine (count_any X zs s 100000 Wd HAd.out hbz (by decide) HAd.out.pos).mono ?_
    rw [Hsols.out, Nat.min_eq_right (by omega)]
    rintro e W8 ⟨rfl, hA8, hf8⟩
    have hown : ∀ k, s.own X k → w3.heap.size ≤ k ∧ k < w4.heap.size := fun k hk => ⟨HP.out.since k hk, HP.out.at_.mem.lt hk⟩
    have h45 := Hf5.out.size
    have HO8 := hd (HOd.out.fr hf8 (fun k hk => (hown k hk).2))
    have HW8 := hd (HWd.out.fr hf8 (fun h => by have := hown _ h; omega))
    have HS8 := hd (HSd.out.fr hf8 (fun h => by have := hown _ h; omega))
    have H18 := hd (H1d.out.fr hf8 (fun h => by have := hown _ h; omega))
    have HR8 := hd (HRd.out.fr hf8 (fun h => by have := hown _ h; omega))
    have HN8 := hd (HNd.out.trans hf8 (fun i h => .inr (by have := hown _ h; omega)))
    have HK8 := hd ((hf8.block D (lt_of_block HK.out) (fun h => by have := hown _ h; omega)).trans HK.out)
    have HA8 := hd hA8
    clear hA8 hf8 hown HOd HWd HSd H1d HRd HNd HK HAd
    have c0 : W8.cell? ⟨w5.heap.size + 1, 0, none⟩ = some (.int .i64 ((sols.length : Nat) : Int)) := H18.out.cell 0
    have cW : W8.cell? ⟨w5.heap.size, 0, none⟩ = some (.slice wo rl.length wc) := HW8.out.cell 0
    have cS : W8.cell? ⟨w2.heap.size, 0, none⟩ = some (.slice zo zs.length zc) := HS8.out.cell 0
    have cWl := HW8.out.lt
    have cSl := HS8.out.lt
    go_wp2_with fail
    go_loopw [17, 18, 19, 20, 21] (fun v _ _ _ _ wr => ∃ k : Nat, k ≤ zs.length ∧ v = .int .i64 (k : Int) ∧ Hid (Nw W8 wr)) (fun v _ _ _ _ _ => zs.length - (intOf v).toNat)
    case atStart => exact ⟨0, by omega, rfl, Fr.refl _ _⟩
    case round =>
      rename World => w9
      obtain ⟨k, hk, rfl, HN9⟩ := hrel
      have cS9 : w9.cell? ⟨w2.heap.size, 0, none⟩ = some (.slice zo zs.length zc) := (HN9.out.cell cSl (fun x => x)).trans cS
      have cSl9 : w2.heap.size < w9.heap.size := Nat.lt_of_lt_of_le cSl HN9.out.size
      by_cases hlt : k < zs.length
      · have hdk : (k : Int) < (zs.length : Int) := by omega
        have HA9 := hd (HA8.out.nw HN9.out)
        have h64 := HA9.out.good.dm.lt k
        go_wp2_with fail
        refine (domain_ok X s.szv s.d _ s.l zs k w9 HA9.out.mem.blk HA9.out.mem.sz (by omega) hlt HA9.out.good.dm.len (by omega) hbz).mono ?_
        rintro e w10 ⟨rfl, hf10, hb10⟩
        have Hmem : Hid (∀ x, x ∈ sols → (((x.getD k 0 : Nat) : Int)) ∈ natI (vals (s.d.getD k 0))) := fun x hx => by
          refine List.mem_map.2 ⟨x.getD k 0, (vals_mem h64).2 ((Hin.out x hx).2 k hlt), rfl⟩
        have hv8 := vals_len8 (s.d.getD k 0)
        obtain ⟨ds, hds⟩ : ∃ ds, vals (s.d.getD k 0) = ds := ⟨_, rfl⟩
        rw [hds] at hb10 Hmem hv8 ⊢
        have hId : IntsAt w10 (some ⟨w9.heap.size, 0, none⟩) (natI ds) := IntsAt.of_blk hb10 0 _ (fun i hi => by
          rw [Nat.zero_add, ints_eq]
          exact intsV_get (natI ds) i hi)
        have HId := hd hId
        have HN10 := hd (HN9.out.trans hf10 (fun _ x => x.elim))
        clear hds hb10 hId hf10 h64
        go_wp2_with fail
        go_loopw [20, 21] (fun i _ w11 => ∃ j : Nat, j ≤ rl.length ∧ i = .int .i64 (j : Int) ∧ Hid (Nw w10 w11)) (fun i _ _ => rl.length - (intOf i).toNat)
        case atStart => exact ⟨0, by omega, rfl, Fr.refl _ _⟩
        case round =>
          rename World => w11
          obtain ⟨j, hj, rfl, HN11⟩ := hrel
          have HN12 := hd (HN10.out.trans HN11.out (fun _ x => x.elim))
          have cW11 : w11.cell? ⟨w5.heap.size, 0, none⟩ = some (.slice wo rl.length wc) := (HN12.out.cell cWl (fun x => x)).trans cW
          have cWl11 : w5.heap.size < w11.heap.size := Nat.lt_of_lt_of_le cWl HN12.out.size
          by_cases hjl : j < rl.length
          · have hdj : (j : Int) < (rl.length : Int) := by omega
            obtain ⟨rb, rof, qo, qc, hre, hrbl, hrc, hRow⟩ := (HO8.out.nw HN12.out).toT.rows j (by rw [List.length_map]; omega)
            have hjs : j < sols.length := by omega
            have hrx : (sols.map natI).getD j [] = natI (sols.getD j []) := by simp [List.getD, hjs]
            have hxm : sols.getD j [] ∈ sols := by
              rw [show sols.getD j [] = sols[j] by simp [List.getD, hjs]]
              exact List.getElem_mem hjs
            rw [hrx] at hrc hRow
            obtain ⟨x, hx⟩ : ∃ x, sols.getD j [] = x := ⟨_, rfl⟩
            rw [hx] at hrc hRow hxm
            obtain ⟨hxl, _⟩ := Hin.out x hxm
            have hmk := Hmem.out x hxm
            rw [natI_len, hxl] at hrc
            obtain ⟨qb, qof, hqe, hqbl, hqc⟩ := hRow k (by rw [natI_len, hxl]; exact hlt)
            rw [natI_get'] at hqc
            subst hre
            subst hqe
            obtain ⟨y, hy⟩ : ∃ y, x.getD k 0 = y := ⟨_, rfl⟩
            rw [hy] at hqc hmk
            have hinC := in_any (some ⟨w9.heap.size, 0, none⟩) ds.length (natI ds) (y : Int) w11 (by rw [natI_len]; exact hv8) (HId.out.nw HN11.out) hmk
            rw [natI_len] at hinC
            have HinC := hd hinC
            clear hx hy hRow hxm hxl hmk hinC hrx
            go_wp2_with fail
            refine HinC.out.mono ?_
            rintro e w12 ⟨rfl, rfl⟩
            go_wp2_with fail
            exact ⟨⟨j + 1, by omega, by simp, HN11⟩, by simp [intOf]; omega⟩
          · obtain rfl : rl.length = j := by omega
            have hdj : ¬ ((rl.length : Int) < (rl.length : Int)) := by omega
            go_wp2_with fail
            exact ⟨⟨k + 1, by omega, by simp, HN12⟩, by simp [intOf]; omega⟩
      · obtain rfl : zs.length = k := by omega
        have hdk : ¬ ((zs.length : Int) < (zs.length : Int)) := by omega
        have HR9 := hd (HR8.out.nw HN9.out)
        have cR := HR9.out.cell 0
        have cRf := HR9.out.free 0
        have cRl := HR9.out.lt
        go_wp2_with fail
        have hf12 : Fr (fun k => k = w.heap.size) w9 (w9.setCell ⟨w.heap.size, 0, none⟩ (.bool true)) := (Fr.refl _ w9).setCell _ _ (.inl rfl)
        have h6 := Hf6.out.size
        have h4 := Hf4.out.size
        have hKl := lt_of_block HK8.out
        refine MarkEnd.mk rfl ((HR9.out.set 0 (.bool true)).cell 0) ⟨D, rfl, ?_, by omega⟩ ((HN8.out.trans HN9.out (fun _ x => x.elim)).trans hf12 (fun i h => .inr (by omega)))
        exact (hf12.block D (Nat.lt_of_lt_of_le hKl HN9.out.size) (by omega)).trans ((HN9.out.block D hKl (fun x => x)).trans HK8.out)
end Go.Proofs.Ytkjfpdfkcfgfkaa
