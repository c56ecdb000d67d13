/- Parts of the proof, number 7: contracts of the functions that the statement calls. -/
import Derived.Test.YtkjfpdfkcfgfkaaM6
import Derived.Test.YtkjfpdfkcfgfkaaRows
import Derived.Test.YtkjfpdfkcfgfkaaM0
import Derived.Deep.Slices
import Derived.BigQuiet

/- Parts of the statements without the document's answer: tables by raw numbers; a fretwork with them. -/
namespace Go.Proofs.Ytkjfpdfkcfgfkaa
open Go.RowKit

/-- A table by raw numbers. -/
structure RawT where
  rv : List Int
  es : List Int
  nt : Bool
  way : Int
/-- A table and its way. -/
structure Tw where
  tb : Tb
  way : Int
def tableOf (zs : List Int) (r : RawT) : Tw := ⟨⟨tVars r.rv zs.length, tRows (tVars r.rv zs.length) zs r.es, r.nt⟩, 1 + pickOf r.way 2⟩
/-- Raw tables in memory. -/
structure RawAt (w : World) (b o : Nat) (r : RawT) : Prop where
  parts : ∃ vo vc eo ec, w.cell? ⟨b, o, none⟩ = some (.slice vo r.rv.length vc) ∧ w.cell? ⟨b, o + 1, none⟩ = some (.slice eo r.es.length ec) ∧ w.cell? ⟨b, o + 2, none⟩ = some (.bool r.nt) ∧ w.cell? ⟨b, o + 3, none⟩ = some (.int .i64 r.way) ∧ IntsAt w vo r.rv ∧ IntsAt w eo r.es
  lv : r.rv.length * 8 ≤ 140737488355328
  le : r.es.length * 8 ≤ 140737488355328
  iv : ∀ c ∈ r.rv, In64 c
  ie : ∀ c ∈ r.es, In64 c
  iw : In64 r.way
def raw0 : RawT := ⟨[], [], false, 0⟩
def RawsAt (w : World) (ao : Option Addr) (rs : List RawT) : Prop := ∀ i, i < rs.length → ∃ b o, ao = some ⟨b, o, none⟩ ∧ b < w.heap.size ∧ RawAt w b (o + i * 4) (rs.getD i raw0)
theorem RawsAt.nw {w w' : World} {ao : Option Addr} {rs : List RawT} (h : RawsAt w ao rs) (f : Nw w w') : RawsAt w' ao rs := fun i hi => by
  obtain ⟨b, o, rfl, hb, hr⟩ := h i hi
  obtain ⟨vo, vc, eo, ec, h1, h2, h3, h4, h5, h6⟩ := hr.parts
  exact ⟨b, o, rfl, Nat.lt_of_lt_of_le hb f.size, ⟨vo, vc, eo, ec, (f.cell hb (fun x => x)).trans h1, (f.cell hb (fun x => x)).trans h2, (f.cell hb (fun x => x)).trans h3, (f.cell hb (fun x => x)).trans h4, h5.nw f, h6.nw f⟩, hr.lv, hr.le, hr.iv, hr.ie, hr.iw⟩
/-- The cells of a table's value. -/
def tblC (tv : Value) : List Value := tv.cells.toList
theorem Try.infoATable : (Try.prog.info? 58).map (fun i => (i.zero, i.size, i.bytes)) = some (some (.agg #[.slice none 0 0, .slice none 0 0, .bool false, .int .i64 0]), 4, 64) := by kernel_rfl
/-- Tables in memory: a list of a call's own. -/
structure TblsOwn (W w : World) (v : Value) (tvs : List Value) (ts : List Tw) : Prop where
  row : w.ownsRow 0 58 4 v ts.length (tvs.flatMap tblC)
  nw : Nw W w
  since : ∀ q, v.ownBlock = some q → W.heap.size ≤ q
  len : tvs.length = ts.length
  each : ∀ i, i < ts.length → ∃ (t : Tw), ts[i]? = some t ∧ TblAt w (tvs.getD i undef) t.tb.vars t.tb.rows t.tb.nt t.way
theorem TblsOwn.form {W w : World} {v : Value} {tvs : List Value} {ts : List Tw} (h : TblsOwn W w v tvs ts) : ∃ lo lcap, v = .slice lo ts.length lcap := by
  rcases h.row.2 with ⟨rfl, h0⟩ | ⟨g, cap, cur, rfl, _⟩
  · exact ⟨none, 0, by rw [h0]⟩
  · exact ⟨_, _, rfl⟩
def tablesTo (zs : List Int) (rs : List RawT) (k : Nat) : List Tw := (rs.take k).map (tableOf zs)
theorem tablesTo_succ (zs : List Int) (rs : List RawT) (k : Nat) (hk : k < rs.length) : tablesTo zs rs (k + 1) = tablesTo zs rs k ++ [tableOf zs (rs.getD k raw0)] := by
  unfold tablesTo
  rw [List.take_succ_eq_append_getElem hk, List.map_append]
  simp [List.getD, hk]
theorem tablesTo_len (zs : List Int) (rs : List RawT) (k : Nat) (hk : k ≤ rs.length) : (tablesTo zs rs k).length = k := by simp [tablesTo]; omega
/-- What an append of one struct leaves. -/
theorem appN {w w1 : World} {e : TypeId} {size : Nat} {v v' : Value} {k : Nat} {xs news : List Value} (h1 : w1.ownsRow 0 e size v' (k + 1) (xs ++ news))
    (hg : (w.alloc (.cells news.toArray e)).grownBy w1 v.ownBlock) (hat : v'.ownBlock = v.ownBlock ∨ v'.ownBlock = some (w.alloc (.cells news.toArray e)).heap.size) :
    ∃ g cap, v' = .slice (some ⟨g, 0, none⟩) (k + 1) cap ∧ Fr (fun j => v.ownBlock = some j) w w1 ∧ (v.ownBlock = some g ∨ w.heap.size ≤ g) ∧ g < w1.heap.size := by
  have hfr : Fr (fun j => v.ownBlock = some j) w w1 := ((Fr.refl (fun j => v.ownBlock = some j) w).alloc (.cells news.toArray e)).grown hg (fun k hk => .inl hk)
  rcases h1.2 with ⟨_, hn⟩ | ⟨g, cap, cur, rfl, _, hgg, _⟩
  · omega
  · refine ⟨g, cap, rfl, hfr, ?_, lt_of_block hgg⟩
    rcases hat with hat | hat
    · exact .inl hat.symm
    · right
      have : g = w.heap.size + 1 := by simpa [Value.ownBlock] using hat
      omega
theorem cells_new (w : World) (xs : List Value) (t : TypeId) : ∀ j u, xs[j]? = some u → (w.alloc (.cells xs.toArray t)).cell? ((⟨w.heap.size, 0, none⟩ : Addr).add j) = some u := by
  intro j u hj
  rw [show (⟨w.heap.size, 0, none⟩ : Addr).add j = ⟨w.heap.size, j, none⟩ from by by_cases h : j = 0 <;> simp [Addr.add, h], (Blk.new w xs.toArray t).cell]
  simpa using hj

set_option maxHeartbeats 1600000 in
set_option maxRecDepth 1000000 in
theorem tables_any (ro so : Option Addr) (rc sc : Nat) (rs : List RawT) (zs : List Int) (most : Nat) (w : World) (hm : most ≤ 12) (hz : 1 ≤ zs.length ∧ zs.length ≤ 8) (hzs : ∀ i, i < zs.length → 1 ≤ zs.getD i 0 ∧ zs.getD i 0 ≤ 6)
    (hr : RawsAt w ro rs) (hs : IntsAt w so zs) :
    Calls Try.prog 14 #[.slice ro rs.length rc, .slice so zs.length sc, .int .i64 (most : Int)] w fun e w' => ∃ v, e = .returned v ∧ ∃ tvs, TblsOwn w w' v tvs (tablesTo zs rs most) := by
  obtain ⟨i0, hi0, hz0, hz1, hz2⟩ := info_parts Try.infoATable
  go_enter Try.func14, Try.ntmps14
  go_wp2_with fail
  go_loopw [7, 8] (fun l i wr => ∃ (k : Nat) (tvs : List Value), k ≤ rs.length ∧ k ≤ most ∧ i = .int .i64 k ∧ Hid (TblsOwn w wr l tvs (tablesTo zs rs k))) (fun _ i _ => most - (intOf i).toNat)
  case atStart => exact ⟨0, [], by omega, by omega, rfl, ⟨World.ownsRow_nil _ _ _ _, Fr.refl _ _, fun q hq => (by cases hq), rfl, fun i hi => absurd hi (Nat.not_lt_zero _)⟩⟩
  case round =>
    obtain ⟨k, tvs, hk1, hk2, rfl, HT⟩ := hrel
    have hln := tablesTo_len zs rs k hk1
    obtain ⟨lo, lcap, hform⟩ := HT.out.form
    rw [hln] at hform
    subst hform
    by_cases hlt : k < rs.length ∧ k < most
    · obtain ⟨hlt1, hlt2⟩ := hlt
      obtain ⟨b, o, rfl, hbl, hR⟩ := (hr.nw HT.out.nw) k hlt1
      have Hsucc := hd (tablesTo_succ zs rs k hlt1)
      obtain ⟨r, hrv⟩ : ∃ r, rs.getD k raw0 = r := ⟨_, rfl⟩
      rw [hrv] at hR Hsucc
      obtain ⟨vo, vc, eo, ec, c0, c1, c2, c3, hI1, hI2⟩ := hR.parts
      have HI1 := hd hI1
      have HI2 := hd hI2
      have HR := hd hR
      have HS := hd (hs.nw HT.out.nw)
      have hd1 : (k : Int) < (rs.length : Int) := by omega
      have hd2 : (k : Int) < (most : Int) := by omega
      have Hln := hd hln
      clear hrv hI1 hI2 hR hln
      go_wp2_with (first
        | (go_at_call 35; refine (table_any vo eo so vc ec sc r.rv r.es zs r.nt r.way _ hz hzs HR.out.lv HR.out.le HI1.out HI2.out HS.out HR.out.iv HR.out.ie HR.out.iw).mono ?_; rintro e w1 ⟨tv, rfl, hf1, hT1⟩; obtain ⟨tvo, tvc, tro, trc, rl, rfl, htI, htR⟩ := hT1.form; have HT1 := hd hT1; have Hf1 := hd hf1; have Hrow1 := hd (ownsRow.fr HT.out.row hf1 (fun _ _ x => x)); rw [Hln.out] at Hrow1; clear hT1 hf1 htI htR)
        | (at_builtin; refine wpList_append_own_at _ rfl _ _ 34 rfl 0 58 i0 (.agg #[.slice none 0 0, .slice none 0 0, .bool false, .int .i64 0]) 4 64 Try.underlying34 hi0 hz0 hz1 hz2 rfl (by decide) _ k _ rfl (ownsRow.fr Hrow1.out ((Fr.refl (fun _ => False) _).alloc _) (fun _ _ x => x)) ⟨_, 0, none⟩ 1 1 [.slice tvo _ tvc, .slice tro _ trc, .bool r.nt, .int .i64 _] rfl rfl (cells_new _ _ _) (by simp [Value.oneCell']) (by unfold maxLen; omega) (by omega) (Nat.zero_le _) ?_; intro v' w2 hown' hgrow _ hat; obtain ⟨g', cap', rfl, hf3, ha3, hlt3⟩ := appN hown' hgrow hat))
      have hty : ∀ q cur e, (Value.slice lo k lcap).ownBlock = some q → Blk w1 q cur e → e ≠ 3 ∧ e ≠ 22 := fun q cur e hq hb => by
        obtain ⟨cur', hb'⟩ := ownsRow.blk Hrow1.out hq
        rw [(hb.inj hb').2]
        decide
      have hs1 := Hf1.out.size
      refine ⟨⟨k + 1, tvs ++ [.agg #[.slice tvo (tVars r.rv zs.length).length tvc, .slice tro (tRows (tVars r.rv zs.length) zs r.es).length trc, .bool r.nt, .int .i64 (1 + pickOf r.way 2)]], by omega, by omega, by simp, ⟨?_, ?_, ?_, ?_, ?_⟩⟩, by simp [intOf]; omega⟩
      · rw [Hsucc.out, List.length_append, Hln.out, List.flatMap_append]
        exact hown'
      · exact (HT.out.nw.trans Hf1.out (fun i h => h.elim)).trans hf3 (fun i hi => .inr (HT.out.since i hi))
      · intro q hq
        have hw := HT.out.nw.size
        cases hq
        rcases ha3 with h | h
        · exact HT.out.since _ h
        · show w.heap.size ≤ g'
          omega
      · rw [Hsucc.out, List.length_append, List.length_append, HT.out.len]
        rfl
      · intro i hi
        rw [Hsucc.out] at hi ⊢
        rw [List.length_append, Hln.out] at hi
        have hi2 : i < k + 1 := hi
        have htl : tvs.length = k := HT.out.len.trans Hln.out
        by_cases hik : i < k
        · obtain ⟨t, ht, hta⟩ := HT.out.each i (by rw [Hln.out]; exact hik)
          refine ⟨t, by rw [List.getElem?_append_left (by rw [Hln.out]; exact hik)]; exact ht, ?_⟩
          have e1 : ∀ x, (tvs ++ [x]).getD i undef = tvs.getD i undef := fun x => by simp only [List.getD]; rw [List.getElem?_append_left (by omega)]
          rw [e1]
          exact (hta.nw Hf1.out).fr hf3 hty
        · obtain rfl : i = k := by omega
          refine ⟨_, by rw [List.getElem?_append_right (by rw [Hln.out]; exact Nat.le_refl _), Hln.out]; simp; rfl, ?_⟩
          have e1 : ∀ x, (tvs ++ [x]).getD i undef = x := fun x => by simp only [List.getD]; rw [List.getElem?_append_right (by omega), htl]; simp
          rw [e1]
          exact HT1.out.fr hf3 hty
    · have hend : tablesTo zs rs k = tablesTo zs rs most := by
        unfold tablesTo
        by_cases h : k = most
        · rw [h]
        · rw [List.take_of_length_le (by omega), List.take_of_length_le (by omega)]
      rw [hend] at HT
      clear hend hln
      by_cases h1 : k < rs.length
      · have hd1 : (k : Int) < (rs.length : Int) := by omega
        have hd2 : ¬ ((k : Int) < (most : Int)) := by omega
        go_wp2_with fail
        go_ret
        exact ⟨_, rfl, tvs, HT.out⟩
      · have hd1 : ¬ ((k : Int) < (rs.length : Int)) := by omega
        go_wp2_with fail
        go_ret
        exact ⟨_, rfl, tvs, HT.out⟩
end Go.Proofs.Ytkjfpdfkcfgfkaa

/- What came in: slices of numbers, of tables by raw numbers. -/
namespace Go.Proofs.Ytkjfpdfkcfgfkaa
open Go.ChangeShapes Go.WideShapes Go.ChangeAt Go.RowKit

theorem In64.of_wf {n : Int} (h : (Lit.int .i64 n).wf = true) : In64 n := by
  simp only [Lit.wf, Bool.and_eq_true, decide_eq_true_eq] at h
  have h1 : IntKind.i64.min = -9223372036854775808 := by decide
  have h2 : IntKind.i64.max = 9223372036854775807 := by decide
  unfold In64
  omega
/-- A slice of numbers, wherever it was read. -/
theorem came_row {H : Type} {enc : TypeId × Value → H} {W : World} {fuel : Nat} {v : Value} {x : DataW H × List MemPlace} (h : DataW.trod enc Try.prog W 0 (fun _ => true) true fuel 22 [v] = some x) :
    ∃ (a : Option Addr) (cap : Nat) (zs : List Int), v = .slice a zs.length cap ∧ IntsAt W a zs ∧ (∀ c ∈ zs, In64 c) ∧ ((∀ n ∈ x.1.weights Try.prog 22, n ≤ reachBytes) → zs.length * 8 ≤ reachBytes) := by
  rcases open_ints Try.underlying22 Try.underlying3 (by kernel_rfl) h with ⟨hcs, hx⟩ | ⟨a, len, cap, zs, hcs, _, hl, hm, hz, hx, hcell, hwz⟩
  · obtain rfl : v = .slice none 0 0 := by simpa using hcs
    exact ⟨none, 0, [], rfl, fun i hi => absurd hi (Nat.not_lt_zero _), fun c hc => (by cases hc), fun _ => (by simp)⟩
  · obtain rfl : v = .slice (some a) len cap := by simpa using hcs
    simp only [if_true] at hz
    have hzl : (zs.take len).length = len := by simp; omega
    refine ⟨some a, cap, zs.take len, by rw [hzl], fun i hi => ?_, fun c hc => In64.of_wf (hwz c (List.mem_of_mem_take hc)), fun hw => ?_⟩
    · rw [hzl] at hi
      have hc := hcell i (by omega)
      obtain ⟨b, o, rfl, _⟩ := ints_at hcell (by omega)
      rw [show (⟨b, o, none⟩ : Addr).add i = ⟨b, o + i, none⟩ from by simp [Addr.add]] at hc
      refine ⟨b, o, rfl, World.block_lt_of_cell? W _ hc, ?_⟩
      rw [hc]
      simp [List.getElem?_take_of_lt hi]
    · subst hx
      have h1 := hw ((zs.take len).length * 8 + (zs.drop len).length * 8) (by
        simp only [DataW.weights, Try.underlying22, lits, List.length_map, Try.bytesInt, ← Nat.add_mul]
        exact List.mem_cons_self ..)
      omega
theorem Try.cellsInts : Try.prog.cellsOf 22 = 1 := by kernel_rfl
theorem Try.cellsInt : Try.prog.cellsOf 3 = 1 := by kernel_rfl
theorem Try.cellsBool : Try.prog.cellsOf 4 = 1 := by kernel_rfl
theorem Try.cellsRaw : Try.prog.cellsOf 73 = 4 := by kernel_rfl
theorem weights_mem_all {H : Type} {P : Program} {e : TypeId} : ∀ {ds : List (DataW H)} {d : DataW H}, d ∈ ds → ∀ n ∈ d.weights P e, n ∈ DataW.weightsAll P e ds
  | d0 :: ds, d, hd, n, hn => by
    simp only [DataW.weightsAll, List.mem_append]
    rcases List.mem_cons.1 hd with rfl | h
    · exact .inl hn
    · exact .inr (weights_mem_all h n hn)
set_option maxRecDepth 100000 in
/-- Tables by raw numbers. -/
theorem came_raws {H : Type} {enc : TypeId × Value → H} {W : World} {fuel : Nat} {v : Value} {x : DataW H × List MemPlace} (h : DataW.trod enc Try.prog W 0 (fun _ => true) true fuel 32 [v] = some x) (hw : ∀ n ∈ x.1.weights Try.prog 32, n ≤ reachBytes) :
    ∃ (a : Option Addr) (cap : Nat) (rs : List RawT), v = .slice a rs.length cap ∧ RawsAt W a rs := by
  rcases Deep.open_slice Try.underlying32 h with ⟨hcs, hx⟩ | ⟨a, len, cap, m, n, D, Pl, hcs, hb, hl, hm, hmm, hx, hel⟩
  · obtain rfl : v = .slice none 0 0 := by simpa using hcs
    exact ⟨none, 0, [], rfl, fun i hi => absurd hi (Nat.not_lt_zero _)⟩
  · obtain rfl : v = .slice (some a) len cap := by simpa using hcs
    simp only [if_true] at hmm
    subst hx
    have hspot : 0 < len → a.spot = none := fun h0 => by
      obtain ⟨cs', h1, _⟩ := hel 0 (by omega)
      rw [Try.cellsRaw] at h1
      obtain ⟨_, hlen, hcell⟩ := World.cells?_some h1
      have e0 := hcell 0 (by omega)
      rw [Deep.add_add] at e0
      have e1 : W.cell? a = some cs'[0] := by
        simpa [Addr.add, hlen] using e0
      exact World.cell?_spot e1
    have each : ∀ i, i < len → ∃ r : RawT, ∃ b o, a = ⟨b, o, none⟩ ∧ b < W.heap.size ∧ RawAt W b (o + i * 4) r := fun i hi => by
      obtain ⟨cs', h1, h2⟩ := hel i (by omega)
      rw [Try.cellsRaw] at h1
      obtain ⟨_, hlen, hcell⟩ := World.cells?_some h1
      obtain ⟨xs, k, hk, hxy, _, hxl, hf⟩ := DataW.trod_struct Try.underlying73 h2
      match xs, hxl, cs', hlen with
      | [y0, y1, y2, y3], _, [v0, v1, v2, v3], _ =>
        have g0 := hf 0 _ rfl
        have g1 := hf 1 _ rfl
        have g2 := hf 2 _ rfl
        have g3 := hf 3 _ rfl
        simp only [List.getElem_toArray, List.getElem_cons_zero, List.getElem_cons_succ, Try.cellsInts, Try.cellsInt, Try.cellsBool, List.drop_zero, List.drop_succ_cons, List.take_succ_cons, List.take_zero, List.getElem?_cons_zero, List.getElem?_cons_succ] at g0 g1 g2 g3
        obtain ⟨a0, c0, zs0, rfl, hI0, hin0, hw0⟩ := came_row g0
        obtain ⟨a1, c1, zs1, rfl, hI1, hin1, hw1⟩ := came_row g1
        obtain ⟨nt, hv2, _⟩ := DataW.trod_bool Try.underlying4 g2
        obtain ⟨way, hv3, _, hwf⟩ := DataW.trod_int Try.underlying3 g3
        obtain rfl : v2 = .bool nt := by simpa using hv2
        obtain rfl : v3 = .int .i64 way := by simpa using hv3
        simp only [Prod.mk.injEq] at hxy
        have hDw : ∀ n ∈ (D i).weights Try.prog 73, n ≤ reachBytes := fun n hn => hw n (by
          simp only [DataW.weights, Try.underlying32]
          exact List.mem_cons_of_mem _ (List.mem_append_left _ (weights_mem_all (List.mem_map.2 ⟨i, List.mem_range.2 hi, rfl⟩) n hn)))
        rw [hxy.1] at hDw
        simp only [DataW.weights, Try.underlying73, List.map_cons, List.map_nil] at hDw
        have b0 := hw0 (fun n hn => hDw n (DataW.weights_mem_each (j := 0) rfl rfl n hn))
        have b1 := hw1 (fun n hn => hDw n (DataW.weights_mem_each (j := 1) rfl rfl n hn))
        have r47 : reachBytes ≤ 140737488355328 := by decide
        have e0 := hcell 0 (by omega)
        have e1 := hcell 1 (by omega)
        have e2 := hcell 2 (by omega)
        have e3 := hcell 3 (by omega)
        rw [Deep.add_add] at e0 e1 e2 e3
        have hsp := hspot (by omega)
        obtain ⟨ab, ao, ai⟩ := a
        obtain rfl : ai = none := hsp
        rw [add_plain] at e0 e1 e2 e3
        have hb' := World.block_lt_of_cell? W _ e0
        exact ⟨⟨zs0, zs1, nt, way⟩, ab, ao, rfl, hb', ⟨a0, c0, a1, c1, by simpa using e0, by simpa [Nat.add_assoc] using e1, by simpa [Nat.add_assoc] using e2, by simpa [Nat.add_assoc] using e3, hI0, hI1⟩, by show zs0.length * 8 ≤ _; omega, by show zs1.length * 8 ≤ _; omega, hin0, hin1, In64.of_wf hwf⟩
    haveI : Inhabited RawT := ⟨raw0⟩
    obtain ⟨R, hR⟩ := Deep.choose_lt each
    refine ⟨some a, cap, (List.range len).map R, by simp, fun i hi => ?_⟩
    rw [List.length_map, List.length_range] at hi
    obtain ⟨b, o, rfl, hb', hr⟩ := hR i hi
    refine ⟨b, o, rfl, hb', ?_⟩
    have e : ((List.range len).map R).getD i raw0 = R i := by simp [List.getD, hi]
    rw [e]
    exact hr
end Go.Proofs.Ytkjfpdfkcfgfkaa

/- A fretwork with tables: what posting them leaves. -/
namespace Go.Proofs.Ytkjfpdfkcfgfkaa
open Go.RowKit

/-- The closure of domains that were narrowed by fewer tables first. -/
theorem Closure.more {n : Nat} {bs bs' : List Tb} {st d d' : List Nat} (h : Closure n bs st d) (hf : Full n d) (hs : ∀ b ∈ bs, b ∈ bs') (k : Closure n bs' d d') : Closure n bs' st d' := by
  obtain ⟨a1, _, a3⟩ := h.full hf
  refine ⟨fun hf' => ?_, fun hn => ?_⟩
  · obtain ⟨b1, b2, b3⟩ := k.full hf'
    exact ⟨b1.trans a1, b2, fun e he hb => b3 e (a3 e he (fun b hb' => hb b (hs b hb'))) hb⟩
  · obtain ⟨b1, b2⟩ := k.none hn
    exact ⟨b1, fun e he hb => b2 e (a3 e he (fun b hb' => hb b (hs b hb'))) hb⟩
theorem zero8_not {n : Nat} (hn : 0 < n) : ¬ Full n zero8 := fun h => h 0 hn (zero8_get 0)
/-- What is dead stays dead. -/
theorem Closure.dead {n : Nat} {bs bs' : List Tb} {st st' : List Nat} (hn : 0 < n) (h : Closure n bs st zero8) (hs : ∀ b ∈ bs, b ∈ bs') (hst : SubD st' st) : Closure n bs' st' zero8 :=
  ⟨fun hf => absurd hf (zero8_not hn), fun hd => ⟨rfl, fun e he hb => (h.none hd).2 e (he.trans hst) (fun b hb' => hb b (hs b hb'))⟩⟩
/-- A Work at level 0, whose domains are the closure of all that was asked of it. -/
structure Posted (w0 w : World) (X : Nat) (zs : List Int) (s : WS) (bs : List Tb) (st : List Nat) : Prop where
  at_ : WAt w X zs s
  since : Since w0 X s
  nw : Nw w0 w
  busy : s.l.busy = false
  sk : s.sk = []
  clo : Closure zs.length bs st s.d
  all : Full zs.length s.d → s.bs = bs
  few : s.ts.length ≤ bs.length
  sdm : Dm st
theorem Posted.pos {w0 w : World} {X : Nat} {zs : List Int} {s : WS} {bs : List Tb} {st : List Nat} (h : Posted w0 w X zs s bs st) : 0 < zs.length := (okSizes_len h.at_.mem.zok).1
/-- Dead, or all domains have a value. -/
theorem WAt.dead_iff {w : World} {X : Nat} {zs : List Int} {s : WS} (h : WAt w X zs s) : s.d.getD 0 0 = 0 ↔ ¬ Full zs.length s.d := by
  obtain ⟨h0, _⟩ := okSizes_len h.mem.zok
  constructor
  · intro he hf
    exact hf 0 h0 he
  · intro hn
    rcases h.good.alive with e | e
    · rw [e, zero8_get]
    · exact absurd e hn
theorem WAt.dead_zero {w : World} {X : Nat} {zs : List Int} {s : WS} (h : WAt w X zs s) (h0 : s.d.getD 0 0 = 0) : s.d = zero8 := by
  rcases h.good.alive with e | e
  · exact e
  · exact absurd e (h.dead_iff.1 h0)
theorem Posted.step {w0 w w' : World} {X : Nat} {zs : List Int} {s : WS} {bs : List Tb} {st : List Nat} (h : Posted w0 w X zs s bs st) (f : Nw w w') : Posted w0 w' X zs s bs st :=
  ⟨h.at_.nw f, h.since, h.nw.trans f (fun _ x => x.elim), h.busy, h.sk, h.clo, h.all, h.few, h.sdm⟩
/-- One table more. -/
theorem post_ps {w0 w : World} {X : Nat} {zs : List Int} {s : WS} {bs : List Tb} {st : List Nat} {vo ro : Option Addr} {vcap rcap : Nat} {vars : List Int} {rows : List (List Int)} {nt : Bool} {way : Int} (h : Posted w0 w X zs s bs st) (hb : bs.length < 12)
    (hok : okTable zs vars rows way = true) (hvcap : vars.length ≤ vcap) (hvs : IntsAt w vo vars) (hrs : RowsAt w ro rows) :
    Calls Try.prog 31 #[.pointer (some ⟨X, 0, none⟩), .agg #[.slice vo vars.length vcap, .slice ro rows.length rcap, .bool nt, .int .i64 way]] w fun e w' => e = .returned (.int .i64 (if s.d.getD 0 0 = 0 then 3 else 0)) ∧ ∃ s', Posted w0 w' X zs s' (bs ++ [⟨vars, rows, nt⟩]) st := by
  obtain ⟨hway, hv1, hr60, hVO, hvn, hrl⟩ := okTable_parts hok (okSizes_len h.at_.mem.zok).2
  have hfew := h.few
  have hp : postOf zs s vars rows way = if s.d.getD 0 0 = 0 then 3 else 0 := by
    unfold postOf
    rw [if_neg (by rw [hok]; simp), if_neg (by omega), if_neg (by rw [h.sk]; simp)]
  by_cases h0 : s.d.getD 0 0 = 0
  · rw [if_pos h0] at hp ⊢
    refine (post_no X vo ro vcap rcap zs s vars rows nt way w h.at_ h.busy (by have := hVO.four; omega) (by omega) hvcap hvs hrs (by rw [hp]; decide)).mono ?_
    rintro e w' ⟨rfl, hf⟩
    rw [hp]
    have hz := h.at_.dead_zero h0
    refine ⟨rfl, s, h.at_.nw hf, h.since, h.nw.trans hf (fun _ x => x.elim), h.busy, h.sk, ?_, fun hF => absurd hF (h.at_.dead_iff.1 h0), by rw [List.length_append]; omega, h.sdm⟩
    have hc := h.clo
    rw [hz] at hc ⊢
    exact hc.dead h.pos (fun b hb => List.mem_append_left _ hb) (SubD.refl _)
  · rw [if_neg h0] at hp ⊢
    have hF : Full zs.length s.d := h.at_.good.full h0
    refine (post_yes X vo ro vcap rcap zs s vars rows nt way w h.at_ h.busy hvcap hvs hrs hp).mono ?_
    rintro e w' ⟨rfl, so, tcap, x, d', bv, ts, us, h1, h2, h3, h4⟩
    obtain ⟨hsi, hnw⟩ := h4.since h.since h.nw
    have hbs : s.bs = bs := h.all hF
    refine ⟨rfl, _, h3, hsi, hnw, h.busy, h.sk, ?_, fun _ => by show s.bs ++ [_] = _; rw [hbs], ?_, h.sdm⟩
    · rw [hbs] at h1
      exact h.clo.more hF (fun b hb => List.mem_append_left _ hb) h1
    · have e1 := h3.mem.fits.1
      rw [e1]
      show (s.bs ++ [_]).length ≤ _
      rw [hbs]
      exact Nat.le_refl _
theorem set_get (d : List Nat) (v x q : Nat) (hv : v < d.length) : (d.set v x).getD q 0 = if v = q then x else d.getD q 0 := by
  by_cases e : v = q
  · subst e
    simp [List.getD, hv]
  · simp [List.getD, e]
theorem sub_fix {e d : List Nat} {v x : Nat} (hv : v < d.length) : SubD e (d.set v (fixV (d.getD v 0) x)) ↔ SubD e d ∧ ∀ u, (e.getD v 0).testBit u = true → u = x := by
  constructor
  · intro h
    refine ⟨fun q u hu => ?_, fun u hu => ?_⟩
    · have h1 := h q u hu
      rw [set_get _ _ _ _ hv] at h1
      split at h1
      · rename_i hq
        subst hq
        rw [fixV_bit] at h1
        simp at h1
        exact h1.1
      · exact h1
    · have h1 := h v u hu
      rw [set_get _ _ _ _ hv, if_pos rfl, fixV_bit] at h1
      simp at h1
      exact h1.2.symm
  · rintro ⟨h1, h2⟩ q u hu
    rw [set_get _ _ _ _ hv]
    split
    · rename_i hq
      subst hq
      rw [fixV_bit, h1 _ u hu, h2 u hu]
      simp
    · exact h1 q u hu
theorem sub_rem {e d : List Nat} {v x : Nat} (hv : v < d.length) (h64 : d.getD v 0 < 64) : SubD e (d.set v (remV (d.getD v 0) x)) ↔ SubD e d ∧ ∀ u, (e.getD v 0).testBit u = true → u ≠ x := by
  constructor
  · intro h
    refine ⟨fun q u hu => ?_, fun u hu => ?_⟩
    · have h1 := h q u hu
      rw [set_get _ _ _ _ hv] at h1
      split at h1
      · rename_i hq
        subst hq
        rw [remV_bit _ _ _ h64] at h1
        simp at h1
        exact h1.1
      · exact h1
    · have h1 := h v u hu
      rw [set_get _ _ _ _ hv, if_pos rfl, remV_bit _ _ _ h64] at h1
      simp at h1
      exact fun e => h1.2 e.symm
  · rintro ⟨h1, h2⟩ q u hu
    rw [set_get _ _ _ _ hv]
    split
    · rename_i hq
      subst hq
      rw [remV_bit _ _ _ h64, h1 _ u hu]
      have := h2 u hu
      simp
      exact fun e => this e.symm
    · exact h1 q u hu
/-- The closure of domains that are cut behind another closure. -/
theorem Closure.cut {n : Nat} {bs : List Tb} {st d st' dd d' : List Nat} (h : Closure n bs st d) (hf : Full n d) (P : List Nat → Prop) (h1 : ∀ e, SubD e st' ↔ SubD e st ∧ P e) (h2 : ∀ e, SubD e dd ↔ SubD e d ∧ P e) (k : Closure n bs dd d') : Closure n bs st' d' := by
  obtain ⟨a1, _, a3⟩ := h.full hf
  refine ⟨fun hf' => ?_, fun hn => ?_⟩
  · obtain ⟨b1, b2, b3⟩ := k.full hf'
    have hb := (h2 _).1 b1
    exact ⟨(h1 _).2 ⟨hb.1.trans a1, hb.2⟩, b2, fun e he hb => b3 e ((h2 e).2 ⟨a3 e ((h1 e).1 he).1 hb, ((h1 e).1 he).2⟩) hb⟩
  · obtain ⟨b1, b2⟩ := k.none hn
    exact ⟨b1, fun e he hb => b2 e ((h2 e).2 ⟨a3 e ((h1 e).1 he).1 hb, ((h1 e).1 he).2⟩) hb⟩
theorem fix_dm {d : List Nat} (h : Dm d) (v x : Nat) : Dm (d.set v (fixV (d.getD v 0) x)) := ⟨by rw [List.length_set]; exact h.len, fun q => by
  by_cases hv : v < d.length
  · rw [set_get _ _ _ _ hv]
    split
    · exact Nat.lt_of_le_of_lt Nat.and_le_left (h.lt v)
    · exact h.lt q
  · rw [List.set_eq_of_length_le (by omega)]
    exact h.lt q⟩
theorem rem_dm {d : List Nat} (h : Dm d) (v x : Nat) : Dm (d.set v (remV (d.getD v 0) x)) := ⟨by rw [List.length_set]; exact h.len, fun q => by
  by_cases hv : v < d.length
  · rw [set_get _ _ _ _ hv]
    split
    · exact remV_lt _ _ (h.lt v)
    · exact h.lt q
  · rw [List.set_eq_of_length_le (by omega)]
    exact h.lt q⟩
theorem fault_ok {zs : List Int} {d : List Nat} {v value : Nat} (hv : v < zs.length) (hx : (value : Int) < zs.getD v 0) : faultOf zs d v value = if d.getD 0 0 = 0 then 3 else 0 := by
  unfold faultOf
  rw [if_pos ⟨by omega, by omega, by omega, by simpa using hx⟩]
/-- A value is fixed. -/
theorem fix_ps {w0 w : World} {X : Nat} {zs : List Int} {s : WS} {bs : List Tb} {st : List Nat} {v value : Nat} (h : Posted w0 w X zs s bs st) (hv : v < zs.length) (hx : (value : Int) < zs.getD v 0) :
    Calls Try.prog 18 #[.pointer (some ⟨X, 0, none⟩), .int .i64 v, .int .i64 value] w fun e w' => e = .returned (.int .i64 (if s.d.getD 0 0 = 0 then 3 else 0)) ∧ ∃ s', Posted w0 w' X zs s' bs (st.set v (fixV (st.getD v 0) value)) := by
  have hf := fault_ok (d := s.d) hv hx
  have h8 := (okSizes_len h.at_.mem.zok).2
  have hv8 : v < st.length := by rw [h.sdm.len]; omega
  by_cases h0 : s.d.getD 0 0 = 0
  · rw [if_pos h0] at hf ⊢
    refine (fix_no X zs s v value w h.at_ h.busy (by rw [hf]; decide)).mono ?_
    rintro e w' ⟨rfl, rfl⟩
    rw [hf]
    have hz := h.at_.dead_zero h0
    refine ⟨rfl, s, h.at_, h.since, h.nw, h.busy, h.sk, ?_, h.all, h.few, fix_dm h.sdm _ _⟩
    have hc := h.clo
    rw [hz] at hc ⊢
    exact hc.dead h.pos (fun b hb => hb) ((sub_fix hv8).1 (SubD.refl _)).1
  · rw [if_neg h0] at hf ⊢
    have hF : Full zs.length s.d := h.at_.good.full h0
    refine (fix_yes X zs s v value w h.at_ h.busy hf).mono ?_
    rintro e w' ⟨rfl, d', bv, ts, us, h1, h2, h3, h4⟩
    obtain ⟨hsi, hnw⟩ := h4.since h.since h.nw
    have hbs : s.bs = bs := h.all hF
    refine ⟨rfl, _, h3, hsi, hnw, h.busy, h.sk, ?_, fun _ => hbs, ?_, fix_dm h.sdm _ _⟩
    · rw [hbs] at h1
      exact h.clo.cut hF _ (fun e => sub_fix hv8) (fun e => sub_fix (by rw [h.at_.good.dm.len]; omega)) h1
    · have e1 := h3.mem.fits.1
      rw [e1]
      show s.bs.length ≤ _
      rw [hbs]
      exact Nat.le_refl _
/-- A value is removed. -/
theorem remove_ps {w0 w : World} {X : Nat} {zs : List Int} {s : WS} {bs : List Tb} {st : List Nat} {v value : Nat} (h : Posted w0 w X zs s bs st) (hv : v < zs.length) (hx : (value : Int) < zs.getD v 0) :
    Calls Try.prog 19 #[.pointer (some ⟨X, 0, none⟩), .int .i64 v, .int .i64 value] w fun e w' => e = .returned (.int .i64 (if s.d.getD 0 0 = 0 then 3 else 0)) ∧ ∃ s', Posted w0 w' X zs s' bs (st.set v (remV (st.getD v 0) value)) := by
  have hf := fault_ok (d := s.d) hv hx
  have h8 := (okSizes_len h.at_.mem.zok).2
  have hv8 : v < st.length := by rw [h.sdm.len]; omega
  by_cases h0 : s.d.getD 0 0 = 0
  · rw [if_pos h0] at hf ⊢
    refine (remove_no X zs s v value w h.at_ h.busy (by rw [hf]; decide)).mono ?_
    rintro e w' ⟨rfl, rfl⟩
    rw [hf]
    have hz := h.at_.dead_zero h0
    refine ⟨rfl, s, h.at_, h.since, h.nw, h.busy, h.sk, ?_, h.all, h.few, rem_dm h.sdm _ _⟩
    have hc := h.clo
    rw [hz] at hc ⊢
    exact hc.dead h.pos (fun b hb => hb) ((sub_rem hv8 (h.sdm.lt v)).1 (SubD.refl _)).1
  · rw [if_neg h0] at hf ⊢
    have hF : Full zs.length s.d := h.at_.good.full h0
    refine (remove_yes X zs s v value w h.at_ h.busy hf).mono ?_
    rintro e w' ⟨rfl, d', bv, ts, us, h1, h2, h3, h4⟩
    obtain ⟨hsi, hnw⟩ := h4.since h.since h.nw
    have hbs : s.bs = bs := h.all hF
    refine ⟨rfl, _, h3, hsi, hnw, h.busy, h.sk, ?_, fun _ => hbs, ?_, rem_dm h.sdm _ _⟩
    · rw [hbs] at h1
      exact h.clo.cut hF _ (fun e => sub_rem hv8 (h.sdm.lt v)) (fun e => sub_rem (by rw [h.at_.good.dm.len]; omega) (h.at_.good.dm.lt v)) h1
    · have e1 := h3.mem.fits.1
      rw [e1]
      show s.bs.length ≤ _
      rw [hbs]
      exact Nat.le_refl _
/-- A table among a call's own. -/
theorem flat4 : ∀ (tvs : List Value) (i c : Nat), (∀ tv ∈ tvs, (tblC tv).length = 4) → c < 4 → i < tvs.length → (tvs.flatMap tblC)[i * 4 + c]? = (tblC (tvs.getD i undef))[c]?
  | [], i, c, _, _, hi => absurd hi (Nat.not_lt_zero _)
  | tv :: r, 0, c, h, hc, _ => by
    have h4 := h tv (by simp)
    rw [List.flatMap_cons, Nat.zero_mul, Nat.zero_add, List.getElem?_append_left (by omega)]
    rfl
  | tv :: r, i + 1, c, h, hc, hi => by
    have h4 := h tv (by simp)
    rw [List.flatMap_cons, List.getElem?_append_right (by omega), h4, show (i + 1) * 4 + c - 4 = i * 4 + c by omega, flat4 r i c (fun x hx => h x (by simp [hx])) hc (by simpa using hi)]
    rfl
theorem TblAt.four {w : World} {tv : Value} {vars : List Int} {rows : List (List Int)} {nt : Bool} {way : Int} (h : TblAt w tv vars rows nt way) : (tblC tv).length = 4 := by
  obtain ⟨vo, vcap, ro, rcap, rl, rfl, _⟩ := h.form
  rfl
theorem TblsOwn.step {W w w' : World} {v : Value} {tvs : List Value} {ts : List Tw} (h : TblsOwn W w v tvs ts) (f : Nw w w') : TblsOwn W w' v tvs ts :=
  ⟨ownsRow.fr h.row f (fun _ _ x => x), h.nw.trans f (fun _ x => x.elim), h.since, h.len, fun i hi => by
    obtain ⟨t, h1, h2⟩ := h.each i hi
    exact ⟨t, h1, h2.nw f⟩⟩
def tw0 : Tw := ⟨⟨[], [], false⟩, 0⟩
theorem TblsOwn.cell {W w : World} {v : Value} {tvs : List Value} {ts : List Tw} (h : TblsOwn W w v tvs ts) (i : Nat) (hi : i < ts.length) : ∃ g cap vo vcap ro rcap, v = .slice (some ⟨g, 0, none⟩) ts.length cap ∧ g < w.heap.size ∧
    w.cell? ⟨g, i * 4, none⟩ = some (.slice vo (ts.getD i tw0).tb.vars.length vcap) ∧ w.cell? ⟨g, i * 4 + 1, none⟩ = some (.slice ro (ts.getD i tw0).tb.rows.length rcap) ∧ w.cell? ⟨g, i * 4 + 2, none⟩ = some (.bool (ts.getD i tw0).tb.nt) ∧ w.cell? ⟨g, i * 4 + 3, none⟩ = some (.int .i64 (ts.getD i tw0).way) ∧
    (ts.getD i tw0).tb.vars.length ≤ vcap ∧ IntsAt w vo (ts.getD i tw0).tb.vars ∧ RowsAt w ro (ts.getD i tw0).tb.rows := by
  obtain ⟨t, ht, hta⟩ := h.each i hi
  have e1 : ts.getD i tw0 = t := by simp [List.getD, ht]
  rw [e1]
  obtain ⟨vo, vcap, ro, rcap, hf, h1, h2, h3⟩ := hta.parts
  have hfour : ∀ tv ∈ tvs, (tblC tv).length = 4 := fun tv htv => by
    obtain ⟨j, hj, e⟩ := List.getElem_of_mem htv
    obtain ⟨t', _, hta'⟩ := h.each j (by rw [← h.len]; exact hj)
    have e2 : tvs.getD j undef = tv := by simp [List.getD, hj, e]
    rw [e2] at hta'
    exact hta'.four
  have hcs : tblC (tvs.getD i undef) = [.slice vo t.tb.vars.length vcap, .slice ro t.tb.rows.length rcap, .bool t.tb.nt, .int .i64 t.way] := by rw [hf]; rfl
  rcases h.row.2 with ⟨rfl, h0⟩ | ⟨g, cap, cur, hv, _, hg, _⟩
  · omega
  · have hcell := h.row.cells (g := g) (by rw [hv]; rfl)
    have key : ∀ c u, c < 4 → (tblC (tvs.getD i undef))[c]? = some u → w.cell? ⟨g, i * 4 + c, none⟩ = some u := fun c u hc hu => by
      have := hcell (i * 4 + c) u (by rw [flat4 tvs i c hfour hc (by rw [h.len]; exact hi)]; exact hu)
      rw [show (⟨g, 0, none⟩ : Addr).add (i * 4 + c) = ⟨g, i * 4 + c, none⟩ from by by_cases h : i * 4 + c = 0 <;> simp only [Addr.add, h, if_true, if_false, Nat.zero_add]] at this
      exact this
    rw [hcs] at key
    exact ⟨g, cap, vo, vcap, ro, rcap, hv, lt_of_block hg, by simpa using key 0 _ (by omega) rfl, key 1 _ (by omega) rfl, key 2 _ (by omega) rfl, key 3 _ (by omega) rfl, h1, h2, h3⟩
theorem look_dead (W : World) (a b c e f : Int) (d : Bool) : (Instr.field 40 (.agg #[.int .i64 a, .int .i64 b, .int .i64 c, .bool d, .int .i64 e, .int .i64 f]) 3).run Try.prog W = .ok (.bool d) W := by kernel_rfl
theorem look_level (W : World) (a b c e f : Int) (d : Bool) : (Instr.field 40 (.agg #[.int .i64 a, .int .i64 b, .int .i64 c, .bool d, .int .i64 e, .int .i64 f]) 2).run Try.prog W = .ok (.int .i64 c) W := by kernel_rfl
theorem Posted.of_new {w0 w : World} {X : Nat} {zs : List Int} {szv : Value} (hok : okSizes zs = true) (hf : Nw w0 w) (hB : Blk w X (workCells szv (fullTo zs zs.length) (.slice none 0 0) rest0) 82) (hr : Row w szv 3 (zs.map (Value.int .i64))) (hX : w0.heap.size ≤ X) (hs : ∀ k, szv.ownBlock = some k → w0.heap.size ≤ k) :
    Posted w0 w X zs (ws0 zs szv) [] (fullTo zs zs.length) := by
  refine ⟨new_wat hok hB hr, fun k hk => ?_, hf, rfl, rfl, ?_, fun _ => rfl, Nat.le_refl _, full_dm hok⟩
  · rcases ws0_own hk with rfl | hk
    · exact hX
    · exact hs k hk
  · exact ⟨fun _ => ⟨SubD.refl _, fun b hb => (by cases hb), fun d hd _ => hd⟩, fun hn => absurd (full_full hok) hn⟩

set_option maxHeartbeats 1600000 in
set_option maxRecDepth 1000000 in
theorem posted_any (so : Option Addr) (sc : Nat) (lv : Value) (zs : List Int) (tvs : List Value) (ts : List Tw) (W w : World) (hok : okSizes zs = true) (ht : ts.length ≤ 12) (htok : ∀ i, i < ts.length → okTable zs (ts.getD i tw0).tb.vars (ts.getD i tw0).tb.rows (ts.getD i tw0).way = true)
    (hs : IntsAt w so zs) (hT : TblsOwn W w lv tvs ts) :
    Calls Try.prog 15 #[.slice so zs.length sc, lv] w fun e w' => ∃ X, e = .returned (.pointer (some ⟨X, 0, none⟩)) ∧ ∃ s, Posted w w' X zs s (ts.map Tw.tb) (fullTo zs zs.length) := by
  obtain ⟨hz0, hz8⟩ := okSizes_len hok
  obtain ⟨b, o, rfl, _, _⟩ := hs 0 hz0
  obtain ⟨lo, lcap, hform⟩ := hT.form
  subst hform
  have HT := hd hT
  clear hT
  go_enter Try.func15, Try.ntmps15
  go_wp2_with fail
  refine (new_any b o sc zs _ hz0 hz8 hs).mono ?_
  rintro e w1 ⟨hf1, hcase⟩
  rcases hcase with ⟨_, X, szv, rfl, hX1, hs1, hXl, hsl⟩ | ⟨hno, _⟩
  · have HP := hd (Posted.of_new hok hf1 hX1 hs1 hXl hsl)
    clear hX1 hs1 hsl hf1
    go_wp2_with fail
    go_loopw [7, 8, 9] (fun i _ _ wr => ∃ (k : Nat) (s : WS), k ≤ ts.length ∧ i = .int .i64 k ∧ Hid (Posted w wr X zs s ((ts.map Tw.tb).take k) (fullTo zs zs.length))) (fun i _ _ _ => ts.length - (intOf i).toNat)
    case atStart => exact ⟨0, _, by omega, rfl, HP⟩
    case round =>
      obtain ⟨k, s, hk, rfl, HP⟩ := hrel
      by_cases hlt : k < ts.length
      · have hd1 : (k : Int) < (ts.length : Int) := by omega
        go_wp2_with fail
        obtain ⟨db, hdb⟩ : ∃ db, (s.d.getD 0 0 == 0) = db := ⟨_, rfl⟩
        refine (look_ws HP.out.at_ HP.out.busy false db _ hdb rfl).mono ?_
        rintro e w2 ⟨fx, rfl, hf2⟩
        obtain ⟨tl, htl⟩ : ∃ tl : Int, ((s.ts.length : Nat) : Int) = tl := ⟨_, rfl⟩
        obtain ⟨kl, hkl⟩ : ∃ kl : Int, ((s.sk.length : Nat) : Int) = kl := ⟨_, rfl⟩
        obtain ⟨ll, hll⟩ : ∃ ll : Int, ((leftTo s.d 8 : Nat) : Int) = ll := ⟨_, rfl⟩
        rw [htl, hkl, hll]
        clear htl hkl hll
        have Hpost := hd (HP.out.step hf2)
        have htlen : (List.take k (ts.map Tw.tb)).length = k := by simp; omega
        have Hlen : Hid ((List.take k (ts.map Tw.tb)).length < 12) := hd (by rw [htlen]; omega)
        have htake : List.take (k + 1) (ts.map Tw.tb) = List.take k (ts.map Tw.tb) ++ [(ts.getD k tw0).tb] := by
          rw [List.take_succ_eq_append_getElem (by simpa using hlt)]
          simp [List.getD, hlt]
        have hTw := HT.out.step (HP.out.nw.trans hf2 (fun _ x => x.elim))
        obtain ⟨g, cap, vo, vcap, ro, rcap, hv, hgl, c0, c1, c2, c3, hvc, hI1, hI2⟩ := hTw.cell k hlt
        simp only [Value.slice.injEq] at hv
        obtain ⟨rfl, _, rfl⟩ := hv
        have Hok := hd (htok k hlt)
        obtain ⟨t, htv⟩ : ∃ t, ts.getD k tw0 = t := ⟨_, rfl⟩
        rw [htv] at c0 c1 c2 c3 hvc hI1 hI2 Hok htake
        have HI1 := hd hI1
        have HI2 := hd hI2
        have Htake := hd htake
        clear htv htake htlen hI1 hI2 hTw HP hf2
        have hfld := fun W => look_dead W (zs.length : Int) tl kl ll (fx : Int) db
        cases db with
        | true =>
          have h0 : s.d.getD 0 0 = 0 := by simpa using hdb
          have Hif : Hid ((if s.d.getD 0 0 = 0 then (3 : Int) else 0) = 3) := hd (if_pos h0)
          clear hdb h0
          go_wp2_with (go_at_call 31; refine (post_ps Hpost.out Hlen.out Hok.out hvc HI1.out HI2.out).mono ?_; rw [Hif.out]; rintro e w3 ⟨rfl, s', hp'⟩)
          refine ⟨⟨k + 1, s', by omega, by simp, ?_⟩, by simp [intOf]; omega⟩
          rw [Htake.out]
          exact hp'
        | false =>
          have h0 : ¬ s.d.getD 0 0 = 0 := by simpa using hdb
          have Hif : Hid ((if s.d.getD 0 0 = 0 then (3 : Int) else 0) = 0) := hd (if_neg h0)
          clear hdb h0
          go_wp2_with (go_at_call 31; refine (post_ps Hpost.out Hlen.out Hok.out hvc HI1.out HI2.out).mono ?_; rw [Hif.out]; rintro e w3 ⟨rfl, s', hp'⟩)
          refine ⟨⟨k + 1, s', by omega, by simp, ?_⟩, by simp [intOf]; omega⟩
          rw [Htake.out]
          exact hp'
      · obtain rfl : k = ts.length := by omega
        have hd1 : ¬ ((ts.length : Int) < (ts.length : Int)) := by omega
        go_wp2_with fail
        go_ret
        have e := HP.out
        rw [List.take_of_length_le (by simp)] at e
        exact ⟨X, rfl, s, e⟩
  · exact absurd hno (by rw [hok]; simp)
end Go.Proofs.Ytkjfpdfkcfgfkaa

/- Parts of the statements without the document's answer: tables by raw numbers are right; two fretworks with the same domains. -/
namespace Go.Proofs.Ytkjfpdfkcfgfkaa
open Go.RowKit

theorem any_contains (acc : List Int) (v : Int) : acc.any (fun x => x == v) = acc.contains v := by
  rw [Bool.eq_iff_iff]
  simp
theorem varsTo_one (rv : List Int) (n : Nat) : ∀ k, (varsTo rv n k).Nodup
  | 0 => by simp [varsTo]
  | k + 1 => by
    by_cases hk : k < rv.length
    · rw [varsTo_succ rv n k hk]
      unfold addVar
      split
      · exact varsTo_one rv n k
      · rename_i h
        rw [any_contains] at h
        rw [List.nodup_append]
        refine ⟨varsTo_one rv n k, by simp, ?_⟩
        intro a ha b hb e
        simp at hb
        subst hb
        subst e
        simp at h
        exact h ha
    · have e : varsTo rv n (k + 1) = varsTo rv n k := by
        unfold varsTo
        rw [List.take_of_length_le (by omega), List.take_of_length_le (by omega)]
      rw [e]
      exact varsTo_one rv n k
theorem tVars_one (rv : List Int) (n : Nat) : (tVars rv n).Nodup := by
  unfold tVars
  split
  · simp
  · exact varsTo_one rv n 4
theorem nodup_take {l : List Int} (h : l.Nodup) (i : Nat) (hi : i < l.length) : (l.take i).contains (l.getD i 0) = false := by
  rw [← Bool.not_eq_true, List.contains_iff_mem]
  intro hm
  obtain ⟨j, hj, e⟩ := List.getElem_of_mem hm
  rw [List.length_take] at hj
  rw [List.getElem_take] at e
  have e2 : l.getD i 0 = l[i] := by simp [List.getD, hi]
  rw [e2] at e
  have hji : j < i := by omega
  have := (List.pairwise_iff_getElem.1 h) j i (by omega) hi hji
  exact this e
theorem tVars_okVars (rv : List Int) (n : Nat) (hn : 0 < n) : okVars n (tVars rv n) = true := by
  obtain ⟨h1, h4, hin⟩ := tVars_ok rv n hn
  simp only [okVars, Bool.and_eq_true, decide_eq_true_eq, List.all_eq_true, List.mem_range]
  refine ⟨⟨h1, h4⟩, fun i hi => ?_⟩
  have e2 : (tVars rv n).getD i 0 = (tVars rv n)[i] := by simp [List.getD, hi]
  have := hin _ (List.getElem_mem hi)
  simp only [okVar, Bool.and_eq_true, decide_eq_true_eq, nodup_take (tVars_one rv n) i hi, Bool.not_false, and_true]
  rw [e2]
  exact this
theorem tRows_ok (vars zs es : List Int) (hz : ∀ i, i < zs.length → 1 ≤ zs.getD i 0 ∧ zs.getD i 0 ≤ 6) (hv : ∀ x ∈ vars, 0 ≤ x ∧ x < zs.length) (j : Nat) (hj : j < (tRows vars zs es).length) : okRow zs vars ((tRows vars zs es).getD j []) = true := by
  unfold tRows at hj ⊢
  rw [rowsTo_len] at hj
  have e : (rowsTo vars zs es (min (es.length / vars.length) 20)).getD j [] = rowOf vars zs es (j * vars.length) vars.length := by
    simp only [rowsTo, List.getD]
    rw [List.getElem?_map, List.getElem?_range hj]
    rfl
  rw [e]
  simp only [okRow, Bool.and_eq_true, decide_eq_true_eq, List.all_eq_true, List.mem_range, rowOf_len, true_and]
  intro i hi
  have e2 : (rowOf vars zs es (j * vars.length) vars.length).getD i 0 = pickOf (es.getD (j * vars.length + i) 0) (zs.getD (vars.getD i 0).toNat 0 + 1) - 1 := by
    simp only [rowOf, List.getD]
    rw [List.getElem?_map, List.getElem?_range hi]
    rfl
  have hvi : vars.getD i 0 = vars[i] := by simp [List.getD, hi]
  have h1 := hv _ (List.getElem_mem hi)
  rw [← hvi] at h1
  have h2 := hz (vars.getD i 0).toNat (by omega)
  have h3 := pickOf_range (es.getD (j * vars.length + i) 0) (zs.getD (vars.getD i 0).toNat 0 + 1) (by omega)
  simp only [okEntry, e2, sizeAt, Bool.or_eq_true, Bool.and_eq_true, decide_eq_true_eq, beq_iff_eq]
  omega
theorem tableOf_ok (zs : List Int) (r : RawT) (hz1 : 1 ≤ zs.length) (hz : ∀ i, i < zs.length → 1 ≤ zs.getD i 0 ∧ zs.getD i 0 ≤ 6) : okTable zs (tableOf zs r).tb.vars (tableOf zs r).tb.rows (tableOf zs r).way = true := by
  have hp := pickOf_range r.way 2 (by omega)
  have hlen : (tRows (tVars r.rv zs.length) zs r.es).length ≤ 20 := by
    unfold tRows
    rw [rowsTo_len]
    omega
  simp only [okTable, tableOf, Bool.and_eq_true, List.all_eq_true, List.mem_range]
  refine ⟨⟨⟨?_, tVars_okVars _ _ hz1⟩, decide_eq_true (by omega)⟩, fun j hj => tRows_ok _ _ _ hz (tVars_ok _ _ hz1).2.2 j hj⟩
  simp only [okWay, Bool.or_eq_true, beq_iff_eq]
  omega
theorem tablesTo_ok (zs : List Int) (rs : List RawT) (k : Nat) (hz1 : 1 ≤ zs.length) (hz : ∀ i, i < zs.length → 1 ≤ zs.getD i 0 ∧ zs.getD i 0 ≤ 6) (i : Nat) (hi : i < (tablesTo zs rs k).length) :
    okTable zs ((tablesTo zs rs k).getD i tw0).tb.vars ((tablesTo zs rs k).getD i tw0).tb.rows ((tablesTo zs rs k).getD i tw0).way = true := by
  have e : (tablesTo zs rs k).getD i tw0 ∈ tablesTo zs rs k := by
    simp only [List.getD, List.getElem?_eq_getElem hi, Option.getD_some]
    exact List.getElem_mem hi
  unfold tablesTo at e
  obtain ⟨r, _, h⟩ := List.mem_map.1 e
  unfold tablesTo
  rw [← h]
  exact tableOf_ok zs r hz1 hz
theorem fitL_sizes (raw : List Int) (most : Nat) (h1 : 1 ≤ most) (h8 : most ≤ 8) : okSizes (fitL raw most) = true := by
  obtain ⟨a, b⟩ := fitL_len raw most h1
  simp only [okSizes, Bool.and_eq_true, decide_eq_true_eq, List.all_eq_true]
  refine ⟨by omega, fun z hz => ?_⟩
  have := fitL_ok raw most z hz
  simp only [okSize, decide_eq_true_eq]
  omega

set_option maxHeartbeats 1600000 in
set_option maxRecDepth 1000000 in
theorem sameDomains_any (X Y : Nat) (zs : List Int) (s t : WS) (w : World) (hA : WAt w X zs s) (hB : WAt w Y zs t) (ha : s.l.busy = false) (hb : t.l.busy = false) (hd : s.d = t.d) :
    Calls Try.prog 23 #[.pointer (some ⟨X, 0, none⟩), .pointer (some ⟨Y, 0, none⟩), .int .i64 (zs.length : Int)] w fun e w' => e = .returned (.bool true) ∧ Nw w w' := by
  obtain ⟨hz0, hz8⟩ := okSizes_len hA.mem.zok
  have HA : Hid (WAt w X zs s) := hA
  have HB : Hid (WAt w Y zs t) := hB
  have Hd : Hid (s.d = t.d) := hd
  clear hA hB hd
  go_enter Try.func23, Try.ntmps23
  go_wp2_with fail
  go_loopw [7, 8, 9, 10, 11, 12] (fun v _ _ _ _ _ wr => ∃ k : Nat, k ≤ zs.length ∧ v = .int .i64 (k : Int) ∧ Hid (Nw w wr)) (fun v _ _ _ _ _ _ => zs.length - (intOf v).toNat)
  case atStart => exact ⟨0, by omega, rfl, Fr.refl _ _⟩
  case round =>
    obtain ⟨k, hk, rfl, HF⟩ := hrel
    by_cases hlt : k < zs.length
    · have hd1 : (k : Int) < (zs.length : Int) := by omega
      have hA1 := HA.out.nw HF.out
      have hB1 := HB.out.nw HF.out
      have h64 := hA1.good.dm.lt k
      have hA8 := hA1.good.dm.len
      have hB8 := hB1.good.dm.len
      have HA1 : Hid (WAt wr X zs s) := hA1
      have HB1 : Hid (WAt wr Y zs t) := hB1
      clear hA1 hB1
      go_wp2_with fail
      refine (domain_ok X s.szv s.d _ s.l zs k wr HA1.out.mem.blk HA1.out.mem.sz hz8 hlt hA8 (by omega) ha).mono ?_
      rintro e w1 ⟨rfl, hf1, hb1⟩
      obtain ⟨ds, hds⟩ : ∃ ds, vals (s.d.getD k 0) = ds := ⟨_, rfl⟩
      rw [hds] at hb1 ⊢
      have hdl : ds.length ≤ 8 := by
        rw [← hds]
        have := List.length_filter_le (fun v => (s.d.getD k 0).testBit v) (List.range 8)
        simpa [vals] using this
      have hk1 : Nw wr w1 := hf1
      have HB2 : Hid (WAt w1 Y zs t) := HB1.out.nw hf1
      have Hf1 : Hid (Nw wr w1) := hf1
      have Hb1 : Hid (Blk w1 wr.heap.size (ints ds).toArray 3) := hb1
      have Hds : Hid (vals (s.d.getD k 0) = ds) := hds
      clear hf1 hb1 hds hk1
      go_wp2_with fail
      refine (domain_ok Y t.szv t.d _ t.l zs k w1 HB2.out.mem.blk HB2.out.mem.sz hz8 hlt hB8 (by rw [← Hd.out]; omega) hb).mono ?_
      rw [← Hd.out, Hds.out]
      rintro e w2 ⟨rfl, hf2, hb2⟩
      have hb1 := Hb1.out.nw hf2
      have Hf2 : Hid (Nw wr w2) := Hf1.out.trans hf2 (fun _ x => x.elim)
      have hs1 := Hf1.out.size
      have hl1 := hb1.lt
      have hl2 := hb2.lt
      clear hf2 Hb1 Hds
      go_wp2_with fail
      have Hb1 : Hid (Blk w2 wr.heap.size (ints ds).toArray 3) := hb1
      have Hb2 : Hid (Blk w2 w1.heap.size (ints ds).toArray 3) := hb2
      obtain ⟨p1, hp1⟩ : ∃ p1, wr.heap.size = p1 := ⟨_, rfl⟩
      obtain ⟨p2, hp2⟩ : ∃ p2, w1.heap.size = p2 := ⟨_, rfl⟩
      rw [hp1, hp2]
      rw [hp1] at Hb1
      rw [hp2] at Hb2
      clear hb1 hb2 hl1 hl2 hp1 hp2 hs1
      go_loopw [12] (fun i w3 => Hid (Nw w2 w3) ∧ ∃ j : Nat, j ≤ ds.length ∧ i = .int .i64 (j : Int)) (fun i _ => ds.length - (intOf i).toNat)
      case atStart => exact ⟨Fr.refl _ _, 0, by omega, rfl⟩
      case round =>
        rename World => w3
        obtain ⟨HN, j, hj, rfl⟩ := hrel
        by_cases hjl : j < ds.length
        · have hdj : (j : Int) < (ds.length : Int) := by omega
          have hb1 := Hb1.out.nw HN.out
          have hb2 := Hb2.out.nw HN.out
          have hl1 := hb1.lt
          have hl2 := hb2.lt
          have c1 : w3.cell? ⟨p1, j, none⟩ = some (.int .i64 (ds[j] : Nat)) := (hb1.cell j).trans (by simp [ints, hjl])
          have c2 : w3.cell? ⟨p2, j, none⟩ = some (.int .i64 (ds[j] : Nat)) := (hb2.cell j).trans (by simp [ints, hjl])
          obtain ⟨x, hx⟩ : ∃ x : Nat, ds[j] = x := ⟨_, rfl⟩
          rw [hx] at c1 c2
          clear hx hb1 hb2
          go_wp2_with fail
          go_quiet (fail)
          go_wp2_with fail
          exact ⟨⟨HN.out.drewN _, j + 1, by omega, by simp⟩, by simp [intOf]; omega⟩
        · obtain rfl : j = ds.length := by omega
          have hdj : ¬ ((ds.length : Int) < (ds.length : Int)) := by omega
          go_wp2_with fail
          refine ⟨⟨k + 1, by omega, by simp, ?_⟩, by simp [intOf]; omega⟩
          exact (HF.out.trans Hf2.out (fun _ x => x.elim)).trans HN.out (fun _ x => x.elim)
    · obtain rfl : k = zs.length := by omega
      have hd1 : ¬ ((zs.length : Int) < (zs.length : Int)) := by omega
      have HA1 : Hid (WAt wr X zs s) := HA.out.nw HF.out
      have HB1 : Hid (WAt wr Y zs t) := HB.out.nw HF.out
      go_wp2_with fail
      obtain ⟨db, hdb⟩ : ∃ db, (s.d.getD 0 0 == 0) = db := ⟨_, rfl⟩
      have hdb2 : (t.d.getD 0 0 == 0) = db := by rw [← Hd.out]; exact hdb
      refine (look_ws HA1.out ha false db _ hdb rfl).mono ?_
      rintro e w1 ⟨fx, rfl, hf1⟩
      have HB2 : Hid (WAt w1 Y zs t) := HB1.out.nw hf1
      have hfld := fun W => look_dead W (zs.length : Int) (s.ts.length : Int) (s.sk.length : Int) (leftTo s.d 8 : Int) (fx : Int) db
      have Hf1 : Hid (Nw wr w1) := hf1
      clear hdb hf1
      go_wp2_with fail
      refine (look_ws HB2.out hb false db _ hdb2 rfl).mono ?_
      rintro e w2 ⟨fy, rfl, hf2⟩
      have hfld2 := fun W => look_dead W (zs.length : Int) (t.ts.length : Int) (t.sk.length : Int) (leftTo t.d 8 : Int) (fy : Int) db
      have Hf2 : Hid (Nw w1 w2) := hf2
      clear hdb2 hf2
      go_wp2_with fail
      go_ret
      exact ⟨rfl, (HF.out.trans Hf1.out (fun _ x => x.elim)).trans Hf2.out (fun _ x => x.elim)⟩
end Go.Proofs.Ytkjfpdfkcfgfkaa

/- Supported: what a table allows, by the statement's own reckoning. -/
namespace Go.Proofs.Ytkjfpdfkcfgfkaa
open Go.RowKit

/-- An entry of a row stands for a number. -/
def entB (r x : Int) : Bool := r == -1 || r == x
def covTo (row vars ls : List Int) (k : Nat) : Bool := (List.range k).all (fun i => entB (row.getD i 0) (ls.getD (vars.getD i 0).toNat 0))
theorem covTo_succ (row vars ls : List Int) (k : Nat) : covTo row vars ls (k + 1) = (covTo row vars ls k && entB (row.getD k 0) (ls.getD (vars.getD k 0).toNat 0)) := by simp [covTo, List.range_succ]
/-- Does one of the first k rows cover it? -/
def covAny (rows : List (List Int)) (vars ls : List Int) (k : Nat) : Bool := (List.range k).any (fun j => covTo (rows.getD j []) vars ls vars.length)
theorem covAny_succ (rows : List (List Int)) (vars ls : List Int) (k : Nat) : covAny rows vars ls (k + 1) = (covAny rows vars ls k || covTo (rows.getD k []) vars ls vars.length) := by simp [covAny, List.range_succ]
def allowI (rows : List (List Int)) (vars ls : List Int) (nt : Bool) : Bool := if covAny rows vars ls rows.length then !nt else nt

set_option maxHeartbeats 1600000 in
set_option maxRecDepth 1000000 in
theorem allows_any (vo ro lo : Option Addr) (vcap rcap lc : Nat) (vars ls : List Int) (rows : List (List Int)) (nt : Bool) (way : Int) (w : World) (hv4 : vars.length ≤ 4) (hrl : rows.length ≤ 60)
    (hvin : ∀ i, i < vars.length → 0 ≤ vars.getD i 0 ∧ vars.getD i 0 < ls.length) (hrow : ∀ j, j < rows.length → (rows.getD j []).length = vars.length) (hvs : IntsAt w vo vars) (hrs : RowsAt w ro rows) (hls : IntsAt w lo ls) :
    Calls Try.prog 45 #[.agg #[.slice vo vars.length vcap, .slice ro rows.length rcap, .bool nt, .int .i64 way], .slice lo ls.length lc] w fun e w' => e = .returned (.bool (allowI rows vars ls nt)) ∧ Nw w w' := by
  obtain ⟨B, hB⟩ : ∃ B, B = w.heap.size := ⟨_, rfl⟩
  obtain ⟨W, hW⟩ : ∃ W, W = w.alloc (.cells #[.slice vo vars.length vcap, .slice ro rows.length rcap, .bool nt, .int .i64 way] 58) := ⟨_, rfl⟩
  have hfW : Nw w W := by rw [hW]; exact (Fr.refl _ w).alloc _
  have hbB : Blk W B #[.slice vo vars.length vcap, .slice ro rows.length rcap, .bool nt, .int .i64 way] 58 := by rw [hW, hB]; exact Blk.new _ _ _
  have Hvs := hd (hvs.nw hfW)
  have Hrs := hd (hrs.nw hfW)
  have Hls := hd (hls.nw hfW)
  have HfW := hd hfW
  have HbB := hd hbB
  clear hvs hrs hls hfW hbB
  go_enter Try.func45, Try.ntmps45
  go_upto_region 1 with fail
  rw [← hW, ← hB]
  clear hW hB
  go_wp2_with fail
  go_loopw [5, 6, 7] (fun r _ _ wr => ∃ k : Nat, k ≤ rows.length ∧ r = .int .i64 (k : Int) ∧ covAny rows vars ls k = false ∧ Hid (Nw W wr)) (fun r _ _ _ => rows.length - (intOf r).toNat)
  case atStart => exact ⟨0, by omega, rfl, rfl, Fr.refl _ _⟩
  case round =>
    obtain ⟨k, hk, rfl, hcov, HF⟩ := hrel
    have hB1 := HbB.out.nw HF.out
    have hBl := hB1.lt
    have c1 : wr.cell? ⟨B, 1, none⟩ = some (.slice ro rows.length rcap) := hB1.cell 1
    have c2 : wr.cell? ⟨B, 2, none⟩ = some (.bool nt) := hB1.cell 2
    have c0 : wr.cell? ⟨B, 0, none⟩ = some (.slice vo vars.length vcap) := hB1.cell 0
    clear hB1
    have Hcov := hd hcov
    clear hcov
    by_cases hlt : k < rows.length
    · have hd1 : (k : Int) < (rows.length : Int) := by omega
      obtain ⟨rb, rof, qo, qc, hre, hrbl, hrc, hRow⟩ := (Hrs.out.nw HF.out) k hlt
      have hrlen := hrow k hlt
      have Hsucc := hd (covAny_succ rows vars ls k)
      obtain ⟨row, hrv⟩ : ∃ row, rows.getD k [] = row := ⟨_, rfl⟩
      rw [hrv] at hrc hRow hrlen Hsucc
      rw [hrlen] at hrc
      subst hre
      have HRow := hd hRow
      clear hrv hRow
      go_wp2_with fail
      go_loopw [6, 7] (fun ok i w1 => ∃ q : Nat, q ≤ vars.length ∧ i = .int .i64 (q : Int) ∧ ok = .bool (covTo row vars ls q) ∧ Hid (Nw wr w1)) (fun _ i _ => vars.length - (intOf i).toNat)
      case atStart => exact ⟨0, by omega, rfl, rfl, Fr.refl _ _⟩
      case round =>
        rename World => w1
        obtain ⟨q, hq, rfl, rfl, HF1⟩ := hrel
        have hB1 := (HbB.out.nw HF.out).nw HF1.out
        have hBl1 := hB1.lt
        have d1 : w1.cell? ⟨B, 1, none⟩ = some (.slice (some ⟨rb, rof, none⟩) rows.length rcap) := hB1.cell 1
        have d2 : w1.cell? ⟨B, 2, none⟩ = some (.bool nt) := hB1.cell 2
        have d0 : w1.cell? ⟨B, 0, none⟩ = some (.slice vo vars.length vcap) := hB1.cell 0
        clear hB1
        by_cases hql : q < vars.length
        · have hdq : (q : Int) < (vars.length : Int) := by omega
          have Hcs := hd (covTo_succ row vars ls q)
          obtain ⟨vb, vof, hve, hvbl, hvc⟩ := ((Hvs.out.nw HF.out).nw HF1.out) q hql
          obtain ⟨hvr1, hvr2⟩ := hvin q hql
          obtain ⟨u, hu⟩ : ∃ u : Nat, vars.getD q 0 = (u : Int) := ⟨(vars.getD q 0).toNat, by omega⟩
          rw [hu] at hvc hvr2 Hcs
          rw [Int.toNat_natCast] at Hcs
          obtain ⟨lb, lof, hle, hlbl, hlc⟩ := ((Hls.out.nw HF.out).nw HF1.out) u (by omega)
          obtain ⟨qb, qof, hqe, hqbl, hqc⟩ := (HRow.out.nw HF1.out) q (by omega)
          have drc : w1.cell? ⟨rb, rof + k, none⟩ = some (.slice qo vars.length qc) := (HF1.out.cell hrbl (fun x => x)).trans hrc
          have hrbl1 : rb < w1.heap.size := Nat.lt_of_lt_of_le hrbl HF1.out.size
          obtain ⟨x, hx⟩ : ∃ x, ls.getD u 0 = x := ⟨_, rfl⟩
          obtain ⟨y, hy⟩ : ∃ y, row.getD q 0 = y := ⟨_, rfl⟩
          rw [hx] at hlc Hcs
          rw [hy] at hqc Hcs
          have hul : (u : Int) < (ls.length : Int) := hvr2
          subst hve
          subst hle
          subst hqe
          clear hu hx hy hrc
          cases hct : covTo row vars ls q with
          | false =>
            rw [hct] at Hcs
            go_wp2_with fail
            go_quiet (fail)
            go_wp2_with fail
            refine ⟨⟨q + 1, by omega, by simp, ?_, HF1.out.drewN _⟩, by simp [intOf]; omega⟩
            rw [Hcs.out]
            simp
          | true =>
            rw [hct] at Hcs
            by_cases hy1 : y = -1
            · have hyb : (y == -1) = true := by simp [hy1]
              have hen : entB y x = true := by simp [entB, hyb]
              rw [hen] at Hcs
              clear hen
              go_wp2_with fail
              go_quiet (fail)
              go_wp2_with fail
              refine ⟨⟨q + 1, by omega, by simp, ?_, HF1.out.drewN _⟩, by simp [intOf]; omega⟩
              rw [Hcs.out]
              simp
            · have hyb : (y == -1) = false := by simp [hy1]
              by_cases hyx : y = x
              · subst hyx
                have hen : entB y y = true := by simp [entB]
                rw [hen] at Hcs
                clear hen
                go_wp2_with fail
                go_quiet (fail)
                go_wp2_with fail
                refine ⟨⟨q + 1, by omega, by simp, ?_, HF1.out.drewN _⟩, by simp [intOf]; omega⟩
                rw [Hcs.out]
                simp
              · have hyc : (y == x) = false := by simp [hyx]
                have hen : entB y x = false := by simp [entB, hyc, hyb]
                rw [hen] at Hcs
                clear hen
                go_wp2_with fail
                go_quiet (fail)
                go_wp2_with fail
                refine ⟨⟨q + 1, by omega, by simp, ?_, HF1.out.drewN _⟩, by simp [intOf]; omega⟩
                rw [Hcs.out]
                simp
        · obtain rfl : q = vars.length := by omega
          have hdq : ¬ ((vars.length : Int) < (vars.length : Int)) := by omega
          cases hct : covTo row vars ls vars.length with
          | true =>
            go_wp2_with fail
            go_ret
            refine ⟨?_, (HfW.out.trans HF.out (fun _ x => x.elim)).trans HF1.out (fun _ x => x.elim)⟩
            have hall : covAny rows vars ls rows.length = true := by
              unfold covAny
              rw [List.any_eq_true]
              refine ⟨k, List.mem_range.2 hlt, ?_⟩
              have e1 := Hsucc.out
              have e2 := Hcov.out
              rw [e2, hct] at e1
              unfold covAny at e1 e2
              rw [List.range_succ, List.any_append, e2] at e1
              simpa using e1
            unfold allowI
            rw [hall]
            rfl
          | false =>
            rw [hct, Hcov.out] at Hsucc
            go_wp2_with fail
            exact ⟨⟨k + 1, by omega, by simp, Hsucc.out, HF.out.trans HF1.out (fun _ x => x.elim)⟩, by simp [intOf]; omega⟩
    · obtain rfl : k = rows.length := by omega
      have hd1 : ¬ ((rows.length : Int) < (rows.length : Int)) := by omega
      go_wp2_with fail
      go_ret
      refine ⟨?_, HfW.out.trans HF.out (fun _ x => x.elim)⟩
      unfold allowI
      rw [Hcov.out]
      rfl
end Go.Proofs.Ytkjfpdfkcfgfkaa

/- Supported: is there a list, out of what is left, that the table allows? -/
namespace Go.Proofs.Ytkjfpdfkcfgfkaa
open Go.RowKit

/-- What a call of stands looks into. -/
structure StEnv where
  vo : Option Addr
  ro : Option Addr
  lo : Option Addr
  vcap : Nat
  rcap : Nat
  lcap : Nat
  vars : List Int
  rows : List (List Int)
  left : List (List Int)
  nt : Bool
  way : Int
  v : Int
  value : Int
structure StEnv.Ok (E : StEnv) (W0 : World) (n : Nat) : Prop where
  v4 : E.vars.length ≤ 4
  rl : E.rows.length ≤ 60
  n8 : n ≤ 8
  ll : E.left.length = n
  vin : ∀ i, i < E.vars.length → 0 ≤ E.vars.getD i 0 ∧ E.vars.getD i 0 < n
  one : ∀ i k, i < E.vars.length → k < E.vars.length → E.vars.getD i 0 = E.vars.getD k 0 → i = k
  row : ∀ j, j < E.rows.length → (E.rows.getD j []).length = E.vars.length
  few : ∀ u, u < n → (E.left.getD u []).length ≤ 8
  vs : IntsAt W0 E.vo E.vars
  rs : RowsAt W0 E.ro E.rows
  ls : RowsAt W0 E.lo E.left
/-- There is a list that goes on from s, from the table's variable number i on. -/
def StEnv.Ex (E : StEnv) (i : Nat) (s : List Int) : Prop := ∃ l : List Int, l.length = s.length ∧ (∀ k, k < i → k < E.vars.length → l.getD (E.vars.getD k 0).toNat 0 = s.getD (E.vars.getD k 0).toNat 0) ∧
  (∀ k, i ≤ k → k < E.vars.length → l.getD (E.vars.getD k 0).toNat 0 ∈ E.left.getD (E.vars.getD k 0).toNat [] ∧ (E.vars.getD k 0 = E.v → l.getD (E.vars.getD k 0).toNat 0 = E.value)) ∧ allowI E.rows E.vars l E.nt = true
theorem covTo_congr {row vars l s : List Int} {k : Nat} (h : ∀ i, i < k → l.getD (vars.getD i 0).toNat 0 = s.getD (vars.getD i 0).toNat 0) : covTo row vars l k = covTo row vars s k := by
  unfold covTo
  rw [Bool.eq_iff_iff, List.all_eq_true, List.all_eq_true]
  constructor
  · intro hh i hi
    rw [← h i (List.mem_range.1 hi)]
    exact hh i hi
  · intro hh i hi
    rw [h i (List.mem_range.1 hi)]
    exact hh i hi
theorem allowI_congr {rows : List (List Int)} {vars l s : List Int} {nt : Bool} (h : ∀ i, i < vars.length → l.getD (vars.getD i 0).toNat 0 = s.getD (vars.getD i 0).toNat 0) : allowI rows vars l nt = allowI rows vars s nt := by
  have e : covAny rows vars l rows.length = covAny rows vars s rows.length := by
    unfold covAny
    congr 1
    funext j
    exact covTo_congr h
  unfold allowI
  rw [e]
theorem getD_int (l : List Int) (k : Nat) (h : k < l.length) : l.getD k 0 = l[k] := by simp [List.getD, h]
def intsV (l : List Int) : Array Value := (l.map (Value.int .i64)).toArray
theorem intsV_get (l : List Int) (i : Nat) (h : i < l.length) : (intsV l)[i]? = some (.int .i64 (l.getD i 0)) := by simp [intsV, h]
theorem intsV_set (l : List Int) (i : Nat) (x : Int) : (intsV l).setIfInBounds i (.int .i64 x) = intsV (l.set i x) := by simp [intsV, List.map_set]
theorem setI_get (l : List Int) (u q : Nat) (x : Int) (hu : u < l.length) : (l.set u x).getD q 0 = if u = q then x else l.getD q 0 := by
  by_cases e : u = q
  · subst e
    simp [List.getD, hu]
  · simp [List.getD, e]

/-- What a call of stands leaves: it says true, if there is such a list; of s it writes what was not chosen ahead of i. -/
structure StPost (E : StEnv) (Sb n i : Nat) (s : List Int) (w : World) (e : Ending) (w' : World) : Prop where
  out : ∃ b s', e = .returned (.bool b) ∧ (E.Ex i s → b = true) ∧ s'.length = n ∧ Blk w' Sb (intsV s') 3 ∧ Fr (fun k => k = Sb) w w' ∧ ∀ k, k < i → k < E.vars.length → s'.getD (E.vars.getD k 0).toNat 0 = s.getD (E.vars.getD k 0).toNat 0

set_option maxHeartbeats 3200000 in
set_option maxRecDepth 1000000 in
theorem stands_any (E : StEnv) (W0 : World) (Sb : Nat) (n sc : Nat) (hE : E.Ok W0 n) (hSb : W0.heap.size ≤ Sb) : ∀ (m i : Nat) (s : List Int) (w : World), i + m = E.vars.length → s.length = n → Nw W0 w → Blk w Sb (intsV s) 3 →
    Calls Try.prog 42 #[.agg #[.slice E.vo E.vars.length E.vcap, .slice E.ro E.rows.length E.rcap, .bool E.nt, .int .i64 E.way], .slice E.lo n E.lcap, .slice (some ⟨Sb, 0, none⟩) n sc, .int .i64 (i : Int), .int .i64 E.v, .int .i64 E.value] w
      fun e w' => StPost E Sb n i s w e w' := by
  intro m
  induction m with
  | zero =>
    intro i s w him hsl hW0 hS
    obtain rfl : i = E.vars.length := by omega
    subst hsl
    obtain ⟨vo, ro, lo, vcap, rcap, lcap, vars, rows, left, nt, way, v, value⟩ := E
    have hE' := hE
    obtain ⟨v4, rl, n8, ll, vin, one, row, few, vs, rs, lsw⟩ := hE
    dsimp only at v4 rl n8 ll vin one row few vs rs lsw
    dsimp only
    obtain ⟨B, hB⟩ : ∃ B, B = w.heap.size := ⟨_, rfl⟩
    obtain ⟨W, hW⟩ : ∃ W, W = w.alloc (.cells #[.slice vo vars.length vcap, .slice ro rows.length rcap, .bool nt, .int .i64 way] 58) := ⟨_, rfl⟩
    have hfW : Nw w W := by rw [hW]; exact (Fr.refl _ w).alloc _
    have hbB : Blk W B #[.slice vo vars.length vcap, .slice ro rows.length rcap, .bool nt, .int .i64 way] 58 := by rw [hW, hB]; exact Blk.new _ _ _
    have c0 : W.cell? ⟨B, 0, none⟩ = some (.slice vo vars.length vcap) := hbB.cell 0
    have c1 : W.cell? ⟨B, 1, none⟩ = some (.slice ro rows.length rcap) := hbB.cell 1
    have c2 : W.cell? ⟨B, 2, none⟩ = some (.bool nt) := hbB.cell 2
    have c3 : W.cell? ⟨B, 3, none⟩ = some (.int .i64 way) := hbB.cell 3
    have hBl := hbB.lt
    have hN := hW0.trans hfW (fun _ x => x.elim)
    have hS1 := hS.nw hfW
    have Hs := hd (IntsAt.of_blk hS1 0 s (fun i hi => by rw [Nat.zero_add]; exact intsV_get s i hi))
    have Hv := hd (vs.nw hN)
    have Hr := hd (rs.nw hN)
    have HS1 := hd hS1
    have HfW := hd hfW
    have Hvin := hd vin
    have Hrow := hd row
    clear hS hW0 hfW hbB hS1 vs rs lsw vin one row few hN hE'
    go_enter Try.func42, Try.ntmps42
    go_upto_region 1 with fail
    rw [← hW, ← hB]
    clear hW hB
    go_wp2_with (go_at_call 45; refine (allows_any vo ro (some ⟨Sb, 0, none⟩) vcap rcap sc vars s rows nt way _ v4 rl Hvin.out Hrow.out Hv.out Hr.out Hs.out).mono ?_; rintro e w1 ⟨rfl, hf1⟩)
    go_ret
    refine ⟨_, s, rfl, ?_, rfl, HS1.out.nw hf1, ?_, fun k _ _ => rfl⟩
    · rintro ⟨l, hl, h1, h2, h3⟩
      rw [← allowI_congr (l := l) (s := s) (fun i hi => h1 i hi hi)]
      exact h3
    · exact (HfW.out.trans hf1 (fun _ x => x.elim)).mono (fun _ x => x.elim)
  | succ m ih =>
    intro i s w him hsl hW0 hS
    have hil : i < E.vars.length := by omega
    obtain ⟨hu0, hun⟩ := hE.vin i hil
    obtain ⟨u, hu⟩ : ∃ u : Nat, E.vars.getD i 0 = (u : Int) := ⟨(E.vars.getD i 0).toNat, by omega⟩
    have hun' : u < n := by omega
    have hfew := hE.few u hun'
    obtain ⟨B, hB⟩ : ∃ B, B = w.heap.size := ⟨_, rfl⟩
    obtain ⟨W, hW⟩ : ∃ W, W = w.alloc (.cells #[.slice E.vo E.vars.length E.vcap, .slice E.ro E.rows.length E.rcap, .bool E.nt, .int .i64 E.way] 58) := ⟨_, rfl⟩
    have hfW : Nw w W := by rw [hW]; exact (Fr.refl _ w).alloc _
    have hbB : Blk W B #[.slice E.vo E.vars.length E.vcap, .slice E.ro E.rows.length E.rcap, .bool E.nt, .int .i64 E.way] 58 := by rw [hW, hB]; exact Blk.new _ _ _
    have hN := hW0.trans hfW (fun _ x => x.elim)
    have hS1 := hS.nw hfW
    have c0 : W.cell? ⟨B, 0, none⟩ = some (.slice E.vo E.vars.length E.vcap) := hbB.cell 0
    have hBl := hbB.lt
    have hSlt := hS.lt
    obtain ⟨vb, vof, hve, hvbl, hvc⟩ := (hE.vs.nw hN) i hil
    obtain ⟨lb, lof, lro, lrc, hle, hlbl0, hlc0, hLe⟩ := hE.ls u (by rw [hE.ll]; exact hun')
    rw [hu] at hvc
    have hEx : E.Ex i s → ∃ k, k < (E.left.getD u []).length ∧ ((u : Int) = E.v → (E.left.getD u []).getD k 0 = E.value) ∧ ∀ s1 : List Int, s1.length = s.length → (∀ j, j < i → s1.getD (E.vars.getD j 0).toNat 0 = s.getD (E.vars.getD j 0).toNat 0) → E.Ex (i + 1) (s1.set u ((E.left.getD u []).getD k 0)) := by
      rintro ⟨l, h1, h2, h3, h4⟩
      obtain ⟨h5, h6⟩ := h3 i (Nat.le_refl _) hil
      rw [hu, Int.toNat_natCast] at h5 h6
      obtain ⟨k, hk, he⟩ := List.getElem_of_mem h5
      have hgd : (E.left.getD u []).getD k 0 = l.getD u 0 := (getD_int _ k hk).trans he
      refine ⟨k, hk, fun hv => by rw [hgd]; exact h6 hv, fun s1 hs1 hag => ⟨l, by rw [List.length_set, hs1]; exact h1, fun j hj hjl => ?_, fun j hj hjl => h3 j (by omega) hjl, h4⟩⟩
      rw [hgd, setI_get _ _ _ _ (by rw [hs1, hsl]; exact hun')]
      split
      · rename_i e
        rw [e]
      · rename_i hne
        have hji : j < i := by
          rcases Nat.lt_succ_iff_lt_or_eq.1 hj with h | h
          · exact h
          · subst h
            rw [hu, Int.toNat_natCast] at hne
            exact absurd rfl hne
        rw [hag j hji]
        exact h2 j hji hjl
    obtain ⟨L, hL⟩ : ∃ L, E.left.getD u [] = L := ⟨_, rfl⟩
    rw [hL] at hEx hfew hlc0 hLe
    have HEx := hd hEx
    have HbB := hd hbB
    have HS1 := hd hS1
    have HN := hd hN
    have HfW := hd hfW
    have Hih := hd ih
    have HE := hd hE
    have Hu := hd hu
    have Hve := hd hve
    have Hle := hd hle
    have HLe := hd hLe
    have hul : (u : Int) < (n : Int) := by omega
    have hine : ((i : Int) == (E.vars.length : Int)) = false := by simp; omega
    have hilt : (i : Int) < (E.vars.length : Int) := by omega
    have hi4 : (i : Int) < 4 := by have := hE.v4; omega
    clear hEx hbB hS1 hN hfW ih hu hL hLe hS hW0 hun hu0 hE hve hle
    go_enter Try.func42, Try.ntmps42
    go_upto_region 1 with fail
    rw [← hW, ← hB]
    clear hW hB
    rw [Hve.out] at c0
    rw [Hle.out]
    go_wp2_with fail
    go_loopw [14, 15] (fun k _ wr => ∃ (q : Nat) (s1 : List Int), k = .int .i64 (q : Int) ∧ q ≤ L.length ∧ s1.length = n ∧ Hid (Blk wr Sb (intsV s1) 3) ∧ Hid (Fr (fun k => k = Sb) W wr) ∧ Hid (∀ j, j < i → s1.getD (E.vars.getD j 0).toNat 0 = s.getD (E.vars.getD j 0).toNat 0) ∧
      Hid (E.Ex i s → ∃ k, q ≤ k ∧ k < L.length ∧ ((u : Int) = E.v → L.getD k 0 = E.value) ∧ ∀ s1 : List Int, s1.length = s.length → (∀ j, j < i → s1.getD (E.vars.getD j 0).toNat 0 = s.getD (E.vars.getD j 0).toNat 0) → E.Ex (i + 1) (s1.set u (L.getD k 0)))) (fun k _ _ => L.length - (intOf k).toNat)
    case atStart => exact ⟨0, s, rfl, by omega, hsl, HS1, Fr.refl _ _, fun _ _ => rfl, fun h => by obtain ⟨k, h1, h2⟩ := HEx.out h; exact ⟨k, Nat.zero_le _, h1, h2⟩⟩
    case round =>
      obtain ⟨q, s1, rfl, hq, hs1, HB1, HF, Hag, HG⟩ := hrel
      have hN1 : Nw W0 wr := HN.out.trans HF.out (fun k hk => .inr (by omega))
      have HN1 := hd hN1
      have hlc : wr.cell? ⟨lb, lof + u, none⟩ = some (.slice lro L.length lrc) := (hN1.cell hlbl0 (fun x => x)).trans hlc0
      have hlbl : lb < wr.heap.size := Nat.lt_of_lt_of_le hlbl0 hN1.size
      by_cases hlt : q < L.length
      · have hdq : (q : Int) < (L.length : Int) := by omega
        obtain ⟨rb, rof, hre, hrbl, hrc⟩ := (HLe.out.nw hN1) q hlt
        obtain ⟨x, hx⟩ : ∃ x, L.getD q 0 = x := ⟨_, rfl⟩
        rw [hx] at hrc
        have Hx := hd hx
        have hSc : wr.cell? ⟨Sb, u, none⟩ = some (.int .i64 (s1.getD u 0)) := (HB1.out.cell u).trans (intsV_get s1 u (by omega))
        have hSf := HB1.out.free u
        have hSl := HB1.out.lt
        have hbx := (HbB.out.fr HF.out (fun e => by have := HS1.out.inj (e ▸ HbB.out); exact absurd this.2 (by decide)))
        have e0 : wr.cell? ⟨B, 0, none⟩ = some (.slice E.vo E.vars.length E.vcap) := hbx.cell 0
        have e1 : wr.cell? ⟨B, 1, none⟩ = some (.slice E.ro E.rows.length E.rcap) := hbx.cell 1
        have e2 : wr.cell? ⟨B, 2, none⟩ = some (.bool E.nt) := hbx.cell 2
        have e3 : wr.cell? ⟨B, 3, none⟩ = some (.int .i64 E.way) := hbx.cell 3
        have hbl := hbx.lt
        have hneB : B ≠ Sb := fun e => absurd (HB1.out.inj (e ▸ hbx)).2 (by decide)
        subst hre
        clear hx hN1 hbx
        by_cases hskip : (u : Int) = E.v ∧ ¬ x = E.value
        · obtain ⟨hk1, hk2⟩ := hskip
          have hb1 : ((u : Int) == E.v) = true := by simp [hk1]
          have hb2 : (x != E.value) = true := by simp [hk2]
          have hg2 : E.Ex i s → ∃ k, q + 1 ≤ k ∧ k < L.length ∧ ((u : Int) = E.v → L.getD k 0 = E.value) ∧ ∀ s1 : List Int, s1.length = s.length → (∀ j, j < i → s1.getD (E.vars.getD j 0).toNat 0 = s.getD (E.vars.getD j 0).toNat 0) → E.Ex (i + 1) (s1.set u (L.getD k 0)) := fun h => by
            obtain ⟨k, h1, h2, h3, h4⟩ := HG.out h
            refine ⟨k, ?_, h2, h3, h4⟩
            rcases Nat.lt_or_eq_of_le h1 with h | h
            · exact h
            · subst h
              exact absurd ((Hx.out).symm.trans (h3 hk1)) hk2
          have Hg2 := hd hg2
          clear hg2 hk1 hk2
          go_wp2_with fail
          exact ⟨⟨q + 1, s1, by simp, by omega, hs1, HB1, HF, Hag, Hg2⟩, by simp [intOf]; omega⟩
        · by_cases huv : (u : Int) = E.v
          · have hxv : x = E.value := by
              refine Classical.byContradiction fun h => hskip ⟨huv, h⟩
            have hb1 : ((u : Int) == E.v) = true := by simp [huv]
            have hb2 : (x != E.value) = false := by simp [hxv]
            clear huv hxv hskip
            go_wp2_with fail
            have hBs := HB1.out.set u (.int .i64 x)
            rw [intsV_set] at hBs
            have hfs : Fr (fun k => k = Sb) wr (wr.setCell ⟨Sb, u, none⟩ (.int .i64 x)) := (Fr.refl _ wr).setCell _ _ (.inl rfl)
            have hih := Hih.out (i + 1) (s1.set u x) (wr.setCell ⟨Sb, u, none⟩ (.int .i64 x)) (by omega) (by rw [List.length_set]; exact hs1) (HN1.out.trans hfs (fun k hk => .inr (by omega))) hBs
            rw [Hle.out, show ((i + 1 : Nat) : Int) = (i : Int) + 1 by simp] at hih
            refine hih.mono ?_
            rintro e w2 ⟨b, s2, rfl, hb, hs2, hB2, hF2, hag2⟩
            have hF3 : Fr (fun k => k = Sb) W w2 := (HF.out.trans hfs (fun k hk => .inl hk)).trans hF2 (fun k hk => .inl hk)
            have hag3 : ∀ j, j < i → s2.getD (E.vars.getD j 0).toNat 0 = s.getD (E.vars.getD j 0).toNat 0 := fun j hj => by
              rw [hag2 j (by omega) (by omega), setI_get _ _ _ _ (by omega), if_neg, Hag.out j hj]
              intro e
              have h1 := HE.out.vin j (by omega)
              have h2 : E.vars.getD j 0 = E.vars.getD i 0 := by rw [Hu.out]; omega
              have := HE.out.one j i (by omega) hil h2
              omega
            have hg2 : b = false → E.Ex i s → ∃ k, q + 1 ≤ k ∧ k < L.length ∧ ((u : Int) = E.v → L.getD k 0 = E.value) ∧ ∀ s1 : List Int, s1.length = s.length → (∀ j, j < i → s1.getD (E.vars.getD j 0).toNat 0 = s.getD (E.vars.getD j 0).toNat 0) → E.Ex (i + 1) (s1.set u (L.getD k 0)) := fun hbf h => by
              obtain ⟨k, h1, h2, h3, h4⟩ := HG.out h
              refine ⟨k, ?_, h2, h3, h4⟩
              rcases Nat.lt_or_eq_of_le h1 with h | h
              · exact h
              · subst h
                have h5 := hb (by rw [← Hx.out]; exact h4 s1 (by omega) Hag.out)
                rw [hbf] at h5
                cases h5
            have Hg2 := hd hg2
            have HF3 := hd hF3
            have Hag3 := hd hag3
            have HB2 := hd hB2
            clear hBs hfs hih hb hB2 hF2 hag2 hF3 hag3 hg2
            cases b with
            | true =>
              go_wp2_with fail
              go_ret
              exact ⟨true, s2, rfl, fun _ => rfl, hs2, HB2.out, (HfW.out.mono (fun _ x => x.elim)).trans HF3.out (fun _ h => .inl h), fun k hk _ => Hag3.out k hk⟩
            | false =>
              go_wp2_with fail
              exact ⟨⟨q + 1, s2, by simp, by omega, hs2, HB2, HF3, Hag3, Hg2.out trivial⟩, by simp [intOf]; omega⟩
          · have hb1 : ((u : Int) == E.v) = false := by simp [huv]
            clear huv hskip
            go_wp2_with fail
            have hBs := HB1.out.set u (.int .i64 x)
            rw [intsV_set] at hBs
            have hfs : Fr (fun k => k = Sb) wr (wr.setCell ⟨Sb, u, none⟩ (.int .i64 x)) := (Fr.refl _ wr).setCell _ _ (.inl rfl)
            have hih := Hih.out (i + 1) (s1.set u x) (wr.setCell ⟨Sb, u, none⟩ (.int .i64 x)) (by omega) (by rw [List.length_set]; exact hs1) (HN1.out.trans hfs (fun k hk => .inr (by omega))) hBs
            rw [Hle.out, show ((i + 1 : Nat) : Int) = (i : Int) + 1 by simp] at hih
            refine hih.mono ?_
            rintro e w2 ⟨b, s2, rfl, hb, hs2, hB2, hF2, hag2⟩
            have hF3 : Fr (fun k => k = Sb) W w2 := (HF.out.trans hfs (fun k hk => .inl hk)).trans hF2 (fun k hk => .inl hk)
            have hag3 : ∀ j, j < i → s2.getD (E.vars.getD j 0).toNat 0 = s.getD (E.vars.getD j 0).toNat 0 := fun j hj => by
              rw [hag2 j (by omega) (by omega), setI_get _ _ _ _ (by omega), if_neg, Hag.out j hj]
              intro e
              have h1 := HE.out.vin j (by omega)
              have h2 : E.vars.getD j 0 = E.vars.getD i 0 := by rw [Hu.out]; omega
              have := HE.out.one j i (by omega) hil h2
              omega
            have hg2 : b = false → E.Ex i s → ∃ k, q + 1 ≤ k ∧ k < L.length ∧ ((u : Int) = E.v → L.getD k 0 = E.value) ∧ ∀ s1 : List Int, s1.length = s.length → (∀ j, j < i → s1.getD (E.vars.getD j 0).toNat 0 = s.getD (E.vars.getD j 0).toNat 0) → E.Ex (i + 1) (s1.set u (L.getD k 0)) := fun hbf h => by
              obtain ⟨k, h1, h2, h3, h4⟩ := HG.out h
              refine ⟨k, ?_, h2, h3, h4⟩
              rcases Nat.lt_or_eq_of_le h1 with h | h
              · exact h
              · subst h
                have h5 := hb (by rw [← Hx.out]; exact h4 s1 (by omega) Hag.out)
                rw [hbf] at h5
                cases h5
            have Hg2 := hd hg2
            have HF3 := hd hF3
            have Hag3 := hd hag3
            have HB2 := hd hB2
            clear hBs hfs hih hb hB2 hF2 hag2 hF3 hag3 hg2
            cases b with
            | true =>
              go_wp2_with fail
              go_ret
              exact ⟨true, s2, rfl, fun _ => rfl, hs2, HB2.out, (HfW.out.mono (fun _ x => x.elim)).trans HF3.out (fun _ h => .inl h), fun k hk _ => Hag3.out k hk⟩
            | false =>
              go_wp2_with fail
              exact ⟨⟨q + 1, s2, by simp, by omega, hs2, HB2, HF3, Hag3, Hg2.out trivial⟩, by simp [intOf]; omega⟩
      · obtain rfl : q = L.length := by omega
        have hdq : ¬ ((L.length : Int) < (L.length : Int)) := by omega
        go_wp2_with fail
        go_ret
        refine ⟨false, s1, rfl, fun h => ?_, hs1, HB1.out, (HfW.out.mono (fun _ x => x.elim)).trans HF.out (fun _ h => .inl h), fun k hk _ => Hag.out k hk⟩
        obtain ⟨k, h1, h2, _⟩ := HG.out h
        omega
end Go.Proofs.Ytkjfpdfkcfgfkaa

/- Supported: what is left, as the statement sees it. -/
namespace Go.Proofs.Ytkjfpdfkcfgfkaa
open Go.RowKit

/-- What is left, as lists of numbers. -/
def leftOf (d : List Nat) (n : Nat) : List (List Int) := (List.range n).map (fun v => (vals (d.getD v 0)).map (fun (x : Nat) => (x : Int)))
theorem leftOf_len (d : List Nat) (n : Nat) : (leftOf d n).length = n := by simp [leftOf]
theorem leftOf_get (d : List Nat) (n u : Nat) (h : u < n) : (leftOf d n).getD u [] = (vals (d.getD u 0)).map (fun (x : Nat) => (x : Int)) := by
  simp only [leftOf, List.getD]
  rw [List.getElem?_map, List.getElem?_range h]
  rfl
theorem leftOf_succ (d : List Nat) (n : Nat) : leftOf d (n + 1) = leftOf d n ++ [(vals (d.getD n 0)).map (fun (x : Nat) => (x : Int))] := by simp [leftOf, List.range_succ]
theorem vals_len8 (s : Nat) : (vals s).length ≤ 8 := by
  have := List.length_filter_le (fun v => s.testBit v) (List.range 8)
  simpa [vals] using this
/-- A list of all variables' values that has l0 at a table's variables. -/
def putAt (vars : List Int) (l0 : List Nat) (n : Nat) : List Int := (List.range n).map (fun (u : Nat) => ((l0.getD (vars.idxOf (u : Int)) 0 : Nat) : Int))
theorem putAt_get {vars : List Int} {l0 : List Nat} {n : Nat} (hin : ∀ i, i < vars.length → 0 ≤ vars.getD i 0 ∧ vars.getD i 0 < n) (hone : ∀ i k, i < vars.length → k < vars.length → vars.getD i 0 = vars.getD k 0 → i = k) (k : Nat) (hk : k < vars.length) :
    (putAt vars l0 n).getD (vars.getD k 0).toNat 0 = (l0.getD k 0 : Nat) := by
  obtain ⟨h0, h1⟩ := hin k hk
  have hu : (vars.getD k 0).toNat < n := by omega
  have e1 : (putAt vars l0 n).getD (vars.getD k 0).toNat 0 = ((l0.getD (vars.idxOf (((vars.getD k 0).toNat : Nat) : Int)) 0 : Nat) : Int) := by
    simp only [putAt, List.getD]
    rw [List.getElem?_map, List.getElem?_range (by simpa [List.getD] using hu)]
    rfl
  rw [e1]
  have e2 : (((vars.getD k 0).toNat : Nat) : Int) = vars.getD k 0 := by omega
  rw [e2]
  have hmem : vars.getD k 0 ∈ vars := by rw [getD_int _ _ hk]; exact List.getElem_mem hk
  have hj : vars.idxOf (vars.getD k 0) < vars.length := List.idxOf_lt_length_iff.2 hmem
  have e3 : vars.getD (vars.idxOf (vars.getD k 0)) 0 = vars.getD k 0 := by
    rw [getD_int _ _ hj]
    exact List.getElem_idxOf hj
  rw [hone _ _ hj hk e3]
theorem covTo_covers {row vars : List Int} {l : List Int} {l0 : List Nat} (h0 : l0.length = vars.length) (h : ∀ k, k < vars.length → l.getD (vars.getD k 0).toNat 0 = (l0.getD k 0 : Nat)) : covTo row vars l vars.length = true ↔ Covers row l0 := by
  unfold covTo Covers
  rw [List.all_eq_true]
  constructor
  · intro hh i hi
    have := hh i (List.mem_range.2 (by omega))
    rw [h i (by omega)] at this
    exact this
  · intro hh i hi
    rw [h i (List.mem_range.1 hi)]
    exact hh i (by rw [h0]; exact List.mem_range.1 hi)
theorem allowI_allow {rows : List (List Int)} {vars : List Int} {l : List Int} {l0 : List Nat} {nt : Bool} (h0 : l0.length = vars.length) (h : ∀ k, k < vars.length → l.getD (vars.getD k 0).toNat 0 = (l0.getD k 0 : Nat)) : allowI rows vars l nt = true ↔ Allow rows nt l0 := by
  have hc : covAny rows vars l rows.length = true ↔ ∃ j, j < rows.length ∧ Covers (rows.getD j []) l0 := by
    unfold covAny
    rw [List.any_eq_true]
    constructor
    · rintro ⟨j, hj, hh⟩
      exact ⟨j, List.mem_range.1 hj, (covTo_covers h0 h).1 hh⟩
    · rintro ⟨j, hj, hh⟩
      exact ⟨j, List.mem_range.2 hj, (covTo_covers h0 h).2 hh⟩
  unfold allowI Allow
  cases nt with
  | false =>
    simp only [Bool.not_false, Bool.false_eq_true, if_false]
    rw [← hc]
    cases covAny rows vars l rows.length <;> simp
  | true =>
    simp only [Bool.not_true, if_true]
    have : (∀ j, j < rows.length → ¬ Covers (rows.getD j []) l0) ↔ covAny rows vars l rows.length = false := by
      rw [← Bool.not_eq_true, hc]
      exact ⟨fun a ⟨j, hj, hh⟩ => a j hj hh, fun a j hj hh => a ⟨j, hj, hh⟩⟩
    rw [this]
    cases covAny rows vars l rows.length <;> simp
/-- What a table supports, stands. -/
theorem stands_ex (E : StEnv) (n : Nat) (d : List Nat) (hd64 : ∀ q, d.getD q 0 < 64) (hin : ∀ i, i < E.vars.length → 0 ≤ E.vars.getD i 0 ∧ E.vars.getD i 0 < n) (hone : ∀ i k, i < E.vars.length → k < E.vars.length → E.vars.getD i 0 = E.vars.getD k 0 → i = k) (hleft : E.left = leftOf d n)
    (i x : Nat) (hi : i < E.vars.length) (hv : E.v = E.vars.getD i 0) (hx : E.value = (x : Int)) (hS : Supp E.vars E.rows E.nt d i x) : E.Ex 0 (List.replicate n 0) := by
  obtain ⟨l0, ⟨hl0, hO⟩, hval, hA⟩ := hS
  have hg := fun k hk => putAt_get (l0 := l0) hin hone k hk
  refine ⟨putAt E.vars l0 n, by simp [putAt], fun k hk => absurd hk (Nat.not_lt_zero _), fun k _ hk => ?_, (allowI_allow hl0 hg).2 hA⟩
  obtain ⟨h0, h1⟩ := hin k hk
  rw [hg k hk, hleft, leftOf_get d n _ (by omega)]
  refine ⟨List.mem_map.2 ⟨_, (vals_mem (hd64 _)).2 (hO k hk), rfl⟩, fun hvk => ?_⟩
  have hki : k = i := hone k i hk hi (by rw [hvk, hv])
  rw [hki, hval, hx]
theorem made_ints (n : Nat) : madeCells (Value.int .i64 0).cells (n * 1) = intsV (List.replicate n 0) := by
  rw [Nat.mul_one]
  unfold madeCells intsV
  apply Array.ext
  · simp
  · intro i h1 h2
    simp only [Array.getElem_map, Array.getElem_range, Value.cells, List.getElem_toArray, List.getElem_map, List.getElem_replicate]
    show #[Value.int .i64 0][i % 1]! = _
    rw [Nat.mod_one]
    rfl
end Go.Proofs.Ytkjfpdfkcfgfkaa

/- Supported: is each value that is left supported by each table? The walk. -/
namespace Go.Proofs.Ytkjfpdfkcfgfkaa
open Go.RowKit

theorem Row.of_blk {w : World} {g : Nat} {e : TypeId} {xs : List Value} (h : Blk w g xs.toArray e) (hl : xs.length ≤ 1000) : Row w (.slice (some ⟨g, 0, none⟩) xs.length xs.length) e xs :=
  ⟨by simp, .inr ⟨g, xs.length, xs.toArray, rfl, Nat.zero_le _, h, Nat.le_refl _, by unfold maxLen; omega, by simp, by simp⟩⟩
/-- One row more. -/
theorem RowsOwn.app {W w w2 : World} {v v' nv : Value} {rl : List Value} {rows : List (List Int)} {row : List Int} {g : Nat} (h : RowsOwn W w v rl rows) (hn : Own W w nv 3 (row.map (Value.int .i64))) (hr : Row w2 v' 22 (rl ++ [nv])) (hf : Fr (fun k => v.ownBlock = some k) w w2)
    (hv : v'.ownBlock = some g) (ha : v.ownBlock = some g ∨ w.heap.size ≤ g) : RowsOwn W w2 v' (rl ++ [nv]) (rows ++ [row]) := by
  have fI : ∀ (u : Value) (xs : List Value), Own W w u 3 xs → Own W w2 u 3 xs := fun u xs ho => ho.fr hf (fun k hk hS => by
    obtain ⟨cur, hb, _⟩ := ho.row.blk hk
    exact h.own.row.ne hb (by decide) hS) h.own.since
  refine ⟨h.own.more (g := g) hr hf hv ha, by rw [List.length_append, List.length_append, h.len]; rfl, fun i hi => ?_⟩
  rw [List.length_append] at hi
  by_cases hij : i < rows.length
  · have e1 : (rl ++ [nv]).getD i undef = rl.getD i undef := by simp only [List.getD]; rw [List.getElem?_append_left (by rw [h.len]; exact hij)]
    have e2 : (rows ++ [row]).getD i [] = rows.getD i [] := by simp only [List.getD]; rw [List.getElem?_append_left hij]
    rw [e1, e2]
    exact fI _ _ (h.each i hij)
  · have hi' : i = rows.length := by simp at hi; omega
    subst hi'
    have e1 : (rl ++ [nv]).getD rows.length undef = nv := by simp only [List.getD]; rw [List.getElem?_append_right (by rw [h.len]; omega), h.len]; simp
    have e2 : (rows ++ [row]).getD rows.length [] = row := by simp only [List.getD]; rw [List.getElem?_append_right (by omega)]; simp
    rw [e1, e2]
    exact fI _ _ hn
theorem ints_map (ds : List Nat) : (ds.map (fun (x : Nat) => (x : Int))).map (Value.int .i64) = ints ds := by simp [ints]
noncomputable def supReg : Array Oper := regOps Try.f20 19
/-- A load of four cells. -/
theorem exec_load4 {ev : Operand → Value} {o : Oper} {w : World} {b off : Nat} {v0 v1 v2 v3 : Value} (t : TypeId) (x : Operand) (ho : o.op = .load t x) (hx : ev x = .pointer (some ⟨b, off, none⟩)) (hag : (isAgg t).run Try.prog w = .ok true w) (hsz : (sizeOf t).run Try.prog w = .ok 4 w)
    (c0 : w.cell? ⟨b, off, none⟩ = some v0) (c1 : w.cell? ⟨b, off + 1, none⟩ = some v1) (c2 : w.cell? ⟨b, off + 2, none⟩ = some v2) (c3 : w.cell? ⟨b, off + 3, none⟩ = some v3) :
    (execOp ev o).run Try.prog w = .ok (.value (.agg #[v0, v1, v2, v3])) w := by
  have hl : ∀ (a : Addr) (v : Value), w.cell? a = some v → (Sem.load Mode.plain a Sem.pure).run Try.prog w = .ok v w := fun a v hc => by
    unfold Sem.run
    rw [hc]
    rfl
  unfold execOp
  simp [ho, hx, Instr.loadAt, Instr.sureAddr, loadVar, hag, hsz, Result.andThen, load, loadCells, loadCellsFrom, Addr.add, hl _ _ c0, hl _ _ c1, hl _ _ c2, hl _ _ c3]
/-- The place of an element, of four cells each. -/
theorem exec_index4 {ev : Operand → Value} {o : Oper} {w : World} {b off n cap i : Nat} (t e : TypeId) (x y : Operand) (ho : o.op = .indexAddr t x y) (hx : ev x = .slice (some ⟨b, off, none⟩) n cap) (hy : ev y = .int .i64 (i : Int)) (hi : i < n)
    (ht : (underlying t).run Try.prog w = .ok (.slice e) w) (he : (sizeOf e).run Try.prog w = .ok 4 w) :
    (execOp ev o).run Try.prog w = .ok (.value (.pointer (some ⟨b, off + i * 4, none⟩))) w := by
  unfold execOp
  simp [ho, hx, hy, Instr.indexAt, asIntOf, ht, he, Result.andThen, go_sem, hi]
theorem exec_make {ev : Operand → Value} {o : Oper} {w : World} {n : Nat} (x y : Operand) (ho : o.op = .makeSlice 22 x y) (hx : ev x = .int .i64 (n : Int)) (hy : ev y = .int .i64 (n : Int)) (hn : n ≤ 1000) :
    (execOp ev o).run Try.prog w = .ok (.value (.slice (some ⟨w.heap.size, 0, none⟩) n n)) (w.alloc (.cells (intsV (List.replicate n 0)) 3)) := by
  obtain ⟨i0, hi0, hz0, hz1, hz2⟩ := info_parts Try.infoInt
  have h := run_make (P := Try.prog) w 22 3 i0 (.int .i64 0) Try.underlying22 hi0 hz0 .i64 .i64 (n : Int) (n : Int) (by omega) (Int.le_refl _) (by rw [hz2]; omega) (by omega)
  rw [hz1, Int.toNat_natCast, made_ints] at h
  unfold execOp
  simp [ho, hx, hy, h, Result.andThen]

set_option maxHeartbeats 3200000 in
set_option maxRecDepth 1000000 in
theorem supported_any (X : Nat) (zs : List Int) (s : WS) (so : Option Addr) (sc : Nat) (lv : Value) (tvs : List Value) (ts : List Tw) (W w : World) (hA : WAt w X zs s) (hbz : s.l.busy = false) (hs : IntsAt w so zs) (hT : TblsOwn W w lv tvs ts) (ht12 : ts.length ≤ 12)
    (hok : ∀ i, i < ts.length → okTable zs (ts.getD i tw0).tb.vars (ts.getD i tw0).tb.rows (ts.getD i tw0).way = true) (hsup : Full zs.length s.d → ∀ i, i < ts.length → SuppAll (ts.getD i tw0).tb s.d) :
    Calls Try.prog 20 #[.pointer (some ⟨X, 0, none⟩), .slice so zs.length sc, lv] w fun e w' => e = .returned (.bool true) ∧ Nw w w' := by
  obtain ⟨hz0, hz8⟩ := okSizes_len hA.mem.zok
  obtain ⟨i1, hi1', hz1a, hz1b, hz1c⟩ := info_parts Try.infoInts
  obtain ⟨lo, lcap, hform⟩ := hT.form
  subst hform
  have hdm := hA.good.dm
  have hd8 := hdm.len
  have hdead := hA.dead_iff
  have HA := hd hA
  have HT := hd hT
  have Hs := hd hs
  have Hsup := hd hsup
  have Hdm := hd hdm
  have Hdead := hd hdead
  clear hA hT hs hsup hdm hdead
  obtain ⟨db, hdb⟩ : ∃ db, (s.d.getD 0 0 == 0) = db := ⟨_, rfl⟩
  have Hdb := hd hdb
  clear hdb
  go_enter Try.func20, Try.ntmps20
  go_wp2_with fail
  go_loopw [7, 8, 9, 10] (fun l v _ _ wr => ∃ (k : Nat) (rl : List Value), k ≤ zs.length ∧ v = .int .i64 (k : Int) ∧ Hid (RowsOwn w wr l rl (leftOf s.d k))) (fun _ v _ _ _ => zs.length - (intOf v).toNat)
  case atStart => exact ⟨0, [], by omega, rfl, ⟨Own.nil _ _, rfl, fun i hi => absurd hi (Nat.not_lt_zero _)⟩⟩
  case round =>
    obtain ⟨k, rl, hk, rfl, HR⟩ := hrel
    obtain ⟨ro, rcap, hform, _⟩ := HR.out.own.row.form
    have hrl : rl.length = k := by rw [HR.out.len, leftOf_len]
    rw [hrl] at hform
    subst hform
    have hFk := HR.out.own.nw
    have HFk := hd hFk
    have HA1 := hd (HA.out.nw hFk)
    clear hFk
    by_cases hlt : k < zs.length
    · have hd1 : (k : Int) < (zs.length : Int) := by omega
      have h64 := Hdm.out.lt k
      go_wp2_with fail
      refine (domain_ok X s.szv s.d _ s.l zs k wr HA1.out.mem.blk HA1.out.mem.sz hz8 hlt hd8 (by omega) hbz).mono ?_
      rintro e w1 ⟨rfl, hf1, hb1⟩
      have hv0 : (vals (s.d.getD k 0)).length = 0 ↔ db = true := by
        rw [← Hdb.out]
        simp only [beq_iff_eq]
        rw [Hdead.out]
        constructor
        · intro h hF
          have h1 := hF k hlt
          have h2 : vals (s.d.getD k 0) = [] := List.eq_nil_of_length_eq_zero h
          obtain ⟨j, hj⟩ := ne_zero_bit h1
          have := (vals_mem h64).2 hj
          rw [h2] at this
          cases this
        · intro hF
          have : s.d = zero8 := HA.out.dead_zero (Hdead.out.2 hF)
          rw [this, zero8_get, vals_zero]
          rfl
      have hv8 := vals_len8 (s.d.getD k 0)
      have Hsucc := hd (leftOf_succ s.d k)
      obtain ⟨ds, hds⟩ : ∃ ds, vals (s.d.getD k 0) = ds := ⟨_, rfl⟩
      rw [hds] at hb1 hv0 hv8 Hsucc ⊢
      have hlb : ((ds.length : Int) == 0) = db := by
        cases db with
        | true => have := hv0.2 rfl; rw [this]; rfl
        | false =>
          have : ds.length ≠ 0 := fun h => by have := hv0.1 h; cases this
          rw [beq_eq_false_iff_ne]; omega
      have Hb1 := hd hb1
      have Hf1 := hd hf1
      have HA2 := hd (HA1.out.nw hf1)
      clear hds hb1 hf1 hv0 h64
      go_wp2_with fail
      refine (look_ws HA2.out hbz false db _ Hdb.out rfl).mono ?_
      rintro e w2 ⟨fx, rfl, hf2⟩
      have hfld := fun W => look_dead W (zs.length : Int) (s.ts.length : Int) (s.sk.length : Int) (leftTo s.d 8 : Int) (fx : Int) db
      have Hb2 := hd (Hb1.out.nw hf2)
      have HN2 := hd (Hf1.out.trans hf2 (fun _ x => x.elim))
      have HR2 := hd (RowsOwn.mk (HR.out.own.step HN2.out) HR.out.len (fun i hi => (HR.out.each i hi).step HN2.out))
      clear hf2 Hb1 Hf1
      go_wp2_with (at_builtin; refine wpList_append_own_at _ rfl _ _ 25 rfl 0 22 i1 (.slice none 0 0) 1 24 Try.underlying25 hi1' hz1a hz1b hz1c rfl (by decide) _ _ _ rfl (Row.alloc HR2.out.own.row _) ⟨_, 0, none⟩ 1 1 [.slice (some ⟨wr.heap.size, 0, none⟩) ds.length ds.length] rfl rfl (cell_one_new _ _ _) (by simp [Value.oneCell']) (by unfold maxLen; omega) (by omega) (Nat.zero_le _) ?_; intro v' w3 hown' hgrow _ hat; obtain ⟨g', cap', rfl, hr3, hf3, ha3, hlt3⟩ := app1 hown' hgrow hat)
      rw [hrl] at hr3
      have hsz := HFk.out.size
      have hnew : Own w w2 (.slice (some ⟨wr.heap.size, 0, none⟩) ds.length ds.length) 3 ((ds.map (fun (x : Nat) => (x : Int))).map (Value.int .i64)) := by
        rw [ints_map]
        have hrw := Row.of_blk (xs := ints ds) Hb2.out (by rw [ints, List.length_map]; omega)
        rw [show (ints ds).length = ds.length by simp [ints]] at hrw
        exact ⟨hrw, HFk.out.trans HN2.out (fun _ x => x.elim), fun q hq => by cases hq; exact hsz⟩
      refine ⟨⟨k + 1, rl ++ [.slice (some ⟨wr.heap.size, 0, none⟩) ds.length ds.length], by omega, by simp, ?_⟩, by simp [intOf]; omega⟩
      rw [Hsucc.out]
      exact HR2.out.app (g := g') hnew hr3 hf3 rfl (ha3.imp (fun h => h) (fun h => by omega))
    · obtain rfl : k = zs.length := by omega
      have hd1 : ¬ ((zs.length : Int) < (zs.length : Int)) := by omega
      have HlR := hd HR.out.toT.rows
      rename World => wA
      have HTA := hd (HT.out.step HFk.out)
      clear HR hrl
      go_wp2_with fail
      go_loopw [11, 12, 13, 14, 15] (fun k _ _ _ _ wr => ∃ q : Nat, q ≤ ts.length ∧ k = .int .i64 (q : Int) ∧ Hid (Nw wA wr)) (fun k _ _ _ _ _ => ts.length - (intOf k).toNat)
      case atStart => exact ⟨0, by omega, rfl, Fr.refl _ _⟩
      case round =>
        obtain ⟨q, hq, rfl, HN⟩ := hrel
        have HA1 := hd ((HA.out.nw HFk.out).nw HN.out)
        by_cases hlt : q < ts.length
        · have hdq : (q : Int) < (ts.length : Int) := by omega
          go_wp2_with fail
          refine (look_ws HA1.out hbz false db _ Hdb.out rfl).mono ?_
          rintro e w0 ⟨fx, rfl, hf0⟩
          have hfld := fun W => look_dead W (zs.length : Int) (s.ts.length : Int) (s.sk.length : Int) (leftTo s.d 8 : Int) (fx : Int) db
          have HN0 := hd (HN.out.trans hf0 (fun _ x => x.elim))
          clear hf0
          cases db with
          | true =>
            go_wp2_with fail
            go_ret
            exact ⟨rfl, HFk.out.trans HN0.out (fun _ x => x.elim)⟩
          | false =>
            have hF : Full zs.length s.d := by
              have h1 := Hdb.out
              rw [beq_eq_false_iff_ne] at h1
              exact Classical.byContradiction fun h => h1 (Hdead.out.2 h)
            have hS := Hsup.out hF q hlt
            obtain ⟨hway, hv1, hr60, hVO, hvn, hrl⟩ := okTable_parts (hok q hlt) hz8
            obtain ⟨g, cap, vo, vcap, tro, trc, hv, hgl, z0, z1, z2, z3, hvc, hI1, hI2⟩ := HTA.out.cell q hlt
            simp only [Value.slice.injEq] at hv
            obtain ⟨rfl, _, rfl⟩ := hv
            obtain ⟨⟨⟨vars, rows, nt⟩, way⟩, htv⟩ : ∃ t, ts.getD q tw0 = t := ⟨_, rfl⟩
            rw [htv] at hS hv1 hr60 hVO hvn hrl z0 z1 z2 z3 hvc hI1 hI2
            dsimp only at hS hv1 hr60 hVO hvn hrl z0 z1 z2 z3 hvc hI1 hI2
            obtain ⟨vb, vof, rfl, hvbl, _⟩ := hI1 0 (by omega)
            have HS := hd hS
            have HVO := hd hVO
            have hv4 : vars.length ≤ 4 := hVO.four
            have Hvn := hd hvn
            have Hrl := hd hrl
            have HI1 := hd hI1
            have HI2 := hd hI2
            have Hz0 := hd z0
            have Hz1 := hd z1
            have Hz2 := hd z2
            have Hz3 := hd z3
            clear hS hVO hvn hrl hI1 hI2 z0 z1 z2 z3 htv hF
            go_wp2_with fail
            go_loopw [12, 13, 14, 15] (fun i _ _ _ w1 => ∃ j : Nat, j ≤ vars.length ∧ i = .int .i64 (j : Int) ∧ Hid (Nw wA w1)) (fun i _ _ _ _ => vars.length - (intOf i).toNat)
            case atStart => exact ⟨0, by omega, rfl, HN0⟩
            case round =>
              rename World => w1
              obtain ⟨j, hj, rfl, HN1⟩ := hrel
              have z0 : w1.cell? ⟨g, q * 4, none⟩ = some (.slice (some ⟨vb, vof, none⟩) vars.length vcap) := (HN1.out.cell hgl (fun x => x)).trans Hz0.out
              have hgl1 : g < w1.heap.size := Nat.lt_of_lt_of_le hgl HN1.out.size
              by_cases hjl : j < vars.length
              · have hdj : (j : Int) < (vars.length : Int) := by omega
                obtain ⟨vb', vof', hve, hvbl1, hvcj⟩ := (HI1.out.nw HN1.out) j hjl
                simp only [Option.some.injEq, Addr.mk.injEq, and_true] at hve
                obtain ⟨rfl, rfl⟩ := hve
                have hvr := HVO.out.ok j hjl
                have hvr2 := Hvn.out j hjl
                obtain ⟨u, hu⟩ : ∃ u : Nat, vars.getD j 0 = (u : Int) := ⟨(vars.getD j 0).toNat, by omega⟩
                rw [hu] at hvcj hvr2
                have Hu := hd hu
                have huz : u < zs.length := by omega
                obtain ⟨lb, lof, rro, rc, hle, hlbl0, hlc0, hRow⟩ := HlR.out u (by rw [leftOf_len]; exact huz)
                rw [leftOf_get _ _ _ huz] at hlc0 hRow
                rw [List.length_map] at hlc0
                have HRow := hd hRow
                subst hle
                have hv8 := vals_len8 (s.d.getD u 0)
                have hul : (u : Int) < (zs.length : Int) := by omega
                clear hu hRow hvr
                go_wp2_with fail
                go_loopw [14, 15] (fun x _ w2 => ∃ y : Nat, y ≤ (vals (s.d.getD u 0)).length ∧ x = .int .i64 (y : Int) ∧ Hid (Nw wA w2)) (fun x _ _ => (vals (s.d.getD u 0)).length - (intOf x).toNat)
                case atStart => exact ⟨0, by omega, rfl, HN1⟩
                case round =>
                  clear z0 hgl1 hvcj hvbl1 HN1
                  rename World => w1
                  obtain ⟨x, hx, rfl, HN1⟩ := hrel
                  have hlc : w1.cell? ⟨lb, lof + u, none⟩ = some (.slice rro (vals (s.d.getD u 0)).length rc) := (HN1.out.cell hlbl0 (fun x => x)).trans hlc0
                  have hlbl : lb < w1.heap.size := Nat.lt_of_lt_of_le hlbl0 HN1.out.size
                  by_cases hxl : x < (vals (s.d.getD u 0)).length
                  · obtain ⟨rb, rof, hre, hrbl, hrc⟩ := (HRow.out.nw HN1.out) x (by rw [List.length_map]; exact hxl)
                    subst hre
                    have hmem : (vals (s.d.getD u 0))[x] ∈ vals (s.d.getD u 0) := List.getElem_mem hxl
                    obtain ⟨y, hy⟩ : ∃ y : Nat, (vals (s.d.getD u 0))[x] = y := ⟨_, rfl⟩
                    have hyI : ((vals (s.d.getD u 0)).map (fun (x : Nat) => (x : Int))).getD x 0 = (y : Int) := by
                      rw [getD_int _ _ (by rw [List.length_map]; exact hxl), List.getElem_map, hy]
                    rw [hyI] at hrc
                    rw [hy] at hmem
                    have z0 : w1.cell? ⟨g, 0 + q * 4, none⟩ = some (.slice (some ⟨vb, vof, none⟩) vars.length vcap) := by rw [Nat.zero_add]; exact (HN1.out.cell hgl (fun x => x)).trans Hz0.out
                    have z1 : w1.cell? ⟨g, 0 + q * 4 + 1, none⟩ = some (.slice tro rows.length trc) := by rw [Nat.zero_add]; exact (HN1.out.cell hgl (fun x => x)).trans Hz1.out
                    have z2 : w1.cell? ⟨g, 0 + q * 4 + 2, none⟩ = some (.bool nt) := by rw [Nat.zero_add]; exact (HN1.out.cell hgl (fun x => x)).trans Hz2.out
                    have z3 : w1.cell? ⟨g, 0 + q * 4 + 3, none⟩ = some (.int .i64 way) := by rw [Nat.zero_add]; exact (HN1.out.cell hgl (fun x => x)).trans Hz3.out
                    have hgl1 : g < w1.heap.size := Nat.lt_of_lt_of_le hgl HN1.out.size
                    have hstand : Calls Try.prog 42 #[.agg #[.slice (some ⟨vb, vof, none⟩) vars.length vcap, .slice tro rows.length trc, .bool nt, .int .i64 way], .slice (some ⟨lb, lof, none⟩) zs.length rcap, .slice (some ⟨w1.heap.size, 0, none⟩) zs.length zs.length, .int .i64 0, .int .i64 (u : Int), .int .i64 (y : Int)]
                        (w1.drew.alloc (.cells (intsV (List.replicate zs.length 0)) 3)) fun e w' => e = .returned (.bool true) ∧ Nw w1 w' := by
                      have hvin : ∀ i, i < vars.length → 0 ≤ vars.getD i 0 ∧ vars.getD i 0 < zs.length := fun i hi => ⟨(HVO.out.ok i hi).1, Hvn.out i hi⟩
                      have hE : StEnv.Ok ⟨some ⟨vb, vof, none⟩, tro, some ⟨lb, lof, none⟩, vcap, trc, rcap, vars, rows, leftOf s.d zs.length, nt, way, u, y⟩ wA zs.length :=
                        ⟨HVO.out.four, hr60, hz8, leftOf_len _ _, hvin, HVO.out.one, Hrl.out, fun u hu => by show ((leftOf s.d zs.length).getD u []).length ≤ 8; rw [leftOf_get _ _ _ hu, List.length_map]; exact vals_len8 _, HI1.out, HI2.out, HlR.out⟩
                      have hex := stands_ex ⟨some ⟨vb, vof, none⟩, tro, some ⟨lb, lof, none⟩, vcap, trc, rcap, vars, rows, leftOf s.d zs.length, nt, way, u, y⟩ zs.length s.d Hdm.out.lt hvin HVO.out.one rfl j y hjl Hu.out.symm rfl (HS.out j y hjl (by show (s.d.getD (vars.getD j 0).toNat 0).testBit y = true; rw [Hu.out, Int.toNat_natCast]; exact (vals_mem (Hdm.out.lt u)).1 hmem))
                      have hN2 : Nw wA (w1.drew.alloc (.cells (intsV (List.replicate zs.length 0)) 3)) := (HN1.out.drew).alloc _
                      have hst := stands_any _ wA w1.heap.size zs.length zs.length hE HN1.out.size vars.length 0 (List.replicate zs.length 0) _ (by simp) (by simp) hN2 (Blk.new w1.drew _ _)
                      refine hst.mono ?_
                      rintro e w' ⟨b, s', rfl, hb, _, _, hf, _⟩
                      rw [hb hex]
                      exact ⟨rfl, ((Fr.refl (fun _ => False) w1).drew.alloc _).trans hf (fun k hk => .inr (by omega))⟩
                    have HStand := hd hstand
                    have hdx : (x : Int) < ((vals (s.d.getD u 0)).length : Int) := by omega
                    obtain ⟨ds, hds⟩ : ∃ ds, vals (s.d.getD u 0) = ds := ⟨_, rfl⟩
                    rw [hds] at hlc hxl hx hdx hv8 ⊢
                    clear hmem hy hyI hstand
                    go_wp2_with fail
                    have hK0 : Nw w1 w1.drew := (Fr.refl _ w1).drew
                    refine region_H supReg 18 (fun w'' => Nw w1 w'') (by kernel_rfl) (by kernel_rfl) (by kernel_rfl) ?_
                    refine take_at (i := 0) (d := some 82) (v := .slice (some ⟨g, 0, none⟩) ts.length lcap) (by kernel_rfl) (by kernel_rfl) (fun _ _ _ h => h) (fun w'' hS => by kernel_rfl) hK0 ?_
                    refine take_at (i := 1) (d := some 83) (v := .int .i64 (q : Int)) (by kernel_rfl) (by kernel_rfl) (fun _ _ _ h => h) (fun w'' hS => by kernel_rfl) hK0 ?_
                    refine take_at (i := 2) (d := some 84) (v := .pointer (some ⟨g, 0 + q * 4, none⟩)) (by kernel_rfl) (by kernel_rfl) (fun _ _ _ h => h) (fun w'' hS => exec_index4 (i := q) (n := ts.length) (cap := lcap) 34 58 (.tmp 82) (.tmp 83) (by kernel_rfl) (by kernel_rfl) (by kernel_rfl) hlt (by kernel_rfl) (by kernel_rfl)) hK0 ?_
                    refine take_at (i := 3) (d := some 85) (v := .agg #[.slice (some ⟨vb, vof, none⟩) vars.length vcap, .slice tro rows.length trc, .bool nt, .int .i64 way]) (by kernel_rfl) (by kernel_rfl) (fun _ _ _ h => h) (fun w'' hS => exec_load4 58 (.tmp 84) (by kernel_rfl) (by kernel_rfl) (by kernel_rfl) (by kernel_rfl) ((hS.cell hgl1 (fun x => x)).trans z0) ((hS.cell hgl1 (fun x => x)).trans z1) ((hS.cell hgl1 (fun x => x)).trans z2) ((hS.cell hgl1 (fun x => x)).trans z3)) hK0 ?_
                    refine take_at (i := 4) (d := some 86) (v := .slice (some ⟨lb, lof, none⟩) zs.length rcap) (by kernel_rfl) (by kernel_rfl) (fun _ _ _ h => h) (fun w'' hS => by kernel_rfl) hK0 ?_
                    refine take_at (i := 5) (d := some 87) (v := .slice so zs.length sc) (by kernel_rfl) (by kernel_rfl) (fun _ _ _ h => h) (fun w'' hS => by kernel_rfl) hK0 ?_
                    refine take_at (i := 6) (d := some 88) (v := .int .i64 (zs.length : Int)) (by kernel_rfl) (by kernel_rfl) (fun _ _ _ h => h) (fun w'' hS => by kernel_rfl) hK0 ?_
                    refine take_at (i := 8) (d := some 90) (v := .int .i64 (u : Int)) (by kernel_rfl) (by kernel_rfl) (fun _ _ _ h => h) (fun w'' hS => by kernel_rfl) hK0 ?_
                    refine take_at (i := 9) (d := some 91) (v := .slice (some ⟨lb, lof, none⟩) zs.length rcap) (by kernel_rfl) (by kernel_rfl) (fun _ _ _ h => h) (fun w'' hS => by kernel_rfl) hK0 ?_
                    refine take_at (i := 10) (d := some 92) (v := .int .i64 (u : Int)) (by kernel_rfl) (by kernel_rfl) (fun _ _ _ h => h) (fun w'' hS => by kernel_rfl) hK0 ?_
                    refine take_at (i := 11) (d := some 93) (v := .pointer (some ⟨lb, lof + u, none⟩)) (by kernel_rfl) (by kernel_rfl) (fun _ _ _ h => h) (fun w'' hS => exec_index (i := u) (n := zs.length) (cap := rcap) 25 22 (.tmp 91) (.tmp 92) (by kernel_rfl) (by kernel_rfl) (by kernel_rfl) huz (by kernel_rfl) (by kernel_rfl)) hK0 ?_
                    refine take_at (i := 12) (d := some 94) (v := .slice (some ⟨rb, rof, none⟩) ds.length rc) (by kernel_rfl) (by kernel_rfl) (fun _ _ _ h => h) (fun w'' hS => exec_load 22 (.tmp 93) (by kernel_rfl) (by kernel_rfl) (by kernel_rfl) ((hS.cell hlbl (fun x => x)).trans hlc)) hK0 ?_
                    refine take_at (i := 13) (d := some 95) (v := .int .i64 (x : Int)) (by kernel_rfl) (by kernel_rfl) (fun _ _ _ h => h) (fun w'' hS => by kernel_rfl) hK0 ?_
                    refine take_at (i := 14) (d := some 96) (v := .pointer (some ⟨rb, rof + x, none⟩)) (by kernel_rfl) (by kernel_rfl) (fun _ _ _ h => h) (fun w'' hS => exec_index (i := x) (n := ds.length) (cap := rc) 22 3 (.tmp 94) (.tmp 95) (by kernel_rfl) (by kernel_rfl) (by kernel_rfl) hxl (by kernel_rfl) (by kernel_rfl)) hK0 ?_
                    refine take_at (i := 15) (d := some 97) (v := .int .i64 (y : Int)) (by kernel_rfl) (by kernel_rfl) (fun _ _ _ h => h) (fun w'' hS => exec_load 3 (.tmp 96) (by kernel_rfl) (by kernel_rfl) (by kernel_rfl) ((hS.cell hrbl (fun x => x)).trans hrc)) hK0 ?_
                    refine value_at (i := 7) (d := some 89) (v := .slice (some ⟨w1.heap.size, 0, none⟩) zs.length zs.length) (w' := w1.drew.alloc (.cells (intsV (List.replicate zs.length 0)) 3)) (by kernel_rfl) (by kernel_rfl) (exec_make (.tmp 88) (.tmp 88) (by kernel_rfl) (by kernel_rfl) (by kernel_rfl) (by omega)) (hK0.alloc _) ?_
                    refine enter_at (i := 16) (d := some 98) (f := 42) (args := #[.agg #[.slice (some ⟨vb, vof, none⟩) vars.length vcap, .slice tro rows.length trc, .bool nt, .int .i64 way], .slice (some ⟨lb, lof, none⟩) zs.length rcap, .slice (some ⟨w1.heap.size, 0, none⟩) zs.length zs.length, .int .i64 0, .int .i64 (u : Int), .int .i64 (y : Int)]) (w' := w1.drew.alloc (.cells (intsV (List.replicate zs.length 0)) 3)) (by kernel_rfl) (by kernel_rfl) (by kernel_rfl) ?_
                    refine HStand.out.mono ?_
                    rintro e w2 ⟨rfl, hw2⟩
                    refine ⟨_, rfl, hw2, ?_⟩
                    refine value_at (i := 17) (d := some 15) (v := .bool true) (w' := w2) (by kernel_rfl) (by kernel_rfl) (by kernel_rfl) hw2 ?_
                    refine wpAnyH_done (by kernel_rfl) ?_ _
                    simp only [Act.put, List.setIfInBounds_toArray, List.set_cons_zero, List.set_cons_succ]
                    go_wp2_with fail
                    exact ⟨⟨x + 1, by omega, by simp, HN1.out.trans hw2 (fun _ x => x.elim)⟩, by simp [intOf]; omega⟩
                  · obtain ⟨dn, hdn⟩ : ∃ dn, (vals (s.d.getD u 0)).length = dn := ⟨_, rfl⟩
                    rw [hdn] at hlc hxl hx hv8 ⊢
                    have hxe : x = dn := by omega
                    subst hxe
                    have hdx : ¬ ((x : Int) < (x : Int)) := by omega
                    clear hdn hlc0 hxl hx
                    go_wp2_with fail
                    exact ⟨⟨j + 1, by omega, by simp, HN1⟩, by simp [intOf]; omega⟩
              · obtain rfl : j = vars.length := by omega
                have hdj : ¬ ((vars.length : Int) < (vars.length : Int)) := by omega
                go_wp2_with fail
                exact ⟨⟨q + 1, by omega, by simp, HN1⟩, by simp [intOf]; omega⟩
        · obtain rfl : q = ts.length := by omega
          have hdq : ¬ ((ts.length : Int) < (ts.length : Int)) := by omega
          go_wp2_with fail
          go_ret
          exact ⟨rfl, HFk.out.trans HN.out (fun _ x => x.elim)⟩
end Go.Proofs.Ytkjfpdfkcfgfkaa

/- Back: what is fixed and removed behind a Push, and taken back. -/
namespace Go.Proofs.Ytkjfpdfkcfgfkaa
open Go.RowKit

/-- The domains at level 0. -/
def baseD (s : WS) : List Nat := match s.sk.getLast? with
  | some p => p.2.1
  | none => s.d
theorem baseD_nil {s : WS} (h : s.sk = []) : baseD s = s.d := by unfold baseD; rw [h]; rfl
theorem baseD_same {s s' : WS} (h : s'.sk = s.sk) (hn : s.sk ≠ []) : baseD s' = baseD s := by
  unfold baseD
  rw [h]
  cases he : s.sk.getLast? with
  | none => rw [List.getLast?_eq_none_iff] at he; exact absurd he hn
  | some p => rfl
theorem baseD_push {s s' : WS} {n : Nat} {ts : List TS} (h : s'.sk = (n, s.d, ts) :: s.sk) : baseD s' = baseD s := by
  unfold baseD
  rw [h]
  cases hs : s.sk with
  | nil => rfl
  | cons p r =>
    rw [List.getLast?_cons_cons]
    cases he : (p :: r).getLast? with
    | none => rw [List.getLast?_eq_none_iff] at he; cases he
    | some x => rfl
theorem baseD_pop {s s' : WS} {n : Nat} {d : List Nat} {ts : List TS} (h : s.sk = (n, d, ts) :: s'.sk) (hd' : s'.d = d) : baseD s' = baseD s := by
  unfold baseD
  rw [h]
  cases hs : s'.sk with
  | nil => exact hd'
  | cons p r =>
    rw [List.getLast?_cons_cons]
    cases he : (p :: r).getLast? with
    | none => rw [List.getLast?_eq_none_iff] at he; cases he
    | some x => rfl
/-- Two fretworks: the first is at a level, the second stays. -/
structure BInv (W0 w : World) (X Y : Nat) (zs : List Int) (s t : WS) (d0 : List Nat) (lev : Nat) : Prop where
  a : WAt w X zs s
  b : WAt w Y zs t
  apart : ∀ q, t.own Y q → ¬ s.own X q
  since : Since W0 X s
  nw : Nw W0 w
  ba : s.l.busy = false
  bb : t.l.busy = false
  lev : s.sk.length = lev
  base : baseD s = d0
theorem BInv.next {W0 w w' : World} {X Y : Nat} {zs : List Int} {s s' t : WS} {d0 : List Nat} {lev lev' : Nat} (h : BInv W0 w X Y zs s t d0 lev) (ha : WAt w' X zs s') (hs : WStep w w' X s s') (hb : s'.l.busy = false) (hl : s'.sk.length = lev') (hd' : baseD s' = baseD s) : BInv W0 w' X Y zs s' t d0 lev' := by
  obtain ⟨h1, h2⟩ := h.b.other h.a.mem hs h.apart
  obtain ⟨h3, h4⟩ := hs.since h.since h.nw
  exact ⟨ha, h1, h2, h3, h4, hb, h.bb, hl, hd'.trans h.base⟩
theorem BInv.step {W0 w w' : World} {X Y : Nat} {zs : List Int} {s t : WS} {d0 : List Nat} {lev : Nat} (h : BInv W0 w X Y zs s t d0 lev) (f : Nw w w') : BInv W0 w' X Y zs s t d0 lev :=
  ⟨h.a.nw f, h.b.nw f, h.apart, h.since, h.nw.trans f (fun _ x => x.elim), h.ba, h.bb, h.lev, h.base⟩
theorem back_fix {W0 w : World} {X Y : Nat} {zs : List Int} {s t : WS} {d0 : List Nat} {lev v value : Nat} (h : BInv W0 w X Y zs s t d0 lev) (h0 : 0 < lev) :
    Calls Try.prog 18 #[.pointer (some ⟨X, 0, none⟩), .int .i64 v, .int .i64 value] w fun e w' => ∃ (r : Int), e = .returned (.int .i64 r) ∧ ∃ s', BInv W0 w' X Y zs s' t d0 lev := by
  have hn : s.sk ≠ [] := fun e => by
    have := h.lev
    rw [e] at this
    simp at this
    omega
  by_cases hf : faultOf zs s.d v value = 0
  · refine (fix_yes X zs s v value w h.a h.ba hf).mono ?_
    rintro e w' ⟨rfl, d', bv, ts, us, h1, h2, h3, h4⟩
    exact ⟨_, rfl, _, h.next h3 h4 h.ba h.lev (baseD_same rfl hn)⟩
  · refine (fix_no X zs s v value w h.a h.ba hf).mono ?_
    rintro e w' ⟨rfl, rfl⟩
    exact ⟨_, rfl, s, h⟩
theorem back_remove {W0 w : World} {X Y : Nat} {zs : List Int} {s t : WS} {d0 : List Nat} {lev v value : Nat} (h : BInv W0 w X Y zs s t d0 lev) (h0 : 0 < lev) :
    Calls Try.prog 19 #[.pointer (some ⟨X, 0, none⟩), .int .i64 v, .int .i64 value] w fun e w' => ∃ (r : Int), e = .returned (.int .i64 r) ∧ ∃ s', BInv W0 w' X Y zs s' t d0 lev := by
  have hn : s.sk ≠ [] := fun e => by
    have := h.lev
    rw [e] at this
    simp at this
    omega
  by_cases hf : faultOf zs s.d v value = 0
  · refine (remove_yes X zs s v value w h.a h.ba hf).mono ?_
    rintro e w' ⟨rfl, d', bv, ts, us, h1, h2, h3, h4⟩
    exact ⟨_, rfl, _, h.next h3 h4 h.ba h.lev (baseD_same rfl hn)⟩
  · refine (remove_no X zs s v value w h.a h.ba hf).mono ?_
    rintro e w' ⟨rfl, rfl⟩
    exact ⟨_, rfl, s, h⟩
theorem back_push {W0 w : World} {X Y : Nat} {zs : List Int} {s t : WS} {d0 : List Nat} {lev : Nat} (h : BInv W0 w X Y zs s t d0 lev) :
    Calls Try.prog 21 #[.pointer (some ⟨X, 0, none⟩)] w fun e w' => e = .returned (.int .i64 (if lev = 20 then 2 else 0)) ∧ ∃ s', BInv W0 w' X Y zs s' t d0 (min (lev + 1) 20) := by
  have hl := h.a.lev
  rw [h.lev] at hl
  by_cases h20 : lev = 20
  · rw [if_pos h20]
    refine (wpush_no X zs s w h.a h.ba (by rw [h.lev]; exact h20)).mono ?_
    rintro e w' ⟨rfl, rfl⟩
    refine ⟨rfl, s, ?_⟩
    rw [show min (lev + 1) 20 = lev by omega]
    exact h
  · rw [if_neg h20]
    refine (push_ws h.a h.ba (by rw [h.lev]; omega)).mono ?_
    rintro e w' ⟨rfl, s', h1, h2, h3, h4, ⟨n, ts, h5⟩, h6⟩
    refine ⟨rfl, s', ?_⟩
    rw [show min (lev + 1) 20 = lev + 1 by omega]
    exact h.next h1 h2 h6 (by rw [h5, List.length_cons, h.lev]) (baseD_push h5)
theorem back_pop {W0 w : World} {X Y : Nat} {zs : List Int} {s t : WS} {d0 : List Nat} {lev : Nat} (h : BInv W0 w X Y zs s t d0 (lev + 1)) :
    Calls Try.prog 22 #[.pointer (some ⟨X, 0, none⟩)] w fun e w' => e = .returned (.int .i64 0) ∧ ∃ s', BInv W0 w' X Y zs s' t d0 lev := by
  cases hsk : s.sk with
  | nil =>
    have := h.lev
    rw [hsk] at this
    simp at this
  | cons p r =>
    obtain ⟨n, d, ts⟩ := p
    refine (pop_ws h.a h.ba hsk).mono ?_
    rintro e w' ⟨rfl, s', h1, h2, h3, h4, h5, h6⟩
    have hl := h.lev
    rw [hsk, List.length_cons] at hl
    refine ⟨rfl, s', h.next h1 h2 h6 (by rw [h5]; omega) (baseD_pop (n := n) (ts := ts) (by rw [hsk, h5]) h3)⟩
theorem back_level {W0 w : World} {X Y : Nat} {zs : List Int} {s t : WS} {d0 : List Nat} (h : BInv W0 w X Y zs s t d0 0) :
    Calls Try.prog 22 #[.pointer (some ⟨X, 0, none⟩)] w fun e w' => e = .returned (.int .i64 4) ∧ w' = w := by
  refine (wpop_no X zs s w h.a h.ba (List.eq_nil_of_length_eq_zero h.lev)).mono ?_
  rintro e w' he
  exact he
theorem In64.div {c : Int} (h : In64 c) (k : Nat) (hk : 2 ≤ k) : In64 (c.tdiv k) := by
  unfold In64 at *
  have h1 : (c.tdiv k).natAbs = c.natAbs / k := by rw [Int.natAbs_tdiv]; rfl
  have h2 : c.natAbs / k ≤ c.natAbs / 2 := Nat.div_le_div_left hk (by omega)
  omega
theorem In64.wrap {c : Int} (h : In64 c) : wrap64 c = c := by
  unfold In64 at h
  unfold wrap64
  omega
theorem In64.div8 {c : Int} (h : In64 c) : In64 (c.tdiv 8) := h.div 8 (by omega)
theorem In64.div64 {c : Int} (h : In64 c) : In64 (c.tdiv 64) := h.div 64 (by omega)
end Go.Proofs.Ytkjfpdfkcfgfkaa

/- Supported: the walk. -/
namespace Go.Proofs.Ytkjfpdfkcfgfkaa
open Go.RowKit

set_option maxHeartbeats 3200000 in
set_option maxRecDepth 1000000 in
theorem supported_walk (ao ro so : Option Addr) (ac rc sc : Nat) (raw steps : List Int) (rs : List RawT) (w : World) (hl1 : raw.length * 8 ≤ 140737488355328) (hl2 : steps.length * 8 ≤ 140737488355328)
    (ha : IntsAt w ao raw) (hr : RawsAt w ro rs) (hs : IntsAt w so steps) (hi1 : ∀ c ∈ raw, In64 c) (hi2 : ∀ c ∈ steps, In64 c) :
    Calls Try.prog 4 #[.slice ao raw.length ac, .slice ro rs.length rc, .slice so steps.length sc] w fun e w' => e = .returned (.bool true) ∧ Nw w w' := by
  obtain ⟨hz1, hz6⟩ := fitL_len raw 6 (by omega)
  have hzok := fitL_sizes raw 6 (by omega) (by omega)
  obtain ⟨zs, hzs⟩ : ∃ zs, fitL raw 6 = zs := ⟨_, rfl⟩
  rw [hzs] at hz1 hz6 hzok
  have hzget := fun i hi => okSizes_get hzok i hi
  have htok := tablesTo_ok zs rs 6 hz1 hzget
  obtain ⟨ts, hts⟩ : ∃ ts, tablesTo zs rs 6 = ts := ⟨_, rfl⟩
  have htl : ts.length ≤ 12 := by rw [← hts]; simp [tablesTo]; omega
  rw [hts] at htok
  have Hha := hd ha
  have Hhr := hd hr
  have Hhs := hd hs
  clear ha hr hs
  go_enter Try.func4, Try.ntmps4
  go_wp2_with fail
  refine (sure_ok _).mono ?_
  rintro e w1 ⟨rfl, hf1⟩
  have Hf1 := hd hf1
  clear hf1
  go_wp2_with fail
  refine (fit_any ao ac raw 6 w1 (by omega) hl1 (Hha.out.nw Hf1.out) hi1).mono ?_
  rintro e w2 ⟨zv, rfl, hO⟩
  rw [hzs] at hO
  obtain ⟨zo, zc, hzv, _⟩ := hO.row.form
  rw [List.length_map] at hzv
  subst hzv
  have HO := hd hO
  have Hf2 := hd (Hf1.out.trans hO.nw (fun _ x => x.elim))
  clear hO Hf1
  go_wp2_with fail
  refine (tables_any ro zo rc zc rs zs 6 w2 (by omega) (by omega) hzget (Hhr.out.nw Hf2.out) HO.out.row.ints').mono ?_
  rw [hts]
  rintro e w3 ⟨tv, rfl, tvs, hT⟩
  have HT := hd hT
  have HO3 := hd (HO.out.row.nw hT.nw).ints'
  have Hf3 := hd (Hf2.out.trans hT.nw (fun _ x => x.elim))
  clear hT HO Hf2 hts hzs
  go_wp2_with fail
  refine (posted_any zo zc tv zs tvs ts w2 w3 hzok htl htok HO3.out HT.out).mono ?_
  rintro e w4 ⟨X, rfl, s, hP⟩
  have HP := hd hP
  clear hP
  go_wp2_with fail
  go_loopw [11, 12, 13, 14] (fun i _ _ _ wr => ∃ (k : Nat) (s : WS) (st : List Nat), k ≤ steps.length ∧ k ≤ 4 ∧ i = .int .i64 (k : Int) ∧ Hid (Posted w3 wr X zs s (ts.map Tw.tb) st)) (fun i _ _ _ _ => 4 - (intOf i).toNat)
  case atStart => exact ⟨0, s, _, by omega, by omega, rfl, HP⟩
  case round =>
    clear HP
    obtain ⟨k, s, st, hk, hk4, rfl, HP⟩ := hrel
    have HN := hd (Hf3.out.trans HP.out.nw (fun _ x => x.elim))
    have hfin : ∀ wr, Posted w3 wr X zs s (ts.map Tw.tb) st → Calls Try.prog 20 #[.pointer (some ⟨X, 0, none⟩), .slice zo zs.length zc, tv] wr fun e w' => e = .returned (.bool true) ∧ Nw wr w' := fun wr hp => by
      refine supported_any X zs s zo zc tv tvs ts w2 wr hp.at_ hp.busy (HO3.out.nw hp.nw) (HT.out.step hp.nw) htl htok (fun hF i hi => ?_)
      have hb := hp.at_.good.clo
      rw [hp.all hF] at hb
      refine hb _ (List.mem_map.2 ⟨ts.getD i tw0, ?_, rfl⟩)
      simp only [List.getD, List.getElem?_eq_getElem hi, Option.getD_some]
      exact List.getElem_mem hi
    have Hfin := hd hfin
    clear hfin
    by_cases hlt : k < steps.length ∧ k < 4
    · obtain ⟨hlt1, hlt2⟩ := hlt
      have hd1 : (k : Int) < (steps.length : Int) := by omega
      have hd2 : (k : Int) < 4 := by omega
      obtain ⟨sb, so', hse, hsl, hsc⟩ := (Hhs.out.nw HN.out) k hlt1
      obtain ⟨c, hcv⟩ : ∃ c, steps.getD k 0 = c := ⟨_, rfl⟩
      have Hcv := hd hcv
      rw [hcv] at hsc
      have hcin : In64 c := hi2 c (by rw [← hcv]; simp [List.getD, hlt1])
      have hc8 := hcin.div8
      have hc64 := hcin.div64
      have hw8 := hc8.wrap
      have hw64 := hc64.wrap
      have hq1 := pickOf_range c zs.length (by omega)
      obtain ⟨v, hv⟩ : ∃ v : Nat, pickOf c zs.length = (v : Int) := ⟨(pickOf c zs.length).toNat, by omega⟩
      rw [hv] at hq1
      have hvz : v < zs.length := by omega
      have hzr := hzget v hvz
      obtain ⟨zb, zo', hze, hzl, hzc⟩ := (HO3.out.nw HP.out.nw) v hvz
      obtain ⟨z, hzv⟩ : ∃ z, zs.getD v 0 = z := ⟨_, rfl⟩
      rw [hzv] at hzc hzr
      have hq3 := pickOf_range (c.tdiv 8) z (by omega)
      obtain ⟨x, hx⟩ : ∃ x : Nat, pickOf (c.tdiv 8) z = (x : Int) := ⟨(pickOf (c.tdiv 8) z).toNat, by omega⟩
      rw [hx] at hq3
      have hq4 := pickOf_range (c.tdiv 64) 3 (by omega)
      obtain ⟨p, hp⟩ : ∃ p : Nat, pickOf (c.tdiv 64) 3 = (p : Int) := ⟨(pickOf (c.tdiv 64) 3).toNat, by omega⟩
      rw [hp] at hq4
      have hxz : (x : Int) < zs.getD v 0 := by rw [hzv]; omega
      have Hxz := hd hxz
      have Hv := hd hv
      have Hp := hd hp
      have hvl : (v : Int) < (zs.length : Int) := by omega
      have Hpick : Hid (∀ W, Calls Try.prog 16 #[.int .i64 (c.tdiv 8), .int .i64 z] W fun e w' => e = .returned (.int .i64 (x : Int)) ∧ w' = W) := fun W => by
        have h1 := pick_any (c.tdiv 8) z hc8 (by omega) (by omega) W
        rw [hx] at h1
        exact h1
      subst hse
      subst hze
      clear hp hv hx hcv hzv hxz
      go_wp2_with fail
      refine (pick_any c zs.length hcin (by omega) (by omega) _).mono ?_
      rw [Hv.out]
      rintro e w' ⟨rfl, rfl⟩
      go_wp2_with fail
      go_quiet (exact Calls.quiet_of_same (Hpick.out _))
      have HP1 := hd (HP.out.step ((Fr.refl _ _).drewN nq))
      go_wp2_with fail
      obtain ⟨db, hdb⟩ : ∃ db, (s.d.getD 0 0 == 0) = db := ⟨_, rfl⟩
      refine (look_ws HP1.out.at_ HP1.out.busy false db _ hdb rfl).mono ?_
      rintro e w6 ⟨fx, rfl, hf6⟩
      have hfld := fun W => look_dead W (zs.length : Int) (s.ts.length : Int) (s.sk.length : Int) (leftTo s.d 8 : Int) (fx : Int) db
      have HP6 := hd (HP1.out.step hf6)
      clear hf6 HP HP1
      cases db with
      | true =>
        have h0 : s.d.getD 0 0 = 0 := by simpa using hdb
        have Hif : Hid ((if s.d.getD 0 0 = 0 then (3 : Int) else 0) = 3) := hd (if_pos h0)
        have H0 := hd h0
        clear hdb h0
        have hfo : faultOf zs s.d (v : Int) (x : Int) = 3 := by rw [fault_ok hvz Hxz.out]; exact Hif.out
        have Hfo := hd hfo
        clear hfo
        go_wp2_with fail
        refine (fix_no X zs s v x _ HP6.out.at_ HP6.out.busy (by rw [Hfo.out]; decide)).mono ?_
        rw [Hfo.out]
        rintro e w7 ⟨rfl, rfl⟩
        go_wp2_with fail
        refine (remove_no X zs s v x _ HP6.out.at_ HP6.out.busy (by rw [Hfo.out]; decide)).mono ?_
        rw [Hfo.out]
        rintro e w8 ⟨rfl, rfl⟩
        go_wp2_with fail
        go_ret
        exact ⟨rfl, Hf3.out.trans HP6.out.nw (fun _ x => x.elim)⟩
      | false =>
        have h0 : ¬ s.d.getD 0 0 = 0 := by simpa using hdb
        have Hif : Hid ((if s.d.getD 0 0 = 0 then (3 : Int) else 0) = 0) := hd (if_neg h0)
        clear hdb h0
        have HN6 := hd (Hf3.out.trans HP6.out.nw (fun _ x => x.elim))
        obtain ⟨sb', so2, hse2, hsl6, hsc6⟩ := (Hhs.out.nw HN6.out) k hlt1
        simp only [Option.some.injEq, Addr.mk.injEq, and_true] at hse2
        obtain ⟨rfl, rfl⟩ := hse2
        obtain ⟨c', hcv⟩ : ∃ c', steps.getD k 0 = c' := ⟨_, rfl⟩
        rw [hcv] at hsc6
        obtain rfl : c' = c := by
          rw [← hcv]
          exact Hcv.out
        clear hcv
        go_wp2_with fail
        refine (pick_any (c'.tdiv 64) 3 hc64 (by omega) (by omega) _).mono ?_
        rw [Hp.out]
        rintro e w7 ⟨rfl, rfl⟩
        by_cases hp0 : p = 0
        · subst hp0
          go_wp2_with fail
          refine (fix_ps HP6.out hvz Hxz.out).mono ?_
          rw [Hif.out]
          rintro e w7 ⟨rfl, s', hs'⟩
          have HP7 := hd hs'
          clear hs' HP6
          go_wp2_with fail
          exact ⟨⟨k + 1, s', _, by omega, by omega, by simp, HP7⟩, by simp [intOf]; omega⟩
        · have hpb : ((p : Int) == 0) = false := by simp; omega
          clear hp0
          go_wp2_with fail
          refine (remove_ps HP6.out hvz Hxz.out).mono ?_
          rw [Hif.out]
          rintro e w7 ⟨rfl, s', hs'⟩
          have HP7 := hd hs'
          clear hs' HP6
          go_wp2_with fail
          exact ⟨⟨k + 1, s', _, by omega, by omega, by simp, HP7⟩, by simp [intOf]; omega⟩
    · have hN2 := Hfin.out wr HP.out
      have HN2 := hd hN2
      clear hN2
      by_cases h1 : k < steps.length
      · have hd1 : (k : Int) < (steps.length : Int) := by omega
        have hd2 : ¬ ((k : Int) < 4) := by omega
        go_wp2_with fail
        refine HN2.out.mono ?_
        rintro e w7 ⟨rfl, hf7⟩
        have Hf7 := hd hf7
        clear hf7
        go_wp2_with fail
        go_ret
        exact ⟨rfl, HN.out.trans Hf7.out (fun _ x => x.elim)⟩
      · have hd1 : ¬ ((k : Int) < (steps.length : Int)) := by omega
        go_wp2_with fail
        refine HN2.out.mono ?_
        rintro e w7 ⟨rfl, hf7⟩
        have Hf7 := hd hf7
        clear hf7
        go_wp2_with fail
        go_ret
        exact ⟨rfl, HN.out.trans Hf7.out (fun _ x => x.elim)⟩
end Go.Proofs.Ytkjfpdfkcfgfkaa
