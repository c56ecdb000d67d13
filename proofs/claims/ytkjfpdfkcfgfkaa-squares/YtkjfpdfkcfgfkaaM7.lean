/- Parts of the proof, number 7: contracts of the functions that the statement calls. -/
import Derived.Test.YtkjfpdfkcfgfkaaM6
import Derived.Test.YtkjfpdfkcfgfkaaRows
import Derived.Test.YtkjfpdfkcfgfkaaM0
import Derived.Deep.Slices
import Derived.BigQuiet
import Derived.Test.YtkjfpdfkcfgfkaaM4
import Derived.Test.YtkjfpdfkcfgfkaaM2
import Derived.Deep.RegionHeld3

/- Parts of the statements without the document's answer: tables by raw numbers; a fretwork with them. -/
namespace Go.Proofs.Ytkjfpdfkcfgfkaa
open Go.RowKit

/-- A table by raw numbers. -/
structure RawT where
  rv : List Int
  es : List Int
  nt : Bool
  way : Int
/-- A table and its way. -/
structure Tw where
  tb : Tb
  way : Int
def tableOf (zs : List Int) (r : RawT) : Tw := ⟨⟨tVars r.rv zs.length, tRows (tVars r.rv zs.length) zs r.es, r.nt⟩, 1 + pickOf r.way 2⟩
/-- Raw tables in memory. -/
structure RawAt (w : World) (b o : Nat) (r : RawT) : Prop where
  parts : ∃ vo vc eo ec, w.cell? ⟨b, o, none⟩ = some (.slice vo r.rv.length vc) ∧ w.cell? ⟨b, o + 1, none⟩ = some (.slice eo r.es.length ec) ∧ w.cell? ⟨b, o + 2, none⟩ = some (.bool r.nt) ∧ w.cell? ⟨b, o + 3, none⟩ = some (.int .i64 r.way) ∧ IntsAt w vo r.rv ∧ IntsAt w eo r.es
  lv : r.rv.length * 8 ≤ 140737488355328
  le : r.es.length * 8 ≤ 140737488355328
  iv : ∀ c ∈ r.rv, In64 c
  ie : ∀ c ∈ r.es, In64 c
  iw : In64 r.way
def raw0 : RawT := ⟨[], [], false, 0⟩
def RawsAt (w : World) (ao : Option Addr) (rs : List RawT) : Prop := ∀ i, i < rs.length → ∃ b o, ao = some ⟨b, o, none⟩ ∧ b < w.heap.size ∧ RawAt w b (o + i * 4) (rs.getD i raw0)
theorem RawsAt.nw {w w' : World} {ao : Option Addr} {rs : List RawT} (h : RawsAt w ao rs) (f : Nw w w') : RawsAt w' ao rs := fun i hi => by
  obtain ⟨b, o, rfl, hb, hr⟩ := h i hi
  obtain ⟨vo, vc, eo, ec, h1, h2, h3, h4, h5, h6⟩ := hr.parts
  exact ⟨b, o, rfl, Nat.lt_of_lt_of_le hb f.size, ⟨vo, vc, eo, ec, (f.cell hb (fun x => x)).trans h1, (f.cell hb (fun x => x)).trans h2, (f.cell hb (fun x => x)).trans h3, (f.cell hb (fun x => x)).trans h4, h5.nw f, h6.nw f⟩, hr.lv, hr.le, hr.iv, hr.ie, hr.iw⟩
/-- The cells of a table's value. -/
def tblC (tv : Value) : List Value := tv.cells.toList
theorem Try.infoATable : (Try.prog.info? 58).map (fun i => (i.zero, i.size, i.bytes)) = some (some (.agg #[.slice none 0 0, .slice none 0 0, .bool false, .int .i64 0]), 4, 64) := by kernel_rfl
/-- Tables in memory: a list of a call's own. -/
structure TblsOwn (W w : World) (v : Value) (tvs : List Value) (ts : List Tw) : Prop where
  row : w.ownsRow 0 58 4 v ts.length (tvs.flatMap tblC)
  nw : Nw W w
  since : ∀ q, v.ownBlock = some q → W.heap.size ≤ q
  len : tvs.length = ts.length
  each : ∀ i, i < ts.length → ∃ (t : Tw), ts[i]? = some t ∧ TblAt w (tvs.getD i undef) t.tb.vars t.tb.rows t.tb.nt t.way
theorem TblsOwn.form {W w : World} {v : Value} {tvs : List Value} {ts : List Tw} (h : TblsOwn W w v tvs ts) : ∃ lo lcap, v = .slice lo ts.length lcap := by
  rcases h.row.2 with ⟨rfl, h0⟩ | ⟨g, cap, cur, rfl, _⟩
  · exact ⟨none, 0, by rw [h0]⟩
  · exact ⟨_, _, rfl⟩
def tablesTo (zs : List Int) (rs : List RawT) (k : Nat) : List Tw := (rs.take k).map (tableOf zs)
theorem tablesTo_succ (zs : List Int) (rs : List RawT) (k : Nat) (hk : k < rs.length) : tablesTo zs rs (k + 1) = tablesTo zs rs k ++ [tableOf zs (rs.getD k raw0)] := by
  unfold tablesTo
  rw [List.take_succ_eq_append_getElem hk, List.map_append]
  simp [List.getD, hk]
theorem tablesTo_len (zs : List Int) (rs : List RawT) (k : Nat) (hk : k ≤ rs.length) : (tablesTo zs rs k).length = k := by simp [tablesTo]; omega
/-- What an append of one struct leaves. -/
theorem appN {w w1 : World} {e : TypeId} {size : Nat} {v v' : Value} {k : Nat} {xs news : List Value} (h1 : w1.ownsRow 0 e size v' (k + 1) (xs ++ news))
    (hg : (w.alloc (.cells news.toArray e)).grownBy w1 v.ownBlock) (hat : v'.ownBlock = v.ownBlock ∨ v'.ownBlock = some (w.alloc (.cells news.toArray e)).heap.size) :
    ∃ g cap, v' = .slice (some ⟨g, 0, none⟩) (k + 1) cap ∧ Fr (fun j => v.ownBlock = some j) w w1 ∧ (v.ownBlock = some g ∨ w.heap.size ≤ g) ∧ g < w1.heap.size := by
  have hfr : Fr (fun j => v.ownBlock = some j) w w1 := ((Fr.refl (fun j => v.ownBlock = some j) w).alloc (.cells news.toArray e)).grown hg (fun k hk => .inl hk)
  rcases h1.2 with ⟨_, hn⟩ | ⟨g, cap, cur, rfl, _, hgg, _⟩
  · omega
  · refine ⟨g, cap, rfl, hfr, ?_, lt_of_block hgg⟩
    rcases hat with hat | hat
    · exact .inl hat.symm
    · right
      have : g = w.heap.size + 1 := by simpa [Value.ownBlock] using hat
      omega
theorem cells_new (w : World) (xs : List Value) (t : TypeId) : ∀ j u, xs[j]? = some u → (w.alloc (.cells xs.toArray t)).cell? ((⟨w.heap.size, 0, none⟩ : Addr).add j) = some u := by
  intro j u hj
  rw [show (⟨w.heap.size, 0, none⟩ : Addr).add j = ⟨w.heap.size, j, none⟩ from by by_cases h : j = 0 <;> simp [Addr.add, h], (Blk.new w xs.toArray t).cell]
  simpa using hj

set_option maxHeartbeats 1600000 in
set_option maxRecDepth 1000000 in
theorem tables_any (ro so : Option Addr) (rc sc : Nat) (rs : List RawT) (zs : List Int) (most : Nat) (w : World) (hm : most ≤ 12) (hz : 1 ≤ zs.length ∧ zs.length ≤ 8) (hzs : ∀ i, i < zs.length → 1 ≤ zs.getD i 0 ∧ zs.getD i 0 ≤ 6)
    (hr : RawsAt w ro rs) (hs : IntsAt w so zs) :
    Calls Try.prog 14 #[.slice ro rs.length rc, .slice so zs.length sc, .int .i64 (most : Int)] w fun e w' => ∃ v, e = .returned v ∧ ∃ tvs, TblsOwn w w' v tvs (tablesTo zs rs most) := by
  obtain ⟨i0, hi0, hz0, hz1, hz2⟩ := info_parts Try.infoATable
  go_enter Try.func14, Try.ntmps14
  go_wp2_with fail
  go_loopw [7, 8] (fun l i wr => ∃ (k : Nat) (tvs : List Value), k ≤ rs.length ∧ k ≤ most ∧ i = .int .i64 k ∧ Hid (TblsOwn w wr l tvs (tablesTo zs rs k))) (fun _ i _ => most - (intOf i).toNat)
  case atStart => exact ⟨0, [], by omega, by omega, rfl, ⟨World.ownsRow_nil _ _ _ _, Fr.refl _ _, fun q hq => (by cases hq), rfl, fun i hi => absurd hi (Nat.not_lt_zero _)⟩⟩
  case round =>
    obtain ⟨k, tvs, hk1, hk2, rfl, HT⟩ := hrel
    have hln := tablesTo_len zs rs k hk1
    obtain ⟨lo, lcap, hform⟩ := HT.out.form
    rw [hln] at hform
    subst hform
    by_cases hlt : k < rs.length ∧ k < most
    · obtain ⟨hlt1, hlt2⟩ := hlt
      obtain ⟨b, o, rfl, hbl, hR⟩ := (hr.nw HT.out.nw) k hlt1
      have Hsucc := hd (tablesTo_succ zs rs k hlt1)
      obtain ⟨r, hrv⟩ : ∃ r, rs.getD k raw0 = r := ⟨_, rfl⟩
      rw [hrv] at hR Hsucc
      obtain ⟨vo, vc, eo, ec, c0, c1, c2, c3, hI1, hI2⟩ := hR.parts
      have HI1 := hd hI1
      have HI2 := hd hI2
      have HR := hd hR
      have HS := hd (hs.nw HT.out.nw)
      have hd1 : (k : Int) < (rs.length : Int) := by omega
      have hd2 : (k : Int) < (most : Int) := by omega
      have Hln := hd hln
      clear hrv hI1 hI2 hR hln
      go_wp2_with (first
        | (go_at_call 35; refine (table_any vo eo so vc ec sc r.rv r.es zs r.nt r.way _ hz hzs HR.out.lv HR.out.le HI1.out HI2.out HS.out HR.out.iv HR.out.ie HR.out.iw).mono ?_; rintro e w1 ⟨tv, rfl, hf1, hT1⟩; obtain ⟨tvo, tvc, tro, trc, rl, rfl, htI, htR⟩ := hT1.form; have HT1 := hd hT1; have Hf1 := hd hf1; have Hrow1 := hd (ownsRow.fr HT.out.row hf1 (fun _ _ x => x)); rw [Hln.out] at Hrow1; clear hT1 hf1 htI htR)
        | (at_builtin; refine wpList_append_own_at _ rfl _ _ 34 rfl 0 58 i0 (.agg #[.slice none 0 0, .slice none 0 0, .bool false, .int .i64 0]) 4 64 Try.underlying34 hi0 hz0 hz1 hz2 rfl (by decide) _ k _ rfl (ownsRow.fr Hrow1.out ((Fr.refl (fun _ => False) _).alloc _) (fun _ _ x => x)) ⟨_, 0, none⟩ 1 1 [.slice tvo _ tvc, .slice tro _ trc, .bool r.nt, .int .i64 _] rfl rfl (cells_new _ _ _) (by simp [Value.oneCell']) (by unfold maxLen; omega) (by omega) (Nat.zero_le _) ?_; intro v' w2 hown' hgrow _ hat; obtain ⟨g', cap', rfl, hf3, ha3, hlt3⟩ := appN hown' hgrow hat))
      have hty : ∀ q cur e, (Value.slice lo k lcap).ownBlock = some q → Blk w1 q cur e → e ≠ 3 ∧ e ≠ 22 := fun q cur e hq hb => by
        obtain ⟨cur', hb'⟩ := ownsRow.blk Hrow1.out hq
        rw [(hb.inj hb').2]
        decide
      have hs1 := Hf1.out.size
      refine ⟨⟨k + 1, tvs ++ [.agg #[.slice tvo (tVars r.rv zs.length).length tvc, .slice tro (tRows (tVars r.rv zs.length) zs r.es).length trc, .bool r.nt, .int .i64 (1 + pickOf r.way 2)]], by omega, by omega, by simp, ⟨?_, ?_, ?_, ?_, ?_⟩⟩, by simp [intOf]; omega⟩
      · rw [Hsucc.out, List.length_append, Hln.out, List.flatMap_append]
        exact hown'
      · exact (HT.out.nw.trans Hf1.out (fun i h => h.elim)).trans hf3 (fun i hi => .inr (HT.out.since i hi))
      · intro q hq
        have hw := HT.out.nw.size
        cases hq
        rcases ha3 with h | h
        · exact HT.out.since _ h
        · show w.heap.size ≤ g'
          omega
      · rw [Hsucc.out, List.length_append, List.length_append, HT.out.len]
        rfl
      · intro i hi
        rw [Hsucc.out] at hi ⊢
        rw [List.length_append, Hln.out] at hi
        have hi2 : i < k + 1 := hi
        have htl : tvs.length = k := HT.out.len.trans Hln.out
        by_cases hik : i < k
        · obtain ⟨t, ht, hta⟩ := HT.out.each i (by rw [Hln.out]; exact hik)
          refine ⟨t, by rw [List.getElem?_append_left (by rw [Hln.out]; exact hik)]; exact ht, ?_⟩
          have e1 : ∀ x, (tvs ++ [x]).getD i undef = tvs.getD i undef := fun x => by simp only [List.getD]; rw [List.getElem?_append_left (by omega)]
          rw [e1]
          exact (hta.nw Hf1.out).fr hf3 hty
        · obtain rfl : i = k := by omega
          refine ⟨_, by rw [List.getElem?_append_right (by rw [Hln.out]; exact Nat.le_refl _), Hln.out]; simp; rfl, ?_⟩
          have e1 : ∀ x, (tvs ++ [x]).getD i undef = x := fun x => by simp only [List.getD]; rw [List.getElem?_append_right (by omega), htl]; simp
          rw [e1]
          exact HT1.out.fr hf3 hty
    · have hend : tablesTo zs rs k = tablesTo zs rs most := by
        unfold tablesTo
        by_cases h : k = most
        · rw [h]
        · rw [List.take_of_length_le (by omega), List.take_of_length_le (by omega)]
      rw [hend] at HT
      clear hend hln
      by_cases h1 : k < rs.length
      · have hd1 : (k : Int) < (rs.length : Int) := by omega
        have hd2 : ¬ ((k : Int) < (most : Int)) := by omega
        go_wp2_with fail
        go_ret
        exact ⟨_, rfl, tvs, HT.out⟩
      · have hd1 : ¬ ((k : Int) < (rs.length : Int)) := by omega
        go_wp2_with fail
        go_ret
        exact ⟨_, rfl, tvs, HT.out⟩
end Go.Proofs.Ytkjfpdfkcfgfkaa

/- What came in: slices of numbers, of tables by raw numbers. -/
namespace Go.Proofs.Ytkjfpdfkcfgfkaa
open Go.ChangeShapes Go.WideShapes Go.ChangeAt Go.RowKit

theorem In64.of_wf {n : Int} (h : (Lit.int .i64 n).wf = true) : In64 n := by
  simp only [Lit.wf, Bool.and_eq_true, decide_eq_true_eq] at h
  have h1 : IntKind.i64.min = -9223372036854775808 := by decide
  have h2 : IntKind.i64.max = 9223372036854775807 := by decide
  unfold In64
  omega
/-- A slice of numbers, wherever it was read. -/
theorem came_row {H : Type} {enc : TypeId × Value → H} {W : World} {fuel : Nat} {v : Value} {x : DataW H × List MemPlace} (h : DataW.trod enc Try.prog W 0 (fun _ => true) true fuel 22 [v] = some x) :
    ∃ (a : Option Addr) (cap : Nat) (zs : List Int), v = .slice a zs.length cap ∧ IntsAt W a zs ∧ (∀ c ∈ zs, In64 c) ∧ ((∀ n ∈ x.1.weights Try.prog 22, n ≤ reachBytes) → zs.length * 8 ≤ reachBytes) := by
  rcases open_ints Try.underlying22 Try.underlying3 (by kernel_rfl) h with ⟨hcs, hx⟩ | ⟨a, len, cap, zs, hcs, _, hl, hm, hz, hx, hcell, hwz⟩
  · obtain rfl : v = .slice none 0 0 := by simpa using hcs
    exact ⟨none, 0, [], rfl, fun i hi => absurd hi (Nat.not_lt_zero _), fun c hc => (by cases hc), fun _ => (by simp)⟩
  · obtain rfl : v = .slice (some a) len cap := by simpa using hcs
    simp only [if_true] at hz
    have hzl : (zs.take len).length = len := by simp; omega
    refine ⟨some a, cap, zs.take len, by rw [hzl], fun i hi => ?_, fun c hc => In64.of_wf (hwz c (List.mem_of_mem_take hc)), fun hw => ?_⟩
    · rw [hzl] at hi
      have hc := hcell i (by omega)
      obtain ⟨b, o, rfl, _⟩ := ints_at hcell (by omega)
      rw [show (⟨b, o, none⟩ : Addr).add i = ⟨b, o + i, none⟩ from by simp [Addr.add]] at hc
      refine ⟨b, o, rfl, World.block_lt_of_cell? W _ hc, ?_⟩
      rw [hc]
      simp [List.getElem?_take_of_lt hi]
    · subst hx
      have h1 := hw ((zs.take len).length * 8 + (zs.drop len).length * 8) (by
        simp only [DataW.weights, Try.underlying22, lits, List.length_map, Try.bytesInt, ← Nat.add_mul]
        exact List.mem_cons_self ..)
      omega
theorem Try.cellsInts : Try.prog.cellsOf 22 = 1 := by kernel_rfl
theorem Try.cellsInt : Try.prog.cellsOf 3 = 1 := by kernel_rfl
theorem Try.cellsBool : Try.prog.cellsOf 4 = 1 := by kernel_rfl
theorem Try.cellsRaw : Try.prog.cellsOf 73 = 4 := by kernel_rfl
theorem weights_mem_all {H : Type} {P : Program} {e : TypeId} : ∀ {ds : List (DataW H)} {d : DataW H}, d ∈ ds → ∀ n ∈ d.weights P e, n ∈ DataW.weightsAll P e ds
  | d0 :: ds, d, hd, n, hn => by
    simp only [DataW.weightsAll, List.mem_append]
    rcases List.mem_cons.1 hd with rfl | h
    · exact .inl hn
    · exact .inr (weights_mem_all h n hn)
set_option maxRecDepth 100000 in
/-- Tables by raw numbers. -/
theorem came_raws {H : Type} {enc : TypeId × Value → H} {W : World} {fuel : Nat} {v : Value} {x : DataW H × List MemPlace} (h : DataW.trod enc Try.prog W 0 (fun _ => true) true fuel 32 [v] = some x) (hw : ∀ n ∈ x.1.weights Try.prog 32, n ≤ reachBytes) :
    ∃ (a : Option Addr) (cap : Nat) (rs : List RawT), v = .slice a rs.length cap ∧ RawsAt W a rs := by
  rcases Deep.open_slice Try.underlying32 h with ⟨hcs, hx⟩ | ⟨a, len, cap, m, n, D, Pl, hcs, hb, hl, hm, hmm, hx, hel⟩
  · obtain rfl : v = .slice none 0 0 := by simpa using hcs
    exact ⟨none, 0, [], rfl, fun i hi => absurd hi (Nat.not_lt_zero _)⟩
  · obtain rfl : v = .slice (some a) len cap := by simpa using hcs
    simp only [if_true] at hmm
    subst hx
    have hspot : 0 < len → a.spot = none := fun h0 => by
      obtain ⟨cs', h1, _⟩ := hel 0 (by omega)
      rw [Try.cellsRaw] at h1
      obtain ⟨_, hlen, hcell⟩ := World.cells?_some h1
      have e0 := hcell 0 (by omega)
      rw [Deep.add_add] at e0
      have e1 : W.cell? a = some cs'[0] := by
        simpa [Addr.add, hlen] using e0
      exact World.cell?_spot e1
    have each : ∀ i, i < len → ∃ r : RawT, ∃ b o, a = ⟨b, o, none⟩ ∧ b < W.heap.size ∧ RawAt W b (o + i * 4) r := fun i hi => by
      obtain ⟨cs', h1, h2⟩ := hel i (by omega)
      rw [Try.cellsRaw] at h1
      obtain ⟨_, hlen, hcell⟩ := World.cells?_some h1
      obtain ⟨xs, k, hk, hxy, _, hxl, hf⟩ := DataW.trod_struct Try.underlying73 h2
      match xs, hxl, cs', hlen with
      | [y0, y1, y2, y3], _, [v0, v1, v2, v3], _ =>
        have g0 := hf 0 _ rfl
        have g1 := hf 1 _ rfl
        have g2 := hf 2 _ rfl
        have g3 := hf 3 _ rfl
        simp only [List.getElem_toArray, List.getElem_cons_zero, List.getElem_cons_succ, Try.cellsInts, Try.cellsInt, Try.cellsBool, List.drop_zero, List.drop_succ_cons, List.take_succ_cons, List.take_zero, List.getElem?_cons_zero, List.getElem?_cons_succ] at g0 g1 g2 g3
        obtain ⟨a0, c0, zs0, rfl, hI0, hin0, hw0⟩ := came_row g0
        obtain ⟨a1, c1, zs1, rfl, hI1, hin1, hw1⟩ := came_row g1
        obtain ⟨nt, hv2, _⟩ := DataW.trod_bool Try.underlying4 g2
        obtain ⟨way, hv3, _, hwf⟩ := DataW.trod_int Try.underlying3 g3
        obtain rfl : v2 = .bool nt := by simpa using hv2
        obtain rfl : v3 = .int .i64 way := by simpa using hv3
        simp only [Prod.mk.injEq] at hxy
        have hDw : ∀ n ∈ (D i).weights Try.prog 73, n ≤ reachBytes := fun n hn => hw n (by
          simp only [DataW.weights, Try.underlying32]
          exact List.mem_cons_of_mem _ (List.mem_append_left _ (weights_mem_all (List.mem_map.2 ⟨i, List.mem_range.2 hi, rfl⟩) n hn)))
        rw [hxy.1] at hDw
        simp only [DataW.weights, Try.underlying73, List.map_cons, List.map_nil] at hDw
        have b0 := hw0 (fun n hn => hDw n (DataW.weights_mem_each (j := 0) rfl rfl n hn))
        have b1 := hw1 (fun n hn => hDw n (DataW.weights_mem_each (j := 1) rfl rfl n hn))
        have r47 : reachBytes ≤ 140737488355328 := by decide
        have e0 := hcell 0 (by omega)
        have e1 := hcell 1 (by omega)
        have e2 := hcell 2 (by omega)
        have e3 := hcell 3 (by omega)
        rw [Deep.add_add] at e0 e1 e2 e3
        have hsp := hspot (by omega)
        obtain ⟨ab, ao, ai⟩ := a
        obtain rfl : ai = none := hsp
        rw [add_plain] at e0 e1 e2 e3
        have hb' := World.block_lt_of_cell? W _ e0
        exact ⟨⟨zs0, zs1, nt, way⟩, ab, ao, rfl, hb', ⟨a0, c0, a1, c1, by simpa using e0, by simpa [Nat.add_assoc] using e1, by simpa [Nat.add_assoc] using e2, by simpa [Nat.add_assoc] using e3, hI0, hI1⟩, by show zs0.length * 8 ≤ _; omega, by show zs1.length * 8 ≤ _; omega, hin0, hin1, In64.of_wf hwf⟩
    haveI : Inhabited RawT := ⟨raw0⟩
    obtain ⟨R, hR⟩ := Deep.choose_lt each
    refine ⟨some a, cap, (List.range len).map R, by simp, fun i hi => ?_⟩
    rw [List.length_map, List.length_range] at hi
    obtain ⟨b, o, rfl, hb', hr⟩ := hR i hi
    refine ⟨b, o, rfl, hb', ?_⟩
    have e : ((List.range len).map R).getD i raw0 = R i := by simp [List.getD, hi]
    rw [e]
    exact hr
end Go.Proofs.Ytkjfpdfkcfgfkaa

/- A fretwork with tables: what posting them leaves. -/
namespace Go.Proofs.Ytkjfpdfkcfgfkaa
open Go.RowKit

/-- The closure of domains that were narrowed by fewer tables first. -/
theorem Closure.more {n : Nat} {bs bs' : List Tb} {st d d' : List Nat} (h : Closure n bs st d) (hf : Full n d) (hs : ∀ b ∈ bs, b ∈ bs') (k : Closure n bs' d d') : Closure n bs' st d' := by
  obtain ⟨a1, _, a3⟩ := h.full hf
  refine ⟨fun hf' => ?_, fun hn => ?_⟩
  · obtain ⟨b1, b2, b3⟩ := k.full hf'
    exact ⟨b1.trans a1, b2, fun e he hb => b3 e (a3 e he (fun b hb' => hb b (hs b hb'))) hb⟩
  · obtain ⟨b1, b2⟩ := k.none hn
    exact ⟨b1, fun e he hb => b2 e (a3 e he (fun b hb' => hb b (hs b hb'))) hb⟩
theorem zero8_not {n : Nat} (hn : 0 < n) : ¬ Full n zero8 := fun h => h 0 hn (zero8_get 0)
/-- What is dead stays dead. -/
theorem Closure.dead {n : Nat} {bs bs' : List Tb} {st st' : List Nat} (hn : 0 < n) (h : Closure n bs st zero8) (hs : ∀ b ∈ bs, b ∈ bs') (hst : SubD st' st) : Closure n bs' st' zero8 :=
  ⟨fun hf => absurd hf (zero8_not hn), fun hd => ⟨rfl, fun e he hb => (h.none hd).2 e (he.trans hst) (fun b hb' => hb b (hs b hb'))⟩⟩
/-- A Work at level 0, whose domains are the closure of all that was asked of it. -/
structure Posted (w0 w : World) (X : Nat) (zs : List Int) (s : WS) (bs : List Tb) (st : List Nat) : Prop where
  at_ : WAt w X zs s
  since : Since w0 X s
  nw : Nw w0 w
  busy : s.l.busy = false
  sk : s.sk = []
  clo : Closure zs.length bs st s.d
  all : Full zs.length s.d → s.bs = bs
  few : s.ts.length ≤ bs.length
  sdm : Dm st
theorem Posted.pos {w0 w : World} {X : Nat} {zs : List Int} {s : WS} {bs : List Tb} {st : List Nat} (h : Posted w0 w X zs s bs st) : 0 < zs.length := (okSizes_len h.at_.mem.zok).1
/-- Dead, or all domains have a value. -/
theorem WAt.dead_iff {w : World} {X : Nat} {zs : List Int} {s : WS} (h : WAt w X zs s) : s.d.getD 0 0 = 0 ↔ ¬ Full zs.length s.d := by
  obtain ⟨h0, _⟩ := okSizes_len h.mem.zok
  constructor
  · intro he hf
    exact hf 0 h0 he
  · intro hn
    rcases h.good.alive with e | e
    · rw [e, zero8_get]
    · exact absurd e hn
theorem WAt.dead_zero {w : World} {X : Nat} {zs : List Int} {s : WS} (h : WAt w X zs s) (h0 : s.d.getD 0 0 = 0) : s.d = zero8 := by
  rcases h.good.alive with e | e
  · exact e
  · exact absurd e (h.dead_iff.1 h0)
theorem Posted.step {w0 w w' : World} {X : Nat} {zs : List Int} {s : WS} {bs : List Tb} {st : List Nat} (h : Posted w0 w X zs s bs st) (f : Nw w w') : Posted w0 w' X zs s bs st :=
  ⟨h.at_.nw f, h.since, h.nw.trans f (fun _ x => x.elim), h.busy, h.sk, h.clo, h.all, h.few, h.sdm⟩
/-- One table more. -/
theorem post_ps {w0 w : World} {X : Nat} {zs : List Int} {s : WS} {bs : List Tb} {st : List Nat} {vo ro : Option Addr} {vcap rcap : Nat} {vars : List Int} {rows : List (List Int)} {nt : Bool} {way : Int} (h : Posted w0 w X zs s bs st) (hb : bs.length < 12)
    (hok : okTable zs vars rows way = true) (hvcap : vars.length ≤ vcap) (hvs : IntsAt w vo vars) (hrs : RowsAt w ro rows) :
    Calls Try.prog 31 #[.pointer (some ⟨X, 0, none⟩), .agg #[.slice vo vars.length vcap, .slice ro rows.length rcap, .bool nt, .int .i64 way]] w fun e w' => e = .returned (.int .i64 (if s.d.getD 0 0 = 0 then 3 else 0)) ∧ ∃ s', Posted w0 w' X zs s' (bs ++ [⟨vars, rows, nt⟩]) st := by
  obtain ⟨hway, hv1, hr60, hVO, hvn, hrl⟩ := okTable_parts hok (okSizes_len h.at_.mem.zok).2
  have hfew := h.few
  have hp : postOf zs s vars rows way = if s.d.getD 0 0 = 0 then 3 else 0 := by
    unfold postOf
    rw [if_neg (by rw [hok]; simp), if_neg (by omega), if_neg (by rw [h.sk]; simp)]
  by_cases h0 : s.d.getD 0 0 = 0
  · rw [if_pos h0] at hp ⊢
    refine (post_no X vo ro vcap rcap zs s vars rows nt way w h.at_ h.busy (by have := hVO.four; omega) (by omega) hvcap hvs hrs (by rw [hp]; decide)).mono ?_
    rintro e w' ⟨rfl, hf⟩
    rw [hp]
    have hz := h.at_.dead_zero h0
    refine ⟨rfl, s, h.at_.nw hf, h.since, h.nw.trans hf (fun _ x => x.elim), h.busy, h.sk, ?_, fun hF => absurd hF (h.at_.dead_iff.1 h0), by rw [List.length_append]; omega, h.sdm⟩
    have hc := h.clo
    rw [hz] at hc ⊢
    exact hc.dead h.pos (fun b hb => List.mem_append_left _ hb) (SubD.refl _)
  · rw [if_neg h0] at hp ⊢
    have hF : Full zs.length s.d := h.at_.good.full h0
    refine (post_yes X vo ro vcap rcap zs s vars rows nt way w h.at_ h.busy hvcap hvs hrs hp).mono ?_
    rintro e w' ⟨rfl, so, tcap, x, d', bv, ts, us, h1, h2, h3, h4⟩
    obtain ⟨hsi, hnw⟩ := h4.since h.since h.nw
    have hbs : s.bs = bs := h.all hF
    refine ⟨rfl, _, h3, hsi, hnw, h.busy, h.sk, ?_, fun _ => by show s.bs ++ [_] = _; rw [hbs], ?_, h.sdm⟩
    · rw [hbs] at h1
      exact h.clo.more hF (fun b hb => List.mem_append_left _ hb) h1
    · have e1 := h3.mem.fits.1
      rw [e1]
      show (s.bs ++ [_]).length ≤ _
      rw [hbs]
      exact Nat.le_refl _
theorem set_get (d : List Nat) (v x q : Nat) (hv : v < d.length) : (d.set v x).getD q 0 = if v = q then x else d.getD q 0 := by
  by_cases e : v = q
  · subst e
    simp [List.getD, hv]
  · simp [List.getD, e]
theorem sub_fix {e d : List Nat} {v x : Nat} (hv : v < d.length) : SubD e (d.set v (fixV (d.getD v 0) x)) ↔ SubD e d ∧ ∀ u, (e.getD v 0).testBit u = true → u = x := by
  constructor
  · intro h
    refine ⟨fun q u hu => ?_, fun u hu => ?_⟩
    · have h1 := h q u hu
      rw [set_get _ _ _ _ hv] at h1
      split at h1
      · rename_i hq
        subst hq
        rw [fixV_bit] at h1
        simp at h1
        exact h1.1
      · exact h1
    · have h1 := h v u hu
      rw [set_get _ _ _ _ hv, if_pos rfl, fixV_bit] at h1
      simp at h1
      exact h1.2.symm
  · rintro ⟨h1, h2⟩ q u hu
    rw [set_get _ _ _ _ hv]
    split
    · rename_i hq
      subst hq
      rw [fixV_bit, h1 _ u hu, h2 u hu]
      simp
    · exact h1 q u hu
theorem sub_rem {e d : List Nat} {v x : Nat} (hv : v < d.length) (h64 : d.getD v 0 < 64) : SubD e (d.set v (remV (d.getD v 0) x)) ↔ SubD e d ∧ ∀ u, (e.getD v 0).testBit u = true → u ≠ x := by
  constructor
  · intro h
    refine ⟨fun q u hu => ?_, fun u hu => ?_⟩
    · have h1 := h q u hu
      rw [set_get _ _ _ _ hv] at h1
      split at h1
      · rename_i hq
        subst hq
        rw [remV_bit _ _ _ h64] at h1
        simp at h1
        exact h1.1
      · exact h1
    · have h1 := h v u hu
      rw [set_get _ _ _ _ hv, if_pos rfl, remV_bit _ _ _ h64] at h1
      simp at h1
      exact fun e => h1.2 e.symm
  · rintro ⟨h1, h2⟩ q u hu
    rw [set_get _ _ _ _ hv]
    split
    · rename_i hq
      subst hq
      rw [remV_bit _ _ _ h64, h1 _ u hu]
      have := h2 u hu
      simp
      exact fun e => this e.symm
    · exact h1 q u hu
/-- The closure of domains that are cut behind another closure. -/
theorem Closure.cut {n : Nat} {bs : List Tb} {st d st' dd d' : List Nat} (h : Closure n bs st d) (hf : Full n d) (P : List Nat → Prop) (h1 : ∀ e, SubD e st' ↔ SubD e st ∧ P e) (h2 : ∀ e, SubD e dd ↔ SubD e d ∧ P e) (k : Closure n bs dd d') : Closure n bs st' d' := by
  obtain ⟨a1, _, a3⟩ := h.full hf
  refine ⟨fun hf' => ?_, fun hn => ?_⟩
  · obtain ⟨b1, b2, b3⟩ := k.full hf'
    have hb := (h2 _).1 b1
    exact ⟨(h1 _).2 ⟨hb.1.trans a1, hb.2⟩, b2, fun e he hb => b3 e ((h2 e).2 ⟨a3 e ((h1 e).1 he).1 hb, ((h1 e).1 he).2⟩) hb⟩
  · obtain ⟨b1, b2⟩ := k.none hn
    exact ⟨b1, fun e he hb => b2 e ((h2 e).2 ⟨a3 e ((h1 e).1 he).1 hb, ((h1 e).1 he).2⟩) hb⟩
theorem fix_dm {d : List Nat} (h : Dm d) (v x : Nat) : Dm (d.set v (fixV (d.getD v 0) x)) := ⟨by rw [List.length_set]; exact h.len, fun q => by
  by_cases hv : v < d.length
  · rw [set_get _ _ _ _ hv]
    split
    · exact Nat.lt_of_le_of_lt Nat.and_le_left (h.lt v)
    · exact h.lt q
  · rw [List.set_eq_of_length_le (by omega)]
    exact h.lt q⟩
theorem rem_dm {d : List Nat} (h : Dm d) (v x : Nat) : Dm (d.set v (remV (d.getD v 0) x)) := ⟨by rw [List.length_set]; exact h.len, fun q => by
  by_cases hv : v < d.length
  · rw [set_get _ _ _ _ hv]
    split
    · exact remV_lt _ _ (h.lt v)
    · exact h.lt q
  · rw [List.set_eq_of_length_le (by omega)]
    exact h.lt q⟩
theorem fault_ok {zs : List Int} {d : List Nat} {v value : Nat} (hv : v < zs.length) (hx : (value : Int) < zs.getD v 0) : faultOf zs d v value = if d.getD 0 0 = 0 then 3 else 0 := by
  unfold faultOf
  rw [if_pos ⟨by omega, by omega, by omega, by simpa using hx⟩]
/-- A value is fixed. -/
theorem fix_ps {w0 w : World} {X : Nat} {zs : List Int} {s : WS} {bs : List Tb} {st : List Nat} {v value : Nat} (h : Posted w0 w X zs s bs st) (hv : v < zs.length) (hx : (value : Int) < zs.getD v 0) :
    Calls Try.prog 18 #[.pointer (some ⟨X, 0, none⟩), .int .i64 v, .int .i64 value] w fun e w' => e = .returned (.int .i64 (if s.d.getD 0 0 = 0 then 3 else 0)) ∧ ∃ s', Posted w0 w' X zs s' bs (st.set v (fixV (st.getD v 0) value)) := by
  have hf := fault_ok (d := s.d) hv hx
  have h8 := (okSizes_len h.at_.mem.zok).2
  have hv8 : v < st.length := by rw [h.sdm.len]; omega
  by_cases h0 : s.d.getD 0 0 = 0
  · rw [if_pos h0] at hf ⊢
    refine (fix_no X zs s v value w h.at_ h.busy (by rw [hf]; decide)).mono ?_
    rintro e w' ⟨rfl, rfl⟩
    rw [hf]
    have hz := h.at_.dead_zero h0
    refine ⟨rfl, s, h.at_, h.since, h.nw, h.busy, h.sk, ?_, h.all, h.few, fix_dm h.sdm _ _⟩
    have hc := h.clo
    rw [hz] at hc ⊢
    exact hc.dead h.pos (fun b hb => hb) ((sub_fix hv8).1 (SubD.refl _)).1
  · rw [if_neg h0] at hf ⊢
    have hF : Full zs.length s.d := h.at_.good.full h0
    refine (fix_yes X zs s v value w h.at_ h.busy hf).mono ?_
    rintro e w' ⟨rfl, d', bv, ts, us, h1, h2, h3, h4⟩
    obtain ⟨hsi, hnw⟩ := h4.since h.since h.nw
    have hbs : s.bs = bs := h.all hF
    refine ⟨rfl, _, h3, hsi, hnw, h.busy, h.sk, ?_, fun _ => hbs, ?_, fix_dm h.sdm _ _⟩
    · rw [hbs] at h1
      exact h.clo.cut hF _ (fun e => sub_fix hv8) (fun e => sub_fix (by rw [h.at_.good.dm.len]; omega)) h1
    · have e1 := h3.mem.fits.1
      rw [e1]
      show s.bs.length ≤ _
      rw [hbs]
      exact Nat.le_refl _
/-- A value is removed. -/
theorem remove_ps {w0 w : World} {X : Nat} {zs : List Int} {s : WS} {bs : List Tb} {st : List Nat} {v value : Nat} (h : Posted w0 w X zs s bs st) (hv : v < zs.length) (hx : (value : Int) < zs.getD v 0) :
    Calls Try.prog 19 #[.pointer (some ⟨X, 0, none⟩), .int .i64 v, .int .i64 value] w fun e w' => e = .returned (.int .i64 (if s.d.getD 0 0 = 0 then 3 else 0)) ∧ ∃ s', Posted w0 w' X zs s' bs (st.set v (remV (st.getD v 0) value)) := by
  have hf := fault_ok (d := s.d) hv hx
  have h8 := (okSizes_len h.at_.mem.zok).2
  have hv8 : v < st.length := by rw [h.sdm.len]; omega
  by_cases h0 : s.d.getD 0 0 = 0
  · rw [if_pos h0] at hf ⊢
    refine (remove_no X zs s v value w h.at_ h.busy (by rw [hf]; decide)).mono ?_
    rintro e w' ⟨rfl, rfl⟩
    rw [hf]
    have hz := h.at_.dead_zero h0
    refine ⟨rfl, s, h.at_, h.since, h.nw, h.busy, h.sk, ?_, h.all, h.few, rem_dm h.sdm _ _⟩
    have hc := h.clo
    rw [hz] at hc ⊢
    exact hc.dead h.pos (fun b hb => hb) ((sub_rem hv8 (h.sdm.lt v)).1 (SubD.refl _)).1
  · rw [if_neg h0] at hf ⊢
    have hF : Full zs.length s.d := h.at_.good.full h0
    refine (remove_yes X zs s v value w h.at_ h.busy hf).mono ?_
    rintro e w' ⟨rfl, d', bv, ts, us, h1, h2, h3, h4⟩
    obtain ⟨hsi, hnw⟩ := h4.since h.since h.nw
    have hbs : s.bs = bs := h.all hF
    refine ⟨rfl, _, h3, hsi, hnw, h.busy, h.sk, ?_, fun _ => hbs, ?_, rem_dm h.sdm _ _⟩
    · rw [hbs] at h1
      exact h.clo.cut hF _ (fun e => sub_rem hv8 (h.sdm.lt v)) (fun e => sub_rem (by rw [h.at_.good.dm.len]; omega) (h.at_.good.dm.lt v)) h1
    · have e1 := h3.mem.fits.1
      rw [e1]
      show s.bs.length ≤ _
      rw [hbs]
      exact Nat.le_refl _
/-- A table among a call's own. -/
theorem flat4 : ∀ (tvs : List Value) (i c : Nat), (∀ tv ∈ tvs, (tblC tv).length = 4) → c < 4 → i < tvs.length → (tvs.flatMap tblC)[i * 4 + c]? = (tblC (tvs.getD i undef))[c]?
  | [], i, c, _, _, hi => absurd hi (Nat.not_lt_zero _)
  | tv :: r, 0, c, h, hc, _ => by
    have h4 := h tv (by simp)
    rw [List.flatMap_cons, Nat.zero_mul, Nat.zero_add, List.getElem?_append_left (by omega)]
    rfl
  | tv :: r, i + 1, c, h, hc, hi => by
    have h4 := h tv (by simp)
    rw [List.flatMap_cons, List.getElem?_append_right (by omega), h4, show (i + 1) * 4 + c - 4 = i * 4 + c by omega, flat4 r i c (fun x hx => h x (by simp [hx])) hc (by simpa using hi)]
    rfl
theorem TblAt.four {w : World} {tv : Value} {vars : List Int} {rows : List (List Int)} {nt : Bool} {way : Int} (h : TblAt w tv vars rows nt way) : (tblC tv).length = 4 := by
  obtain ⟨vo, vcap, ro, rcap, rl, rfl, _⟩ := h.form
  rfl
theorem TblsOwn.step {W w w' : World} {v : Value} {tvs : List Value} {ts : List Tw} (h : TblsOwn W w v tvs ts) (f : Nw w w') : TblsOwn W w' v tvs ts :=
  ⟨ownsRow.fr h.row f (fun _ _ x => x), h.nw.trans f (fun _ x => x.elim), h.since, h.len, fun i hi => by
    obtain ⟨t, h1, h2⟩ := h.each i hi
    exact ⟨t, h1, h2.nw f⟩⟩
def tw0 : Tw := ⟨⟨[], [], false⟩, 0⟩
theorem TblsOwn.cell {W w : World} {v : Value} {tvs : List Value} {ts : List Tw} (h : TblsOwn W w v tvs ts) (i : Nat) (hi : i < ts.length) : ∃ g cap vo vcap ro rcap, v = .slice (some ⟨g, 0, none⟩) ts.length cap ∧ g < w.heap.size ∧
    w.cell? ⟨g, i * 4, none⟩ = some (.slice vo (ts.getD i tw0).tb.vars.length vcap) ∧ w.cell? ⟨g, i * 4 + 1, none⟩ = some (.slice ro (ts.getD i tw0).tb.rows.length rcap) ∧ w.cell? ⟨g, i * 4 + 2, none⟩ = some (.bool (ts.getD i tw0).tb.nt) ∧ w.cell? ⟨g, i * 4 + 3, none⟩ = some (.int .i64 (ts.getD i tw0).way) ∧
    (ts.getD i tw0).tb.vars.length ≤ vcap ∧ IntsAt w vo (ts.getD i tw0).tb.vars ∧ RowsAt w ro (ts.getD i tw0).tb.rows := by
  obtain ⟨t, ht, hta⟩ := h.each i hi
  have e1 : ts.getD i tw0 = t := by simp [List.getD, ht]
  rw [e1]
  obtain ⟨vo, vcap, ro, rcap, hf, h1, h2, h3⟩ := hta.parts
  have hfour : ∀ tv ∈ tvs, (tblC tv).length = 4 := fun tv htv => by
    obtain ⟨j, hj, e⟩ := List.getElem_of_mem htv
    obtain ⟨t', _, hta'⟩ := h.each j (by rw [← h.len]; exact hj)
    have e2 : tvs.getD j undef = tv := by simp [List.getD, hj, e]
    rw [e2] at hta'
    exact hta'.four
  have hcs : tblC (tvs.getD i undef) = [.slice vo t.tb.vars.length vcap, .slice ro t.tb.rows.length rcap, .bool t.tb.nt, .int .i64 t.way] := by rw [hf]; rfl
  rcases h.row.2 with ⟨rfl, h0⟩ | ⟨g, cap, cur, hv, _, hg, _⟩
  · omega
  · have hcell := h.row.cells (g := g) (by rw [hv]; rfl)
    have key : ∀ c u, c < 4 → (tblC (tvs.getD i undef))[c]? = some u → w.cell? ⟨g, i * 4 + c, none⟩ = some u := fun c u hc hu => by
      have := hcell (i * 4 + c) u (by rw [flat4 tvs i c hfour hc (by rw [h.len]; exact hi)]; exact hu)
      rw [show (⟨g, 0, none⟩ : Addr).add (i * 4 + c) = ⟨g, i * 4 + c, none⟩ from by by_cases h : i * 4 + c = 0 <;> simp only [Addr.add, h, if_true, if_false, Nat.zero_add]] at this
      exact this
    rw [hcs] at key
    exact ⟨g, cap, vo, vcap, ro, rcap, hv, lt_of_block hg, by simpa using key 0 _ (by omega) rfl, key 1 _ (by omega) rfl, key 2 _ (by omega) rfl, key 3 _ (by omega) rfl, h1, h2, h3⟩
theorem look_dead (W : World) (a b c e f : Int) (d : Bool) : (Instr.field 40 (.agg #[.int .i64 a, .int .i64 b, .int .i64 c, .bool d, .int .i64 e, .int .i64 f]) 3).run Try.prog W = .ok (.bool d) W := by kernel_rfl
theorem look_level (W : World) (a b c e f : Int) (d : Bool) : (Instr.field 40 (.agg #[.int .i64 a, .int .i64 b, .int .i64 c, .bool d, .int .i64 e, .int .i64 f]) 2).run Try.prog W = .ok (.int .i64 c) W := by kernel_rfl
theorem Posted.of_new {w0 w : World} {X : Nat} {zs : List Int} {szv : Value} (hok : okSizes zs = true) (hf : Nw w0 w) (hB : Blk w X (workCells szv (fullTo zs zs.length) (.slice none 0 0) rest0) 82) (hr : Row w szv 3 (zs.map (Value.int .i64))) (hX : w0.heap.size ≤ X) (hs : ∀ k, szv.ownBlock = some k → w0.heap.size ≤ k) :
    Posted w0 w X zs (ws0 zs szv) [] (fullTo zs zs.length) := by
  refine ⟨new_wat hok hB hr, fun k hk => ?_, hf, rfl, rfl, ?_, fun _ => rfl, Nat.le_refl _, full_dm hok⟩
  · rcases ws0_own hk with rfl | hk
    · exact hX
    · exact hs k hk
  · exact ⟨fun _ => ⟨SubD.refl _, fun b hb => (by cases hb), fun d hd _ => hd⟩, fun hn => absurd (full_full hok) hn⟩

set_option maxHeartbeats 1600000 in
set_option maxRecDepth 1000000 in
theorem posted_any (so : Option Addr) (sc : Nat) (lv : Value) (zs : List Int) (tvs : List Value) (ts : List Tw) (W w : World) (hok : okSizes zs = true) (ht : ts.length ≤ 12) (htok : ∀ i, i < ts.length → okTable zs (ts.getD i tw0).tb.vars (ts.getD i tw0).tb.rows (ts.getD i tw0).way = true)
    (hs : IntsAt w so zs) (hT : TblsOwn W w lv tvs ts) :
    Calls Try.prog 15 #[.slice so zs.length sc, lv] w fun e w' => ∃ X, e = .returned (.pointer (some ⟨X, 0, none⟩)) ∧ ∃ s, Posted w w' X zs s (ts.map Tw.tb) (fullTo zs zs.length) := by
  obtain ⟨hz0, hz8⟩ := okSizes_len hok
  obtain ⟨b, o, rfl, _, _⟩ := hs 0 hz0
  obtain ⟨lo, lcap, hform⟩ := hT.form
  subst hform
  have HT := hd hT
  clear hT
  go_enter Try.func15, Try.ntmps15
  go_wp2_with fail
  refine (new_any b o sc zs _ hz0 hz8 hs).mono ?_
  rintro e w1 ⟨hf1, hcase⟩
  rcases hcase with ⟨_, X, szv, rfl, hX1, hs1, hXl, hsl⟩ | ⟨hno, _⟩
  · have HP := hd (Posted.of_new hok hf1 hX1 hs1 hXl hsl)
    clear hX1 hs1 hsl hf1
    go_wp2_with fail
    go_loopw [7, 8, 9] (fun i _ _ wr => ∃ (k : Nat) (s : WS), k ≤ ts.length ∧ i = .int .i64 k ∧ Hid (Posted w wr X zs s ((ts.map Tw.tb).take k) (fullTo zs zs.length))) (fun i _ _ _ => ts.length - (intOf i).toNat)
    case atStart => exact ⟨0, _, by omega, rfl, HP⟩
    case round =>
      obtain ⟨k, s, hk, rfl, HP⟩ := hrel
      by_cases hlt : k < ts.length
      · have hd1 : (k : Int) < (ts.length : Int) := by omega
        go_wp2_with fail
        obtain ⟨db, hdb⟩ : ∃ db, (s.d.getD 0 0 == 0) = db := ⟨_, rfl⟩
        refine (look_ws HP.out.at_ HP.out.busy false db _ hdb rfl).mono ?_
        rintro e w2 ⟨fx, rfl, hf2⟩
        obtain ⟨tl, htl⟩ : ∃ tl : Int, ((s.ts.length : Nat) : Int) = tl := ⟨_, rfl⟩
        obtain ⟨kl, hkl⟩ : ∃ kl : Int, ((s.sk.length : Nat) : Int) = kl := ⟨_, rfl⟩
        obtain ⟨ll, hll⟩ : ∃ ll : Int, ((leftTo s.d 8 : Nat) : Int) = ll := ⟨_, rfl⟩
        rw [htl, hkl, hll]
        clear htl hkl hll
        have Hpost := hd (HP.out.step hf2)
        have htlen : (List.take k (ts.map Tw.tb)).length = k := by simp; omega
        have Hlen : Hid ((List.take k (ts.map Tw.tb)).length < 12) := hd (by rw [htlen]; omega)
        have htake : List.take (k + 1) (ts.map Tw.tb) = List.take k (ts.map Tw.tb) ++ [(ts.getD k tw0).tb] := by
          rw [List.take_succ_eq_append_getElem (by simpa using hlt)]
          simp [List.getD, hlt]
        have hTw := HT.out.step (HP.out.nw.trans hf2 (fun _ x => x.elim))
        obtain ⟨g, cap, vo, vcap, ro, rcap, hv, hgl, c0, c1, c2, c3, hvc, hI1, hI2⟩ := hTw.cell k hlt
        simp only [Value.slice.injEq] at hv
        obtain ⟨rfl, _, rfl⟩ := hv
        have Hok := hd (htok k hlt)
        obtain ⟨t, htv⟩ : ∃ t, ts.getD k tw0 = t := ⟨_, rfl⟩
        rw [htv] at c0 c1 c2 c3 hvc hI1 hI2 Hok htake
        have HI1 := hd hI1
        have HI2 := hd hI2
        have Htake := hd htake
        clear htv htake htlen hI1 hI2 hTw HP hf2
        have hfld := fun W => look_dead W (zs.length : Int) tl kl ll (fx : Int) db
        cases db with
        | true =>
          have h0 : s.d.getD 0 0 = 0 := by simpa using hdb
          have Hif : Hid ((if s.d.getD 0 0 = 0 then (3 : Int) else 0) = 3) := hd (if_pos h0)
          clear hdb h0
          go_wp2_with (go_at_call 31; refine (post_ps Hpost.out Hlen.out Hok.out hvc HI1.out HI2.out).mono ?_; rw [Hif.out]; rintro e w3 ⟨rfl, s', hp'⟩)
          refine ⟨⟨k + 1, s', by omega, by simp, ?_⟩, by simp [intOf]; omega⟩
          rw [Htake.out]
          exact hp'
        | false =>
          have h0 : ¬ s.d.getD 0 0 = 0 := by simpa using hdb
          have Hif : Hid ((if s.d.getD 0 0 = 0 then (3 : Int) else 0) = 0) := hd (if_neg h0)
          clear hdb h0
          go_wp2_with (go_at_call 31; refine (post_ps Hpost.out Hlen.out Hok.out hvc HI1.out HI2.out).mono ?_; rw [Hif.out]; rintro e w3 ⟨rfl, s', hp'⟩)
          refine ⟨⟨k + 1, s', by omega, by simp, ?_⟩, by simp [intOf]; omega⟩
          rw [Htake.out]
          exact hp'
      · obtain rfl : k = ts.length := by omega
        have hd1 : ¬ ((ts.length : Int) < (ts.length : Int)) := by omega
        go_wp2_with fail
        go_ret
        have e := HP.out
        rw [List.take_of_length_le (by simp)] at e
        exact ⟨X, rfl, s, e⟩
  · exact absurd hno (by rw [hok]; simp)
end Go.Proofs.Ytkjfpdfkcfgfkaa

/- Parts of the statements without the document's answer: tables by raw numbers are right; two fretworks with the same domains. -/
namespace Go.Proofs.Ytkjfpdfkcfgfkaa
open Go.RowKit

theorem any_contains (acc : List Int) (v : Int) : acc.any (fun x => x == v) = acc.contains v := by
  rw [Bool.eq_iff_iff]
  simp
theorem varsTo_one (rv : List Int) (n : Nat) : ∀ k, (varsTo rv n k).Nodup
  | 0 => by simp [varsTo]
  | k + 1 => by
    by_cases hk : k < rv.length
    · rw [varsTo_succ rv n k hk]
      unfold addVar
      split
      · exact varsTo_one rv n k
      · rename_i h
        rw [any_contains] at h
        rw [List.nodup_append]
        refine ⟨varsTo_one rv n k, by simp, ?_⟩
        intro a ha b hb e
        simp at hb
        subst hb
        subst e
        simp at h
        exact h ha
    · have e : varsTo rv n (k + 1) = varsTo rv n k := by
        unfold varsTo
        rw [List.take_of_length_le (by omega), List.take_of_length_le (by omega)]
      rw [e]
      exact varsTo_one rv n k
theorem tVars_one (rv : List Int) (n : Nat) : (tVars rv n).Nodup := by
  unfold tVars
  split
  · simp
  · exact varsTo_one rv n 4
theorem nodup_take {l : List Int} (h : l.Nodup) (i : Nat) (hi : i < l.length) : (l.take i).contains (l.getD i 0) = false := by
  rw [← Bool.not_eq_true, List.contains_iff_mem]
  intro hm
  obtain ⟨j, hj, e⟩ := List.getElem_of_mem hm
  rw [List.length_take] at hj
  rw [List.getElem_take] at e
  have e2 : l.getD i 0 = l[i] := by simp [List.getD, hi]
  rw [e2] at e
  have hji : j < i := by omega
  have := (List.pairwise_iff_getElem.1 h) j i (by omega) hi hji
  exact this e
theorem tVars_okVars (rv : List Int) (n : Nat) (hn : 0 < n) : okVars n (tVars rv n) = true := by
  obtain ⟨h1, h4, hin⟩ := tVars_ok rv n hn
  simp only [okVars, Bool.and_eq_true, decide_eq_true_eq, List.all_eq_true, List.mem_range]
  refine ⟨⟨h1, h4⟩, fun i hi => ?_⟩
  have e2 : (tVars rv n).getD i 0 = (tVars rv n)[i] := by simp [List.getD, hi]
  have := hin _ (List.getElem_mem hi)
  simp only [okVar, Bool.and_eq_true, decide_eq_true_eq, nodup_take (tVars_one rv n) i hi, Bool.not_false, and_true]
  rw [e2]
  exact this
theorem tRows_ok (vars zs es : List Int) (hz : ∀ i, i < zs.length → 1 ≤ zs.getD i 0 ∧ zs.getD i 0 ≤ 6) (hv : ∀ x ∈ vars, 0 ≤ x ∧ x < zs.length) (j : Nat) (hj : j < (tRows vars zs es).length) : okRow zs vars ((tRows vars zs es).getD j []) = true := by
  unfold tRows at hj ⊢
  rw [rowsTo_len] at hj
  have e : (rowsTo vars zs es (min (es.length / vars.length) 20)).getD j [] = rowOf vars zs es (j * vars.length) vars.length := by
    simp only [rowsTo, List.getD]
    rw [List.getElem?_map, List.getElem?_range hj]
    rfl
  rw [e]
  simp only [okRow, Bool.and_eq_true, decide_eq_true_eq, List.all_eq_true, List.mem_range, rowOf_len, true_and]
  intro i hi
  have e2 : (rowOf vars zs es (j * vars.length) vars.length).getD i 0 = pickOf (es.getD (j * vars.length + i) 0) (zs.getD (vars.getD i 0).toNat 0 + 1) - 1 := by
    simp only [rowOf, List.getD]
    rw [List.getElem?_map, List.getElem?_range hi]
    rfl
  have hvi : vars.getD i 0 = vars[i] := by simp [List.getD, hi]
  have h1 := hv _ (List.getElem_mem hi)
  rw [← hvi] at h1
  have h2 := hz (vars.getD i 0).toNat (by omega)
  have h3 := pickOf_range (es.getD (j * vars.length + i) 0) (zs.getD (vars.getD i 0).toNat 0 + 1) (by omega)
  simp only [okEntry, e2, sizeAt, Bool.or_eq_true, Bool.and_eq_true, decide_eq_true_eq, beq_iff_eq]
  omega
theorem tableOf_ok (zs : List Int) (r : RawT) (hz1 : 1 ≤ zs.length) (hz : ∀ i, i < zs.length → 1 ≤ zs.getD i 0 ∧ zs.getD i 0 ≤ 6) : okTable zs (tableOf zs r).tb.vars (tableOf zs r).tb.rows (tableOf zs r).way = true := by
  have hp := pickOf_range r.way 2 (by omega)
  have hlen : (tRows (tVars r.rv zs.length) zs r.es).length ≤ 20 := by
    unfold tRows
    rw [rowsTo_len]
    omega
  simp only [okTable, tableOf, Bool.and_eq_true, List.all_eq_true, List.mem_range]
  refine ⟨⟨⟨?_, tVars_okVars _ _ hz1⟩, decide_eq_true (by omega)⟩, fun j hj => tRows_ok _ _ _ hz (tVars_ok _ _ hz1).2.2 j hj⟩
  simp only [okWay, Bool.or_eq_true, beq_iff_eq]
  omega
theorem tablesTo_ok (zs : List Int) (rs : List RawT) (k : Nat) (hz1 : 1 ≤ zs.length) (hz : ∀ i, i < zs.length → 1 ≤ zs.getD i 0 ∧ zs.getD i 0 ≤ 6) (i : Nat) (hi : i < (tablesTo zs rs k).length) :
    okTable zs ((tablesTo zs rs k).getD i tw0).tb.vars ((tablesTo zs rs k).getD i tw0).tb.rows ((tablesTo zs rs k).getD i tw0).way = true := by
  have e : (tablesTo zs rs k).getD i tw0 ∈ tablesTo zs rs k := by
    simp only [List.getD, List.getElem?_eq_getElem hi, Option.getD_some]
    exact List.getElem_mem hi
  unfold tablesTo at e
  obtain ⟨r, _, h⟩ := List.mem_map.1 e
  unfold tablesTo
  rw [← h]
  exact tableOf_ok zs r hz1 hz
theorem fitL_sizes (raw : List Int) (most : Nat) (h1 : 1 ≤ most) (h8 : most ≤ 8) : okSizes (fitL raw most) = true := by
  obtain ⟨a, b⟩ := fitL_len raw most h1
  simp only [okSizes, Bool.and_eq_true, decide_eq_true_eq, List.all_eq_true]
  refine ⟨by omega, fun z hz => ?_⟩
  have := fitL_ok raw most z hz
  simp only [okSize, decide_eq_true_eq]
  omega

set_option maxHeartbeats 1600000 in
set_option maxRecDepth 1000000 in
theorem sameDomains_any (X Y : Nat) (zs : List Int) (s t : WS) (w : World) (hA : WAt w X zs s) (hB : WAt w Y zs t) (ha : s.l.busy = false) (hb : t.l.busy = false) (hd : s.d = t.d) :
    Calls Try.prog 23 #[.pointer (some ⟨X, 0, none⟩), .pointer (some ⟨Y, 0, none⟩), .int .i64 (zs.length : Int)] w fun e w' => e = .returned (.bool true) ∧ Nw w w' := by
  obtain ⟨hz0, hz8⟩ := okSizes_len hA.mem.zok
  have HA : Hid (WAt w X zs s) := hA
  have HB : Hid (WAt w Y zs t) := hB
  have Hd : Hid (s.d = t.d) := hd
  clear hA hB hd
  go_enter Try.func23, Try.ntmps23
  go_wp2_with fail
  go_loopw [7, 8, 9, 10, 11, 12] (fun v _ _ _ _ _ wr => ∃ k : Nat, k ≤ zs.length ∧ v = .int .i64 (k : Int) ∧ Hid (Nw w wr)) (fun v _ _ _ _ _ _ => zs.length - (intOf v).toNat)
  case atStart => exact ⟨0, by omega, rfl, Fr.refl _ _⟩
  case round =>
    obtain ⟨k, hk, rfl, HF⟩ := hrel
    by_cases hlt : k < zs.length
    · have hd1 : (k : Int) < (zs.length : Int) := by omega
      have hA1 := HA.out.nw HF.out
      have hB1 := HB.out.nw HF.out
      have h64 := hA1.good.dm.lt k
      have hA8 := hA1.good.dm.len
      have hB8 := hB1.good.dm.len
      have HA1 : Hid (WAt wr X zs s) := hA1
      have HB1 : Hid (WAt wr Y zs t) := hB1
      clear hA1 hB1
      go_wp2_with fail
      refine (domain_ok X s.szv s.d _ s.l zs k wr HA1.out.mem.blk HA1.out.mem.sz hz8 hlt hA8 (by omega) ha).mono ?_
      rintro e w1 ⟨rfl, hf1, hb1⟩
      obtain ⟨ds, hds⟩ : ∃ ds, vals (s.d.getD k 0) = ds := ⟨_, rfl⟩
      rw [hds] at hb1 ⊢
      have hdl : ds.length ≤ 8 := by
        rw [← hds]
        have := List.length_filter_le (fun v => (s.d.getD k 0).testBit v) (List.range 8)
        simpa [vals] using this
      have hk1 : Nw wr w1 := hf1
      have HB2 : Hid (WAt w1 Y zs t) := HB1.out.nw hf1
      have Hf1 : Hid (Nw wr w1) := hf1
      have Hb1 : Hid (Blk w1 wr.heap.size (ints ds).toArray 3) := hb1
      have Hds : Hid (vals (s.d.getD k 0) = ds) := hds
      clear hf1 hb1 hds hk1
      go_wp2_with fail
      refine (domain_ok Y t.szv t.d _ t.l zs k w1 HB2.out.mem.blk HB2.out.mem.sz hz8 hlt hB8 (by rw [← Hd.out]; omega) hb).mono ?_
      rw [← Hd.out, Hds.out]
      rintro e w2 ⟨rfl, hf2, hb2⟩
      have hb1 := Hb1.out.nw hf2
      have Hf2 : Hid (Nw wr w2) := Hf1.out.trans hf2 (fun _ x => x.elim)
      have hs1 := Hf1.out.size
      have hl1 := hb1.lt
      have hl2 := hb2.lt
      clear hf2 Hb1 Hds
      go_wp2_with fail
      have Hb1 : Hid (Blk w2 wr.heap.size (ints ds).toArray 3) := hb1
      have Hb2 : Hid (Blk w2 w1.heap.size (ints ds).toArray 3) := hb2
      obtain ⟨p1, hp1⟩ : ∃ p1, wr.heap.size = p1 := ⟨_, rfl⟩
      obtain ⟨p2, hp2⟩ : ∃ p2, w1.heap.size = p2 := ⟨_, rfl⟩
      rw [hp1, hp2]
      rw [hp1] at Hb1
      rw [hp2] at Hb2
      clear hb1 hb2 hl1 hl2 hp1 hp2 hs1
      go_loopw [12] (fun i w3 => Hid (Nw w2 w3) ∧ ∃ j : Nat, j ≤ ds.length ∧ i = .int .i64 (j : Int)) (fun i _ => ds.length - (intOf i).toNat)
      case atStart => exact ⟨Fr.refl _ _, 0, by omega, rfl⟩
      case round =>
        rename World => w3
        obtain ⟨HN, j, hj, rfl⟩ := hrel
        by_cases hjl : j < ds.length
        · have hdj : (j : Int) < (ds.length : Int) := by omega
          have hb1 := Hb1.out.nw HN.out
          have hb2 := Hb2.out.nw HN.out
          have hl1 := hb1.lt
          have hl2 := hb2.lt
          have c1 : w3.cell? ⟨p1, j, none⟩ = some (.int .i64 (ds[j] : Nat)) := (hb1.cell j).trans (by simp [ints, hjl])
          have c2 : w3.cell? ⟨p2, j, none⟩ = some (.int .i64 (ds[j] : Nat)) := (hb2.cell j).trans (by simp [ints, hjl])
          obtain ⟨x, hx⟩ : ∃ x : Nat, ds[j] = x := ⟨_, rfl⟩
          rw [hx] at c1 c2
          clear hx hb1 hb2
          go_wp2_with fail
          go_quiet (fail)
          go_wp2_with fail
          exact ⟨⟨HN.out.drewN _, j + 1, by omega, by simp⟩, by simp [intOf]; omega⟩
        · obtain rfl : j = ds.length := by omega
          have hdj : ¬ ((ds.length : Int) < (ds.length : Int)) := by omega
          go_wp2_with fail
          refine ⟨⟨k + 1, by omega, by simp, ?_⟩, by simp [intOf]; omega⟩
          exact (HF.out.trans Hf2.out (fun _ x => x.elim)).trans HN.out (fun _ x => x.elim)
    · obtain rfl : k = zs.length := by omega
      have hd1 : ¬ ((zs.length : Int) < (zs.length : Int)) := by omega
      have HA1 : Hid (WAt wr X zs s) := HA.out.nw HF.out
      have HB1 : Hid (WAt wr Y zs t) := HB.out.nw HF.out
      go_wp2_with fail
      obtain ⟨db, hdb⟩ : ∃ db, (s.d.getD 0 0 == 0) = db := ⟨_, rfl⟩
      have hdb2 : (t.d.getD 0 0 == 0) = db := by rw [← Hd.out]; exact hdb
      refine (look_ws HA1.out ha false db _ hdb rfl).mono ?_
      rintro e w1 ⟨fx, rfl, hf1⟩
      have HB2 : Hid (WAt w1 Y zs t) := HB1.out.nw hf1
      have hfld := fun W => look_dead W (zs.length : Int) (s.ts.length : Int) (s.sk.length : Int) (leftTo s.d 8 : Int) (fx : Int) db
      have Hf1 : Hid (Nw wr w1) := hf1
      clear hdb hf1
      go_wp2_with fail
      refine (look_ws HB2.out hb false db _ hdb2 rfl).mono ?_
      rintro e w2 ⟨fy, rfl, hf2⟩
      have hfld2 := fun W => look_dead W (zs.length : Int) (t.ts.length : Int) (t.sk.length : Int) (leftTo t.d 8 : Int) (fy : Int) db
      have Hf2 : Hid (Nw w1 w2) := hf2
      clear hdb2 hf2
      go_wp2_with fail
      go_ret
      exact ⟨rfl, (HF.out.trans Hf1.out (fun _ x => x.elim)).trans Hf2.out (fun _ x => x.elim)⟩
end Go.Proofs.Ytkjfpdfkcfgfkaa

/- What a table allows, in either way: Allows. -/
namespace Go.Proofs.Ytkjfpdfkcfgfkaa
open Go.RowKit

/-- The values of a table's variables in a list of numbers. -/
structure ListAt (w : World) (lo : Option Addr) (ls : List Int) (vars : List Int) (l : List Nat) : Prop where
  at_ : IntsAt w lo ls
  len : l.length = vars.length
  get : ∀ i, i < vars.length → (vars.getD i 0).toNat < ls.length ∧ 0 ≤ vars.getD i 0 ∧ ls.getD (vars.getD i 0).toNat 0 = (l.getD i 0 : Nat) ∧ l.getD i 0 < 6
theorem ListAt.nw {w w' : World} {lo : Option Addr} {ls vars : List Int} {l : List Nat} (h : ListAt w lo ls vars l) (f : Nw w w') : ListAt w' lo ls vars l := ⟨h.at_.nw f, h.len, h.get⟩
/-- The rows that bear the first k values. -/
def covN (br : List Nat) (live : Nat) (l : List Nat) : Nat → Nat
  | 0 => live
  | k + 1 => covN br live l k &&& br.getD (k * 6 + l.getD k 0) 0
theorem covN_lt (br : List Nat) (live : Nat) (l : List Nat) (h : live < 18446744073709551616) : ∀ k, covN br live l k < 18446744073709551616
  | 0 => h
  | k + 1 => Nat.lt_of_le_of_lt Nat.and_le_left (covN_lt br live l h k)
theorem covN_bit (br : List Nat) (live : Nat) (l : List Nat) (j : Nat) : ∀ k, (covN br live l k).testBit j = true ↔ live.testBit j = true ∧ ∀ i, i < k → (br.getD (i * 6 + l.getD i 0) 0).testBit j = true
  | 0 => by simp [covN]
  | k + 1 => by
    unfold covN
    rw [Nat.testBit_and, Bool.and_eq_true, covN_bit br live l j k]
    constructor
    · rintro ⟨⟨h1, h2⟩, h3⟩
      refine ⟨h1, fun i hi => ?_⟩
      rcases Nat.lt_succ_iff_lt_or_eq.1 hi with h | h
      · exact h2 i h
      · subst h
        exact h3
    · rintro ⟨h1, h2⟩
      exact ⟨⟨h1, fun i hi => h2 i (by omega)⟩, h2 k (by omega)⟩
/-- Way 1: what Allows says is what the table allows. -/
theorem covN_sem {vars : List Int} {rows : List (List Int)} {dn : List Nat} {live : Nat} (h4 : vars.length ≤ 4) (hd : ∀ q, dn.getD q 0 < 64) (hrow : ∀ j, j < rows.length → (rows.getD j []).length = vars.length) (hR : RsRep vars rows dn live) {l : List Nat} (hO : OutOf vars dn l) (nt : Bool) :
    ((covN (brTo rows rows.length) live l vars.length != 0) != nt) = true ↔ Allow rows nt l := by
  have hc : covN (brTo rows rows.length) live l vars.length ≠ 0 ↔ ∃ j, j < rows.length ∧ Covers (rows.getD j []) l := by
    constructor
    · intro h
      obtain ⟨j, hj⟩ := ne_zero_bit h
      rw [covN_bit] at hj
      have hjl := hR.1 j hj.1
      refine ⟨j, hjl, fun i hi => ?_⟩
      rw [hO.1] at hi
      have := hj.2 i hi
      rw [Nat.mul_comm] at this
      exact ((brTo_bit rows i _ (by omega) (bit_lt6 (hd _) (hO.2 i hi)) rows.length j).1 this).2.2
    · rintro ⟨j, hj, hcv⟩ h0
      have : (covN (brTo rows rows.length) live l vars.length).testBit j = true := by
        rw [covN_bit]
        refine ⟨hR.2 j hj ⟨l, hO, hcv⟩, fun i hi => ?_⟩
        rw [Nat.mul_comm]
        exact (brTo_bit rows i _ (by omega) (bit_lt6 (hd _) (hO.2 i hi)) rows.length j).2 ⟨hj, by rw [hrow j hj]; exact hi, hcv i (by rw [hO.1]; exact hi)⟩
      rw [h0] at this
      simp at this
  unfold Allow
  cases nt with
  | false =>
    simp only [Bool.false_eq_true, if_false]
    rw [← hc]
    simp
  | true =>
    simp only [if_true]
    have h2 : (∀ j, j < rows.length → ¬ Covers (rows.getD j []) l) ↔ ¬ covN (brTo rows rows.length) live l vars.length ≠ 0 := by
      rw [hc]
      exact ⟨fun a ⟨j, hj, hh⟩ => a j hj hh, fun a j hj hh => a ⟨j, hj, hh⟩⟩
    rw [h2]
    simp

set_option maxHeartbeats 1600000 in
set_option maxRecDepth 1000000 in
theorem rsAllows_any (G g cap : Nat) (lo : Option Addr) (lc : Nat) (vars ls : List Int) (l : List Nat) (nt : Bool) (br : List Nat) (live : Nat) (w : World) (hG : Blk w G (rsCells (.slice (some ⟨g, 0, none⟩) vars.length cap) nt br live) 142)
    (hv : Row w (.slice (some ⟨g, 0, none⟩) vars.length cap) 3 (vars.map (Value.int .i64))) (h24 : br.length = 24) (hbr : ∀ j, br.getD j 0 < 18446744073709551616) (hlv : live < 18446744073709551616) (h4 : vars.length ≤ 4) (hL : ListAt w lo ls vars l) :
    Calls Try.prog 112 #[.pointer (some ⟨G, 0, none⟩), .slice lo ls.length lc] w fun e w' => e = .returned (.bool ((covN br live l vars.length != 0) != nt)) ∧ ∃ m, w' = w.drewN m := by
  have HG := hd hG
  have Hv := hd hv
  have HL := hd hL
  have c0 : w.cell? ⟨G, 0, none⟩ = some (.slice (some ⟨g, 0, none⟩) vars.length cap) := hG.cell 0
  have c26 : w.cell? ⟨G, 26, none⟩ = some (.int .u64 (live : Int)) := (hG.cell 26).trans (rsCells_live _ _ _ _ h24)
  clear hG hv hL
  go_enter Try.func112, Try.ntmps112
  go_wp2_with fail
  go_loopw [5, 6, 7, 18] (fun c _ _ i wr => ∃ k : Nat, k ≤ vars.length ∧ i = .int .i64 (k : Int) ∧ c = .int .u64 ((covN br live l k : Nat) : Int) ∧ ∃ m, wr = w.drewN m) (fun _ _ _ i _ => vars.length - (intOf i).toNat)
  case atStart => exact ⟨0, by omega, rfl, rfl, 0, rfl⟩
  case round =>
    obtain ⟨k, hk, rfl, rfl, mm, hmm⟩ := hrel
    have HF : Hid (Nw w wr) := by
      rw [hmm]
      exact (Fr.refl _ w).drewN mm
    have Hmm := hd hmm
    clear hmm
    by_cases hlt : k < vars.length
    · have hdk : (k : Int) < (vars.length : Int) := by omega
      have hk4 : (k : Int) < 4 := by omega
      obtain ⟨g', cap', he, hgo, hgc, _⟩ := (Hv.out.nw HF.out).cell k (by simpa using hlt)
      simp only [List.length_map, Value.slice.injEq, Option.some.injEq, Addr.mk.injEq, and_true, true_and] at he
      obtain ⟨rfl, rfl⟩ := he
      have hgl : g < wr.heap.size := (Hv.out.nw HF.out).lt rfl
      simp only [List.getElem_map] at hgc
      obtain ⟨h1, h2, h3, h6⟩ := HL.out.get k hlt
      have hgd : vars.getD k 0 = vars[k] := by simp [List.getD, hlt]
      obtain ⟨u, hu⟩ : ∃ u : Nat, vars.getD k 0 = (u : Int) := ⟨(vars.getD k 0).toNat, by omega⟩
      rw [← hgd, hu] at hgc
      rw [hu, Int.toNat_natCast] at h1 h3
      obtain ⟨lb, lof, rfl, hlbl, hlc⟩ := (HL.out.at_.nw HF.out) u h1
      rw [h3] at hlc
      have hul : (u : Int) < (ls.length : Int) := by omega
      obtain ⟨x, hx⟩ : ∃ x, l.getD k 0 = x := ⟨_, rfl⟩
      have hx6 : (x : Int) < 6 := by omega
      have hbc : wr.cell? ⟨G, 2 + k * 6 + x, none⟩ = some (.int .u64 (br.getD (k * 6 + x) 0 : Nat)) := by
        rw [Nat.add_assoc]
        exact ((HG.out.nw HF.out).cell _).trans (rsCells_br _ _ _ _ _ (by omega))
      have hbl := hbr (k * 6 + x)
      have hcl := covN_lt br live l hlv k
      have hGl : G < wr.heap.size := (HG.out.nw HF.out).lt
      have hsucc : covN br live l (k + 1) = covN br live l k &&& br.getD (k * 6 + x) 0 := by rw [← hx]; rfl
      rw [hx] at hlc
      obtain ⟨y, hy⟩ : ∃ y, br.getD (k * 6 + x) 0 = y := ⟨_, rfl⟩
      obtain ⟨cv, hcv⟩ : ∃ cv, covN br live l k = cv := ⟨_, rfl⟩
      rw [hy] at hbc hbl hsucc
      rw [hcv] at hcl hsucc ⊢
      have hand := u64_and_nat cv y hcl hbl
      have Hand := hd hand
      have Hsucc := hd hsucc
      clear hx hy hcv hu hgd h3 h2 hgo hand hsucc
      go_wp2_with fail
      go_quiet (fail)
      go_wp2_with fail
      refine ⟨⟨k + 1, by omega, by simp, ?_, mm + nq, by rw [Hmm.out]; simp [World.drewN, Nat.add_assoc]⟩, by simp [intOf]; omega⟩
      rw [Hsucc.out, ← Hand.out]
    · obtain rfl : k = vars.length := by omega
      have hdk : ¬ ((vars.length : Int) < (vars.length : Int)) := by omega
      have c1 : wr.cell? ⟨G, 1, none⟩ = some (.bool nt) := (HG.out.nw HF.out).cell 1
      have hGl : G < wr.heap.size := (HG.out.nw HF.out).lt
      have hcl := covN_lt br live l hlv vars.length
      obtain ⟨cv, hcv⟩ : ∃ cv, covN br live l vars.length = cv := ⟨_, rfl⟩
      rw [hcv] at hcl
      have Hcv := hd hcv
      rw [Hcv.out]
      clear hcv
      go_wp2_with fail
      go_ret
      refine ⟨?_, mm, Hmm.out⟩
      rw [Hcv.out]
      have e : ((cv : Int) != 0) = (cv != 0) := by cases cv <;> rfl
      show Ending.returned (Value.bool (((cv : Int) != 0) != nt)) = _
      rw [e]

/-- The node that a diagram comes to behind k values. -/
def runD (os : List (List Nat)) (l : List Nat) (root : Nat) : Nat → Nat
  | 0 => root
  | k + 1 => nodeAt os (runD os l root k) (l.getD k 0)
theorem runD_shift (os : List (List Nat)) (l : List Nat) : ∀ (m i old : Nat), levOk os m old → os.getD 0 [] = zero6 → (∀ j, l.getD j 0 < 6) → (dAcc os m i old l ↔ (List.range m).foldl (fun at_ j => nodeAt os at_ (l.getD (i + j) 0)) old = 1)
  | 0, i, old, hl, _, _ => by simp [dAcc]
  | m + 1, i, old, hl, hz, h6 => by
    have hnext : levOk os m (nodeAt os old (l.getD i 0)) := by
      rcases hl with h | ⟨_, _, h⟩
      · subst h
        have : nodeAt os 0 (l.getD i 0) = 0 := by
          unfold nodeAt
          rw [hz]
          have := h6 i
          match l.getD i 0, this with
          | 0, _ | 1, _ | 2, _ | 3, _ | 4, _ | 5, _ => rfl
        rw [this]
        cases m with
        | zero => exact (by decide : (0 : Nat) < 2)
        | succ m => exact .inl rfl
      · exact h _ (h6 i)
    have ih := runD_shift os l m (i + 1) _ hnext hz h6
    have e : (List.range (m + 1)).foldl (fun at_ j => nodeAt os at_ (l.getD (i + j) 0)) old = (List.range m).foldl (fun at_ j => nodeAt os at_ (l.getD (i + 1 + j) 0)) (nodeAt os old (l.getD i 0)) := by
      rw [List.range_succ_eq_map, List.foldl_cons, List.foldl_map]
      simp only [Nat.add_zero, Nat.add_succ, Nat.succ_add]
    rw [e, ← ih]
    show (2 ≤ old ∧ dAcc os m (i + 1) (nodeAt os old (l.getD i 0)) l) ↔ dAcc os m (i + 1) (nodeAt os old (l.getD i 0)) l
    constructor
    · exact fun h => h.2
    · intro h
      rcases hl with h' | ⟨h2, _⟩
      · subst h'
        have h0 : nodeAt os 0 (l.getD i 0) = 0 := by
          unfold nodeAt
          rw [hz]
          have := h6 i
          match l.getD i 0, this with
          | 0, _ | 1, _ | 2, _ | 3, _ | 4, _ | 5, _ => rfl
        rw [h0] at h
        exact absurd h (dAcc_zero _ _ _ _)
      · exact ⟨h2, h⟩
theorem runD_fold (os : List (List Nat)) (l : List Nat) (root : Nat) : ∀ k, runD os l root k = (List.range k).foldl (fun at_ j => nodeAt os at_ (l.getD (0 + j) 0)) root
  | 0 => rfl
  | k + 1 => by
    rw [List.range_succ, List.foldl_append, ← runD_fold os l root k]
    simp [runD]
theorem runD_sem {os : List (List Nat)} {l : List Nat} {root m : Nat} (hl : levOk os m root) (hz : os.getD 0 [] = zero6) (h6 : ∀ j, l.getD j 0 < 6) : dAcc os m 0 root l ↔ runD os l root m = 1 := by
  rw [runD_shift os l m 0 root hl hz h6, ← runD_fold]
theorem runD_lt {os : List (List Nat)} {l : List Nat} (h2 : 2 ≤ os.length) (hz : os.getD 0 [] = zero6) (h6 : ∀ j, l.getD j 0 < 6) {root m : Nat} (hl : levOk os m root) : ∀ k, k ≤ m → levOk os (m - k) (runD os l root k)
  | 0, _ => hl
  | k + 1, hk => by
    have ih := runD_lt h2 hz h6 hl k (by omega)
    rw [show m - k = (m - (k + 1)) + 1 by omega] at ih
    rcases ih with h | ⟨_, _, h⟩
    · unfold runD
      rw [h]
      have h0 : nodeAt os 0 (l.getD k 0) = 0 := by
        unfold nodeAt
        rw [hz]
        have := h6 k
        match l.getD k 0, this with
        | 0, _ | 1, _ | 2, _ | 3, _ | 4, _ | 5, _ => rfl
      rw [h0]
      cases m - (k + 1) with
      | zero => exact (by decide : (0 : Nat) < 2)
      | succ m => exact .inl rfl
    · exact h _ (h6 k)
theorem levOk_lt {os : List (List Nat)} {m k : Nat} (h2 : 2 ≤ os.length) (h : levOk os m k) : k < os.length := by
  cases m with
  | zero => exact Nat.lt_of_lt_of_le h h2
  | succ m => rcases h with h | ⟨_, h, _⟩ <;> omega
theorem node_small {os : List (List Nat)} (hok : ∀ n ∈ os, NodeOk n) (old v : Nat) (h : old < os.length) (hv : v < 6) : nodeAt os old v < 9223372036854775808 := by
  have hm : os.getD old [] ∈ os := by
    simp only [List.getD, List.getElem?_eq_getElem h, Option.getD_some]
    exact List.getElem_mem h
  have hn := hok _ hm
  unfold nodeAt
  have e : (os.getD old []).getD v 0 = (os.getD old [])[v]'(by rw [hn.1]; exact hv) := by
    generalize os.getD old [] = n at hn ⊢
    simp [List.getD, hn.1, hv]
  rw [e]
  exact Nat.lt_trans (hn.2 _ (List.getElem_mem _)) (by decide)

set_option maxHeartbeats 1600000 in
set_option maxRecDepth 1000000 in
theorem dgAllows_any (G g cap : Nat) (lo : Option Addr) (lc : Nat) (vars ls : List Int) (l : List Nat) (nv : Value) (os : List (List Nat)) (root : Nat) (w : World) (hD : DAt w G g cap nv vars os root) (hlev : levOk os vars.length root) (hz : os.getD 0 [] = zero6) (h4 : vars.length ≤ 4)
    (hL : ListAt w lo ls vars l) (h6 : ∀ j, l.getD j 0 < 6) :
    Calls Try.prog 104 #[.pointer (some ⟨G, 0, none⟩), .slice lo ls.length lc] w fun e w' => e = .returned (.bool (runD os l root vars.length == 1)) ∧ ∃ m, w' = w.drewN m := by
  have HD := hd hD
  have HL := hd hL
  have c0 : w.cell? ⟨G, 0, none⟩ = some (.slice (some ⟨g, 0, none⟩) vars.length cap) := hD.blk.cell 0
  have c2 : w.cell? ⟨G, 2, none⟩ = some (.int .i64 (root : Int)) := hD.blk.cell 2
  have hon : ∃ og ocap, nv = .slice (some ⟨og, 0, none⟩) os.length ocap := by
    rcases hD.row.2 with ⟨_, h0⟩ | ⟨og, ocap, cur, h1, _⟩
    · have := hD.two
      omega
    · exact ⟨og, ocap, h1⟩
  obtain ⟨og, ocap, rfl⟩ := hon
  have hcells : ∀ (w' : World), Nw w w' → ∀ old v, old < os.length → v < 6 → w'.cell? ⟨og, old * 6 + v, none⟩ = some (.int .i64 (nodeAt os old v : Nat)) := fun w' hf old v h1 h2 => by
    have := (ownsRow.fr hD.row hf (fun _ _ x => x)).cells (g := og) rfl (old * 6 + v) _ (flat_cell os hD.ok old v h1 h2)
    rw [WideShapes.add_plain, Nat.zero_add] at this
    exact this
  have hogl : ∀ (w' : World), Nw w w' → og < w'.heap.size := fun w' hf => by
    have := World.ownsRow.lt (ownsRow.fr hD.row hf (fun _ _ x => x)) og rfl
    exact this.2
  have Hcells := hd hcells
  have Hogl := hd hogl
  have hrun := fun k hk => runD_lt hD.two hz h6 hlev k hk
  have Hrun := hd hrun
  have h2os := hD.two
  have Hz := hd hz
  clear hD hL hcells hogl hrun hz
  go_enter Try.func104, Try.ntmps104
  go_wp2_with fail
  go_loopw [5, 7, 18] (fun c _ i wr => ∃ k : Nat, k ≤ vars.length ∧ i = .int .i64 (k : Int) ∧ c = .int .i64 ((runD os l root k : Nat) : Int) ∧ ∃ m, wr = w.drewN m) (fun _ _ i _ => vars.length - (intOf i).toNat)
  case atStart => exact ⟨0, by omega, rfl, rfl, 0, rfl⟩
  case round =>
    obtain ⟨k, hk, rfl, rfl, mm, hmm⟩ := hrel
    have HF : Hid (Nw w wr) := by
      rw [hmm]
      exact (Fr.refl _ w).drewN mm
    have Hmm := hd hmm
    clear hmm
    have hat := levOk_lt h2os (Hrun.out k hk)
    by_cases hlt : k < vars.length
    · have hdk : (k : Int) < (vars.length : Int) := by omega
      obtain ⟨g', cap', he, hgo, hgc, _⟩ := (HD.out.rv.nw HF.out).cell k (by simpa using hlt)
      simp only [List.length_map, Value.slice.injEq, Option.some.injEq, Addr.mk.injEq, and_true, true_and] at he
      obtain ⟨rfl, rfl⟩ := he
      have hgl : g < wr.heap.size := (HD.out.rv.nw HF.out).lt rfl
      simp only [List.getElem_map] at hgc
      obtain ⟨h1, h2, h3, h6'⟩ := HL.out.get k hlt
      have hgd : vars.getD k 0 = vars[k] := by simp [List.getD, hlt]
      obtain ⟨u, hu⟩ : ∃ u : Nat, vars.getD k 0 = (u : Int) := ⟨(vars.getD k 0).toNat, by omega⟩
      rw [← hgd, hu] at hgc
      rw [hu, Int.toNat_natCast] at h1 h3
      obtain ⟨lb, lof, rfl, hlbl, hlc⟩ := (HL.out.at_.nw HF.out) u h1
      rw [h3] at hlc
      have hul : (u : Int) < (ls.length : Int) := by omega
      have hsucc : runD os l root (k + 1) = nodeAt os (runD os l root k) (l.getD k 0) := rfl
      obtain ⟨x, hx⟩ : ∃ x, l.getD k 0 = x := ⟨_, rfl⟩
      obtain ⟨a, ha⟩ : ∃ a, runD os l root k = a := ⟨_, rfl⟩
      rw [hx] at h6' hlc hsucc
      rw [ha] at hat hsucc ⊢
      have hx6 : (x : Int) < 6 := by omega
      have hal : (a : Int) < (os.length : Int) := by omega
      have hbc := Hcells.out wr HF.out a x hat h6'
      have hogw := Hogl.out wr HF.out
      have hsm := node_small HD.out.ok a x hat h6'
      have c1 : wr.cell? ⟨G, 1, none⟩ = some (.slice (some ⟨og, 0, none⟩) os.length ocap) := (HD.out.blk.nw HF.out).cell 1
      have hGl : G < wr.heap.size := (HD.out.blk.nw HF.out).lt
      obtain ⟨y, hy⟩ : ∃ y, nodeAt os a x = y := ⟨_, rfl⟩
      rw [hy] at hbc hsm hsucc
      have Hsucc := hd hsucc
      clear hx ha hy hu hgd h3 h2 hgo hsucc
      go_wp2_with fail
      go_quiet (fail)
      go_wp2_with fail
      refine ⟨⟨k + 1, by omega, by simp, ?_, mm + nq, by rw [Hmm.out]; simp [World.drewN, Nat.add_assoc]⟩, by simp [intOf]; omega⟩
      rw [Hsucc.out]
    · obtain rfl : k = vars.length := by omega
      have hdk : ¬ ((vars.length : Int) < (vars.length : Int)) := by omega
      obtain ⟨a, ha⟩ : ∃ a, runD os l root vars.length = a := ⟨_, rfl⟩
      have Ha := hd ha
      rw [Ha.out]
      clear ha
      go_wp2_with fail
      go_ret
      refine ⟨?_, mm, Hmm.out⟩
      have e : ((a : Int) == 1) = (a == 1) := by
        rw [Bool.eq_iff_iff, beq_iff_eq, beq_iff_eq]
        omega
      rw [Ha.out, ← e]
      rfl
end Go.Proofs.Ytkjfpdfkcfgfkaa

/- Solutions: Last, and how a table's methods are found. -/
namespace Go.Proofs.Ytkjfpdfkcfgfkaa
open Go.RowKit

/-- The greatest of the first k numbers (of one at least). -/
def maxTo (l : List Int) : Nat → Int
  | 0 => l.getD 0 0
  | k + 1 => max (maxTo l k) (l.getD k 0)
/-- The greatest variable of a table. -/
def lastOf (vars : List Int) : Int := maxTo vars vars.length
theorem maxTo_ge (l : List Int) : ∀ k i, i < k → l.getD i 0 ≤ maxTo l k
  | 0, i, h => absurd h (Nat.not_lt_zero _)
  | k + 1, i, h => by
    unfold maxTo
    rcases Nat.lt_succ_iff_lt_or_eq.1 h with h' | h'
    · have := maxTo_ge l k i h'
      omega
    · subst h'
      omega
theorem maxTo_mem (l : List Int) : ∀ k, 0 < k → ∃ i, i < k ∧ maxTo l k = l.getD i 0
  | 0, h => absurd h (Nat.lt_irrefl _)
  | 1, _ => ⟨0, by omega, by simp [maxTo]⟩
  | k + 2, _ => by
    obtain ⟨i, hi, he⟩ := maxTo_mem l (k + 1) (by omega)
    by_cases h : maxTo l (k + 1) ≤ l.getD (k + 1) 0
    · exact ⟨k + 1, by omega, by unfold maxTo; omega⟩
    · exact ⟨i, by omega, by rw [← he]; show max (maxTo l (k + 1)) (l.getD (k + 1) 0) = _; omega⟩

set_option maxHeartbeats 800000 in
set_option maxRecDepth 1000000 in
theorem smax_any (b o cap : Nat) (l : List Int) (w : World) (h1 : 1 ≤ l.length) (h4 : l.length ≤ 4) (h : IntsAt w (some ⟨b, o, none⟩) l) :
    Calls Try.prog 109 #[.slice (some ⟨b, o, none⟩) l.length cap] w fun e w' => e = .returned (.int .i64 (lastOf l)) ∧ w' = w := by
  have Hh := hd h
  obtain ⟨b', o', he, hbl, hc0⟩ := h 0 (by omega)
  simp only [Option.some.injEq, Addr.mk.injEq, and_true] at he
  obtain ⟨rfl, rfl⟩ := he
  rw [Nat.add_zero] at hc0
  clear h
  go_enter Try.func109, Try.ntmps109
  go_wp2_with fail
  go_loopw [3, 4] (fun m i wr => wr = w ∧ ∃ k : Nat, 1 ≤ k ∧ k ≤ l.length ∧ i = .int .i64 (k : Int) ∧ m = .int .i64 (maxTo l k)) (fun _ i _ => l.length - (intOf i).toNat)
  case atStart => exact ⟨rfl, 1, by omega, by omega, rfl, by simp [maxTo]⟩
  case round =>
    obtain ⟨rfl, k, hk1, hk, rfl, rfl⟩ := hrel
    by_cases hlt : k < l.length
    · have hdk : (k : Int) < (l.length : Int) := by omega
      obtain ⟨b', o', he, _, hck⟩ := Hh.out k hlt
      simp only [Option.some.injEq, Addr.mk.injEq, and_true] at he
      obtain ⟨rfl, rfl⟩ := he
      have hs : maxTo l (k + 1) = max (maxTo l k) (l.getD k 0) := rfl
      obtain ⟨x, hx⟩ : ∃ x, l.getD k 0 = x := ⟨_, rfl⟩
      obtain ⟨m, hm⟩ : ∃ m, maxTo l k = m := ⟨_, rfl⟩
      rw [hx] at hck hs
      rw [hm] at hs ⊢
      have Hs := hd hs
      clear hx hm hs
      go_wp2_with fail
      refine ⟨⟨trivial, k + 1, by omega, by omega, by simp, ?_⟩, by simp [intOf]; omega⟩
      rw [Hs.out]
      congr 1
      split <;> omega
    · obtain rfl : k = l.length := by omega
      have hdk : ¬ ((l.length : Int) < (l.length : Int)) := by omega
      go_wp2_with fail
      go_ret
      exact ⟨rfl, rfl⟩

set_option maxHeartbeats 800000 in
set_option maxRecDepth 1000000 in
theorem last_any (b o cap : Nat) (l : List Int) (w : World) (h1 : 1 ≤ l.length) (h4 : l.length ≤ 4) (h : IntsAt w (some ⟨b, o, none⟩) l) :
    Calls Try.prog 106 #[.agg #[.slice (some ⟨b, o, none⟩) l.length cap]] w fun e w' => e = .returned (.int .i64 (lastOf l)) ∧ Nw w w' := by
  have hf : Nw w (w.alloc (.cells #[.slice (some ⟨b, o, none⟩) l.length cap] 129)) := (Fr.refl _ w).alloc _
  have Hh := hd (h.nw hf)
  clear h
  go_enter Try.func106, Try.ntmps106
  go_wp2_with (go_at_call 109; refine (smax_any b o cap l _ h1 h4 Hh.out).mono ?_; rintro e w' ⟨rfl, rfl⟩)
  go_ret
  exact ⟨rfl, hf⟩
theorem meth_last (G : Nat) (v : Value) (W : World) (h : W.cell? ⟨G, 0, none⟩ = some v) :
    (method 286 115 (.pointer (some ⟨G, 0, none⟩)) "Last").run Try.prog W = .ok (106, .agg #[v]) W := by
  have h1 : (method 286 115 (.pointer (some ⟨G, 0, none⟩)) "Last").run Try.prog W =
      match W.cell? ⟨G, 0, none⟩ with
      | some v => .ok (106, .agg #[v]) W
      | none => match W.farLoad Try.prog ⟨G, 0, none⟩ (Mode.plain == .atomic) with
        | .ok (v, _) => .ok (106, .agg #[v]) W
        | .error h => .halt h W := by kernel_rfl
  rw [h1, h]
theorem meth_dlast (G : Nat) (v : Value) (W : World) (h : W.cell? ⟨G, 0, none⟩ = some v) :
    (method 286 113 (.pointer (some ⟨G, 0, none⟩)) "Last").run Try.prog W = .ok (106, .agg #[v]) W := by
  have h1 : (method 286 113 (.pointer (some ⟨G, 0, none⟩)) "Last").run Try.prog W =
      match W.cell? ⟨G, 0, none⟩ with
      | some v => .ok (106, .agg #[v]) W
      | none => match W.farLoad Try.prog ⟨G, 0, none⟩ (Mode.plain == .atomic) with
        | .ok (v, _) => .ok (106, .agg #[v]) W
        | .error h => .halt h W := by kernel_rfl
  rw [h1, h]
theorem TS.meth_last (t : TS) (G : Nat) (v : Value) (W : World) (h : W.cell? ⟨G, 0, none⟩ = some v) : (method 286 t.ty (.pointer (some ⟨G, 0, none⟩)) "Last").run Try.prog W = .ok (106, .agg #[v]) W := by
  cases t with
  | rs nt br live => exact Go.Proofs.Ytkjfpdfkcfgfkaa.meth_last G v W h
  | dg nv os root => exact meth_dlast G v W h
theorem meth_allows (G : Nat) (W : World) : (method 286 115 (.pointer (some ⟨G, 0, none⟩)) "Allows").run Try.prog W = .ok (112, .pointer (some ⟨G, 0, none⟩)) W := by kernel_rfl
theorem meth_dallows (G : Nat) (W : World) : (method 286 113 (.pointer (some ⟨G, 0, none⟩)) "Allows").run Try.prog W = .ok (104, .pointer (some ⟨G, 0, none⟩)) W := by kernel_rfl
def TS.fnAllows : TS → FuncId
  | .rs .. => 112
  | .dg .. => 104
/-- Allows of a table of either way. -/
theorem allowsT_any (G g cap : Nat) (b : Tb) (t : TS) (lo : Option Addr) (lc : Nat) (ls : List Int) (l : List Nat) (dn : List Nat) (w : World) (hb : b.Ok) (hdm : Dm dn) (hT : TAt w G g cap b.vars t) (hR : TRep b dn t) (hL : ListAt w lo ls b.vars l) (hO : OutOf b.vars dn l) :
    Calls Try.prog t.fnAllows #[.pointer (some ⟨G, 0, none⟩), .slice lo ls.length lc] w fun e w' => e = .returned (.bool (allowB b.rows b.nt l)) ∧ ∃ m, w' = w.drewN m := by
  have h6 : ∀ j, l.getD j 0 < 6 := fun j => by
    by_cases hj : j < b.vars.length
    · exact bit_lt6 (hdm.lt _) (hO.2 j hj)
    · have : l.getD j 0 = 0 := by
        simp only [List.getD]
        rw [List.getElem?_eq_none (by rw [hO.1]; omega)]
        rfl
      rw [this]
      decide
  cases t with
  | rs nt br live =>
    obtain ⟨rfl, rfl, hRs⟩ := hR
    obtain ⟨h1, h2, h3, h4, h5, _⟩ := hT
    refine (rsAllows_any G g cap lo lc b.vars ls l b.nt _ live w h1 h2 h3 h4 h5 hb.vars.four hL).mono ?_
    rintro e w' ⟨rfl, hf⟩
    refine ⟨?_, hf⟩
    have h7 : ((covN (brTo b.rows b.rows.length) live l b.vars.length != 0) != b.nt) = allowB b.rows b.nt l := by
      rw [Bool.eq_iff_iff, covN_sem hb.vars.four hdm.lt hb.rows hRs hO b.nt, allowB_iff]
    rw [h7]
  | dg nv os root =>
    obtain ⟨hnz, hlev, hD, hz⟩ := hR
    obtain ⟨h1, _, _, _⟩ := hT
    refine (dgAllows_any G g cap lo lc b.vars ls l nv os root w h1 hlev hz hb.vars.four hL h6).mono ?_
    rintro e w' ⟨rfl, hf⟩
    refine ⟨?_, hf⟩
    have h7 : (runD os l root b.vars.length == 1) = allowB b.rows b.nt l := by
      rw [Bool.eq_iff_iff, beq_iff_eq, ← runD_sem hlev hz h6, allowB_iff]
      exact hD l hO
    rw [h7]
end Go.Proofs.Ytkjfpdfkcfgfkaa

/- Supported: what a table allows, by the statement's own reckoning. -/
namespace Go.Proofs.Ytkjfpdfkcfgfkaa
open Go.RowKit

/-- An entry of a row stands for a number. -/
def entB (r x : Int) : Bool := r == -1 || r == x
def covTo (row vars ls : List Int) (k : Nat) : Bool := (List.range k).all (fun i => entB (row.getD i 0) (ls.getD (vars.getD i 0).toNat 0))
theorem covTo_succ (row vars ls : List Int) (k : Nat) : covTo row vars ls (k + 1) = (covTo row vars ls k && entB (row.getD k 0) (ls.getD (vars.getD k 0).toNat 0)) := by simp [covTo, List.range_succ]
/-- Does one of the first k rows cover it? -/
def covAny (rows : List (List Int)) (vars ls : List Int) (k : Nat) : Bool := (List.range k).any (fun j => covTo (rows.getD j []) vars ls vars.length)
theorem covAny_succ (rows : List (List Int)) (vars ls : List Int) (k : Nat) : covAny rows vars ls (k + 1) = (covAny rows vars ls k || covTo (rows.getD k []) vars ls vars.length) := by simp [covAny, List.range_succ]
def allowI (rows : List (List Int)) (vars ls : List Int) (nt : Bool) : Bool := if covAny rows vars ls rows.length then !nt else nt

set_option maxHeartbeats 1600000 in
set_option maxRecDepth 1000000 in
theorem allows_any (vo ro lo : Option Addr) (vcap rcap lc : Nat) (vars ls : List Int) (rows : List (List Int)) (nt : Bool) (way : Int) (w : World) (hv4 : vars.length ≤ 4) (hrl : rows.length ≤ 60)
    (hvin : ∀ i, i < vars.length → 0 ≤ vars.getD i 0 ∧ vars.getD i 0 < ls.length) (hrow : ∀ j, j < rows.length → (rows.getD j []).length = vars.length) (hvs : IntsAt w vo vars) (hrs : RowsAt w ro rows) (hls : IntsAt w lo ls) :
    Calls Try.prog 45 #[.agg #[.slice vo vars.length vcap, .slice ro rows.length rcap, .bool nt, .int .i64 way], .slice lo ls.length lc] w fun e w' => e = .returned (.bool (allowI rows vars ls nt)) ∧ Nw w w' := by
  obtain ⟨B, hB⟩ : ∃ B, B = w.heap.size := ⟨_, rfl⟩
  obtain ⟨W, hW⟩ : ∃ W, W = w.alloc (.cells #[.slice vo vars.length vcap, .slice ro rows.length rcap, .bool nt, .int .i64 way] 58) := ⟨_, rfl⟩
  have hfW : Nw w W := by rw [hW]; exact (Fr.refl _ w).alloc _
  have hbB : Blk W B #[.slice vo vars.length vcap, .slice ro rows.length rcap, .bool nt, .int .i64 way] 58 := by rw [hW, hB]; exact Blk.new _ _ _
  have Hvs := hd (hvs.nw hfW)
  have Hrs := hd (hrs.nw hfW)
  have Hls := hd (hls.nw hfW)
  have HfW := hd hfW
  have HbB := hd hbB
  clear hvs hrs hls hfW hbB
  go_enter Try.func45, Try.ntmps45
  go_upto_region 1 with fail
  rw [← hW, ← hB]
  clear hW hB
  go_wp2_with fail
  go_loopw [5, 6, 7] (fun r _ _ wr => ∃ k : Nat, k ≤ rows.length ∧ r = .int .i64 (k : Int) ∧ covAny rows vars ls k = false ∧ Hid (Nw W wr)) (fun r _ _ _ => rows.length - (intOf r).toNat)
  case atStart => exact ⟨0, by omega, rfl, rfl, Fr.refl _ _⟩
  case round =>
    obtain ⟨k, hk, rfl, hcov, HF⟩ := hrel
    have hB1 := HbB.out.nw HF.out
    have hBl := hB1.lt
    have c1 : wr.cell? ⟨B, 1, none⟩ = some (.slice ro rows.length rcap) := hB1.cell 1
    have c2 : wr.cell? ⟨B, 2, none⟩ = some (.bool nt) := hB1.cell 2
    have c0 : wr.cell? ⟨B, 0, none⟩ = some (.slice vo vars.length vcap) := hB1.cell 0
    clear hB1
    have Hcov := hd hcov
    clear hcov
    by_cases hlt : k < rows.length
    · have hd1 : (k : Int) < (rows.length : Int) := by omega
      obtain ⟨rb, rof, qo, qc, hre, hrbl, hrc, hRow⟩ := (Hrs.out.nw HF.out) k hlt
      have hrlen := hrow k hlt
      have Hsucc := hd (covAny_succ rows vars ls k)
      obtain ⟨row, hrv⟩ : ∃ row, rows.getD k [] = row := ⟨_, rfl⟩
      rw [hrv] at hrc hRow hrlen Hsucc
      rw [hrlen] at hrc
      subst hre
      have HRow := hd hRow
      clear hrv hRow
      go_wp2_with fail
      go_loopw [6, 7] (fun ok i w1 => ∃ q : Nat, q ≤ vars.length ∧ i = .int .i64 (q : Int) ∧ ok = .bool (covTo row vars ls q) ∧ Hid (Nw wr w1)) (fun _ i _ => vars.length - (intOf i).toNat)
      case atStart => exact ⟨0, by omega, rfl, rfl, Fr.refl _ _⟩
      case round =>
        rename World => w1
        obtain ⟨q, hq, rfl, rfl, HF1⟩ := hrel
        have hB1 := (HbB.out.nw HF.out).nw HF1.out
        have hBl1 := hB1.lt
        have d1 : w1.cell? ⟨B, 1, none⟩ = some (.slice (some ⟨rb, rof, none⟩) rows.length rcap) := hB1.cell 1
        have d2 : w1.cell? ⟨B, 2, none⟩ = some (.bool nt) := hB1.cell 2
        have d0 : w1.cell? ⟨B, 0, none⟩ = some (.slice vo vars.length vcap) := hB1.cell 0
        clear hB1
        by_cases hql : q < vars.length
        · have hdq : (q : Int) < (vars.length : Int) := by omega
          have Hcs := hd (covTo_succ row vars ls q)
          obtain ⟨vb, vof, hve, hvbl, hvc⟩ := ((Hvs.out.nw HF.out).nw HF1.out) q hql
          obtain ⟨hvr1, hvr2⟩ := hvin q hql
          obtain ⟨u, hu⟩ : ∃ u : Nat, vars.getD q 0 = (u : Int) := ⟨(vars.getD q 0).toNat, by omega⟩
          rw [hu] at hvc hvr2 Hcs
          rw [Int.toNat_natCast] at Hcs
          obtain ⟨lb, lof, hle, hlbl, hlc⟩ := ((Hls.out.nw HF.out).nw HF1.out) u (by omega)
          obtain ⟨qb, qof, hqe, hqbl, hqc⟩ := (HRow.out.nw HF1.out) q (by omega)
          have drc : w1.cell? ⟨rb, rof + k, none⟩ = some (.slice qo vars.length qc) := (HF1.out.cell hrbl (fun x => x)).trans hrc
          have hrbl1 : rb < w1.heap.size := Nat.lt_of_lt_of_le hrbl HF1.out.size
          obtain ⟨x, hx⟩ : ∃ x, ls.getD u 0 = x := ⟨_, rfl⟩
          obtain ⟨y, hy⟩ : ∃ y, row.getD q 0 = y := ⟨_, rfl⟩
          rw [hx] at hlc Hcs
          rw [hy] at hqc Hcs
          have hul : (u : Int) < (ls.length : Int) := hvr2
          subst hve
          subst hle
          subst hqe
          clear hu hx hy hrc
          cases hct : covTo row vars ls q with
          | false =>
            rw [hct] at Hcs
            go_wp2_with fail
            go_quiet (fail)
            go_wp2_with fail
            refine ⟨⟨q + 1, by omega, by simp, ?_, HF1.out.drewN _⟩, by simp [intOf]; omega⟩
            rw [Hcs.out]
            simp
          | true =>
            rw [hct] at Hcs
            by_cases hy1 : y = -1
            · have hyb : (y == -1) = true := by simp [hy1]
              have hen : entB y x = true := by simp [entB, hyb]
              rw [hen] at Hcs
              clear hen
              go_wp2_with fail
              go_quiet (fail)
              go_wp2_with fail
              refine ⟨⟨q + 1, by omega, by simp, ?_, HF1.out.drewN _⟩, by simp [intOf]; omega⟩
              rw [Hcs.out]
              simp
            · have hyb : (y == -1) = false := by simp [hy1]
              by_cases hyx : y = x
              · subst hyx
                have hen : entB y y = true := by simp [entB]
                rw [hen] at Hcs
                clear hen
                go_wp2_with fail
                go_quiet (fail)
                go_wp2_with fail
                refine ⟨⟨q + 1, by omega, by simp, ?_, HF1.out.drewN _⟩, by simp [intOf]; omega⟩
                rw [Hcs.out]
                simp
              · have hyc : (y == x) = false := by simp [hyx]
                have hen : entB y x = false := by simp [entB, hyc, hyb]
                rw [hen] at Hcs
                clear hen
                go_wp2_with fail
                go_quiet (fail)
                go_wp2_with fail
                refine ⟨⟨q + 1, by omega, by simp, ?_, HF1.out.drewN _⟩, by simp [intOf]; omega⟩
                rw [Hcs.out]
                simp
        · obtain rfl : q = vars.length := by omega
          have hdq : ¬ ((vars.length : Int) < (vars.length : Int)) := by omega
          cases hct : covTo row vars ls vars.length with
          | true =>
            go_wp2_with fail
            go_ret
            refine ⟨?_, (HfW.out.trans HF.out (fun _ x => x.elim)).trans HF1.out (fun _ x => x.elim)⟩
            have hall : covAny rows vars ls rows.length = true := by
              unfold covAny
              rw [List.any_eq_true]
              refine ⟨k, List.mem_range.2 hlt, ?_⟩
              have e1 := Hsucc.out
              have e2 := Hcov.out
              rw [e2, hct] at e1
              unfold covAny at e1 e2
              rw [List.range_succ, List.any_append, e2] at e1
              simpa using e1
            unfold allowI
            rw [hall]
            rfl
          | false =>
            rw [hct, Hcov.out] at Hsucc
            go_wp2_with fail
            exact ⟨⟨k + 1, by omega, by simp, Hsucc.out, HF.out.trans HF1.out (fun _ x => x.elim)⟩, by simp [intOf]; omega⟩
    · obtain rfl : k = rows.length := by omega
      have hd1 : ¬ ((rows.length : Int) < (rows.length : Int)) := by omega
      go_wp2_with fail
      go_ret
      refine ⟨?_, HfW.out.trans HF.out (fun _ x => x.elim)⟩
      unfold allowI
      rw [Hcov.out]
      rfl
end Go.Proofs.Ytkjfpdfkcfgfkaa

/- Supported: is there a list, out of what is left, that the table allows? -/
namespace Go.Proofs.Ytkjfpdfkcfgfkaa
open Go.RowKit

/-- What a call of stands looks into. -/
structure StEnv where
  vo : Option Addr
  ro : Option Addr
  lo : Option Addr
  vcap : Nat
  rcap : Nat
  lcap : Nat
  vars : List Int
  rows : List (List Int)
  left : List (List Int)
  nt : Bool
  way : Int
  v : Int
  value : Int
structure StEnv.Ok (E : StEnv) (W0 : World) (n : Nat) : Prop where
  v4 : E.vars.length ≤ 4
  rl : E.rows.length ≤ 60
  n8 : n ≤ 8
  ll : E.left.length = n
  vin : ∀ i, i < E.vars.length → 0 ≤ E.vars.getD i 0 ∧ E.vars.getD i 0 < n
  one : ∀ i k, i < E.vars.length → k < E.vars.length → E.vars.getD i 0 = E.vars.getD k 0 → i = k
  row : ∀ j, j < E.rows.length → (E.rows.getD j []).length = E.vars.length
  few : ∀ u, u < n → (E.left.getD u []).length ≤ 8
  vs : IntsAt W0 E.vo E.vars
  rs : RowsAt W0 E.ro E.rows
  ls : RowsAt W0 E.lo E.left
/-- There is a list that goes on from s, from the table's variable number i on. -/
def StEnv.Ex (E : StEnv) (i : Nat) (s : List Int) : Prop := ∃ l : List Int, l.length = s.length ∧ (∀ k, k < i → k < E.vars.length → l.getD (E.vars.getD k 0).toNat 0 = s.getD (E.vars.getD k 0).toNat 0) ∧
  (∀ k, i ≤ k → k < E.vars.length → l.getD (E.vars.getD k 0).toNat 0 ∈ E.left.getD (E.vars.getD k 0).toNat [] ∧ (E.vars.getD k 0 = E.v → l.getD (E.vars.getD k 0).toNat 0 = E.value)) ∧ allowI E.rows E.vars l E.nt = true
theorem covTo_congr {row vars l s : List Int} {k : Nat} (h : ∀ i, i < k → l.getD (vars.getD i 0).toNat 0 = s.getD (vars.getD i 0).toNat 0) : covTo row vars l k = covTo row vars s k := by
  unfold covTo
  rw [Bool.eq_iff_iff, List.all_eq_true, List.all_eq_true]
  constructor
  · intro hh i hi
    rw [← h i (List.mem_range.1 hi)]
    exact hh i hi
  · intro hh i hi
    rw [h i (List.mem_range.1 hi)]
    exact hh i hi
theorem allowI_congr {rows : List (List Int)} {vars l s : List Int} {nt : Bool} (h : ∀ i, i < vars.length → l.getD (vars.getD i 0).toNat 0 = s.getD (vars.getD i 0).toNat 0) : allowI rows vars l nt = allowI rows vars s nt := by
  have e : covAny rows vars l rows.length = covAny rows vars s rows.length := by
    unfold covAny
    congr 1
    funext j
    exact covTo_congr h
  unfold allowI
  rw [e]
theorem getD_int (l : List Int) (k : Nat) (h : k < l.length) : l.getD k 0 = l[k] := by simp [List.getD, h]
def intsV (l : List Int) : Array Value := (l.map (Value.int .i64)).toArray
theorem intsV_get (l : List Int) (i : Nat) (h : i < l.length) : (intsV l)[i]? = some (.int .i64 (l.getD i 0)) := by simp [intsV, h]
theorem intsV_set (l : List Int) (i : Nat) (x : Int) : (intsV l).setIfInBounds i (.int .i64 x) = intsV (l.set i x) := by simp [intsV, List.map_set]
theorem setI_get (l : List Int) (u q : Nat) (x : Int) (hu : u < l.length) : (l.set u x).getD q 0 = if u = q then x else l.getD q 0 := by
  by_cases e : u = q
  · subst e
    simp [List.getD, hu]
  · simp [List.getD, e]

/-- What a call of stands leaves: it says true, if there is such a list; of s it writes what was not chosen ahead of i. -/
structure StPost (E : StEnv) (Sb n i : Nat) (s : List Int) (w : World) (e : Ending) (w' : World) : Prop where
  out : ∃ b s', e = .returned (.bool b) ∧ (E.Ex i s → b = true) ∧ s'.length = n ∧ Blk w' Sb (intsV s') 3 ∧ Fr (fun k => k = Sb) w w' ∧ ∀ k, k < i → k < E.vars.length → s'.getD (E.vars.getD k 0).toNat 0 = s.getD (E.vars.getD k 0).toNat 0

set_option maxHeartbeats 3200000 in
set_option maxRecDepth 1000000 in
theorem stands_any (E : StEnv) (W0 : World) (Sb : Nat) (n sc : Nat) (hE : E.Ok W0 n) (hSb : W0.heap.size ≤ Sb) : ∀ (m i : Nat) (s : List Int) (w : World), i + m = E.vars.length → s.length = n → Nw W0 w → Blk w Sb (intsV s) 3 →
    Calls Try.prog 42 #[.agg #[.slice E.vo E.vars.length E.vcap, .slice E.ro E.rows.length E.rcap, .bool E.nt, .int .i64 E.way], .slice E.lo n E.lcap, .slice (some ⟨Sb, 0, none⟩) n sc, .int .i64 (i : Int), .int .i64 E.v, .int .i64 E.value] w
      fun e w' => StPost E Sb n i s w e w' := by
  intro m
  induction m with
  | zero =>
    intro i s w him hsl hW0 hS
    obtain rfl : i = E.vars.length := by omega
    subst hsl
    obtain ⟨vo, ro, lo, vcap, rcap, lcap, vars, rows, left, nt, way, v, value⟩ := E
    have hE' := hE
    obtain ⟨v4, rl, n8, ll, vin, one, row, few, vs, rs, lsw⟩ := hE
    dsimp only at v4 rl n8 ll vin one row few vs rs lsw
    dsimp only
    obtain ⟨B, hB⟩ : ∃ B, B = w.heap.size := ⟨_, rfl⟩
    obtain ⟨W, hW⟩ : ∃ W, W = w.alloc (.cells #[.slice vo vars.length vcap, .slice ro rows.length rcap, .bool nt, .int .i64 way] 58) := ⟨_, rfl⟩
    have hfW : Nw w W := by rw [hW]; exact (Fr.refl _ w).alloc _
    have hbB : Blk W B #[.slice vo vars.length vcap, .slice ro rows.length rcap, .bool nt, .int .i64 way] 58 := by rw [hW, hB]; exact Blk.new _ _ _
    have c0 : W.cell? ⟨B, 0, none⟩ = some (.slice vo vars.length vcap) := hbB.cell 0
    have c1 : W.cell? ⟨B, 1, none⟩ = some (.slice ro rows.length rcap) := hbB.cell 1
    have c2 : W.cell? ⟨B, 2, none⟩ = some (.bool nt) := hbB.cell 2
    have c3 : W.cell? ⟨B, 3, none⟩ = some (.int .i64 way) := hbB.cell 3
    have hBl := hbB.lt
    have hN := hW0.trans hfW (fun _ x => x.elim)
    have hS1 := hS.nw hfW
    have Hs := hd (IntsAt.of_blk hS1 0 s (fun i hi => by rw [Nat.zero_add]; exact intsV_get s i hi))
    have Hv := hd (vs.nw hN)
    have Hr := hd (rs.nw hN)
    have HS1 := hd hS1
    have HfW := hd hfW
    have Hvin := hd vin
    have Hrow := hd row
    clear hS hW0 hfW hbB hS1 vs rs lsw vin one row few hN hE'
    go_enter Try.func42, Try.ntmps42
    go_upto_region 1 with fail
    rw [← hW, ← hB]
    clear hW hB
    go_wp2_with (go_at_call 45; refine (allows_any vo ro (some ⟨Sb, 0, none⟩) vcap rcap sc vars s rows nt way _ v4 rl Hvin.out Hrow.out Hv.out Hr.out Hs.out).mono ?_; rintro e w1 ⟨rfl, hf1⟩)
    go_ret
    refine ⟨_, s, rfl, ?_, rfl, HS1.out.nw hf1, ?_, fun k _ _ => rfl⟩
    · rintro ⟨l, hl, h1, h2, h3⟩
      rw [← allowI_congr (l := l) (s := s) (fun i hi => h1 i hi hi)]
      exact h3
    · exact (HfW.out.trans hf1 (fun _ x => x.elim)).mono (fun _ x => x.elim)
  | succ m ih =>
    intro i s w him hsl hW0 hS
    have hil : i < E.vars.length := by omega
    obtain ⟨hu0, hun⟩ := hE.vin i hil
    obtain ⟨u, hu⟩ : ∃ u : Nat, E.vars.getD i 0 = (u : Int) := ⟨(E.vars.getD i 0).toNat, by omega⟩
    have hun' : u < n := by omega
    have hfew := hE.few u hun'
    obtain ⟨B, hB⟩ : ∃ B, B = w.heap.size := ⟨_, rfl⟩
    obtain ⟨W, hW⟩ : ∃ W, W = w.alloc (.cells #[.slice E.vo E.vars.length E.vcap, .slice E.ro E.rows.length E.rcap, .bool E.nt, .int .i64 E.way] 58) := ⟨_, rfl⟩
    have hfW : Nw w W := by rw [hW]; exact (Fr.refl _ w).alloc _
    have hbB : Blk W B #[.slice E.vo E.vars.length E.vcap, .slice E.ro E.rows.length E.rcap, .bool E.nt, .int .i64 E.way] 58 := by rw [hW, hB]; exact Blk.new _ _ _
    have hN := hW0.trans hfW (fun _ x => x.elim)
    have hS1 := hS.nw hfW
    have c0 : W.cell? ⟨B, 0, none⟩ = some (.slice E.vo E.vars.length E.vcap) := hbB.cell 0
    have hBl := hbB.lt
    have hSlt := hS.lt
    obtain ⟨vb, vof, hve, hvbl, hvc⟩ := (hE.vs.nw hN) i hil
    obtain ⟨lb, lof, lro, lrc, hle, hlbl0, hlc0, hLe⟩ := hE.ls u (by rw [hE.ll]; exact hun')
    rw [hu] at hvc
    have hEx : E.Ex i s → ∃ k, k < (E.left.getD u []).length ∧ ((u : Int) = E.v → (E.left.getD u []).getD k 0 = E.value) ∧ ∀ s1 : List Int, s1.length = s.length → (∀ j, j < i → s1.getD (E.vars.getD j 0).toNat 0 = s.getD (E.vars.getD j 0).toNat 0) → E.Ex (i + 1) (s1.set u ((E.left.getD u []).getD k 0)) := by
      rintro ⟨l, h1, h2, h3, h4⟩
      obtain ⟨h5, h6⟩ := h3 i (Nat.le_refl _) hil
      rw [hu, Int.toNat_natCast] at h5 h6
      obtain ⟨k, hk, he⟩ := List.getElem_of_mem h5
      have hgd : (E.left.getD u []).getD k 0 = l.getD u 0 := (getD_int _ k hk).trans he
      refine ⟨k, hk, fun hv => by rw [hgd]; exact h6 hv, fun s1 hs1 hag => ⟨l, by rw [List.length_set, hs1]; exact h1, fun j hj hjl => ?_, fun j hj hjl => h3 j (by omega) hjl, h4⟩⟩
      rw [hgd, setI_get _ _ _ _ (by rw [hs1, hsl]; exact hun')]
      split
      · rename_i e
        rw [e]
      · rename_i hne
        have hji : j < i := by
          rcases Nat.lt_succ_iff_lt_or_eq.1 hj with h | h
          · exact h
          · subst h
            rw [hu, Int.toNat_natCast] at hne
            exact absurd rfl hne
        rw [hag j hji]
        exact h2 j hji hjl
    obtain ⟨L, hL⟩ : ∃ L, E.left.getD u [] = L := ⟨_, rfl⟩
    rw [hL] at hEx hfew hlc0 hLe
    have HEx := hd hEx
    have HbB := hd hbB
    have HS1 := hd hS1
    have HN := hd hN
    have HfW := hd hfW
    have Hih := hd ih
    have HE := hd hE
    have Hu := hd hu
    have Hve := hd hve
    have Hle := hd hle
    have HLe := hd hLe
    have hul : (u : Int) < (n : Int) := by omega
    have hine : ((i : Int) == (E.vars.length : Int)) = false := by simp; omega
    have hilt : (i : Int) < (E.vars.length : Int) := by omega
    have hi4 : (i : Int) < 4 := by have := hE.v4; omega
    clear hEx hbB hS1 hN hfW ih hu hL hLe hS hW0 hun hu0 hE hve hle
    go_enter Try.func42, Try.ntmps42
    go_upto_region 1 with fail
    rw [← hW, ← hB]
    clear hW hB
    rw [Hve.out] at c0
    rw [Hle.out]
    go_wp2_with fail
    go_loopw [14, 15] (fun k _ wr => ∃ (q : Nat) (s1 : List Int), k = .int .i64 (q : Int) ∧ q ≤ L.length ∧ s1.length = n ∧ Hid (Blk wr Sb (intsV s1) 3) ∧ Hid (Fr (fun k => k = Sb) W wr) ∧ Hid (∀ j, j < i → s1.getD (E.vars.getD j 0).toNat 0 = s.getD (E.vars.getD j 0).toNat 0) ∧
      Hid (E.Ex i s → ∃ k, q ≤ k ∧ k < L.length ∧ ((u : Int) = E.v → L.getD k 0 = E.value) ∧ ∀ s1 : List Int, s1.length = s.length → (∀ j, j < i → s1.getD (E.vars.getD j 0).toNat 0 = s.getD (E.vars.getD j 0).toNat 0) → E.Ex (i + 1) (s1.set u (L.getD k 0)))) (fun k _ _ => L.length - (intOf k).toNat)
    case atStart => exact ⟨0, s, rfl, by omega, hsl, HS1, Fr.refl _ _, fun _ _ => rfl, fun h => by obtain ⟨k, h1, h2⟩ := HEx.out h; exact ⟨k, Nat.zero_le _, h1, h2⟩⟩
    case round =>
      obtain ⟨q, s1, rfl, hq, hs1, HB1, HF, Hag, HG⟩ := hrel
      have hN1 : Nw W0 wr := HN.out.trans HF.out (fun k hk => .inr (by omega))
      have HN1 := hd hN1
      have hlc : wr.cell? ⟨lb, lof + u, none⟩ = some (.slice lro L.length lrc) := (hN1.cell hlbl0 (fun x => x)).trans hlc0
      have hlbl : lb < wr.heap.size := Nat.lt_of_lt_of_le hlbl0 hN1.size
      by_cases hlt : q < L.length
      · have hdq : (q : Int) < (L.length : Int) := by omega
        obtain ⟨rb, rof, hre, hrbl, hrc⟩ := (HLe.out.nw hN1) q hlt
        obtain ⟨x, hx⟩ : ∃ x, L.getD q 0 = x := ⟨_, rfl⟩
        rw [hx] at hrc
        have Hx := hd hx
        have hSc : wr.cell? ⟨Sb, u, none⟩ = some (.int .i64 (s1.getD u 0)) := (HB1.out.cell u).trans (intsV_get s1 u (by omega))
        have hSf := HB1.out.free u
        have hSl := HB1.out.lt
        have hbx := (HbB.out.fr HF.out (fun e => by have := HS1.out.inj (e ▸ HbB.out); exact absurd this.2 (by decide)))
        have e0 : wr.cell? ⟨B, 0, none⟩ = some (.slice E.vo E.vars.length E.vcap) := hbx.cell 0
        have e1 : wr.cell? ⟨B, 1, none⟩ = some (.slice E.ro E.rows.length E.rcap) := hbx.cell 1
        have e2 : wr.cell? ⟨B, 2, none⟩ = some (.bool E.nt) := hbx.cell 2
        have e3 : wr.cell? ⟨B, 3, none⟩ = some (.int .i64 E.way) := hbx.cell 3
        have hbl := hbx.lt
        have hneB : B ≠ Sb := fun e => absurd (HB1.out.inj (e ▸ hbx)).2 (by decide)
        subst hre
        clear hx hN1 hbx
        by_cases hskip : (u : Int) = E.v ∧ ¬ x = E.value
        · obtain ⟨hk1, hk2⟩ := hskip
          have hb1 : ((u : Int) == E.v) = true := by simp [hk1]
          have hb2 : (x != E.value) = true := by simp [hk2]
          have hg2 : E.Ex i s → ∃ k, q + 1 ≤ k ∧ k < L.length ∧ ((u : Int) = E.v → L.getD k 0 = E.value) ∧ ∀ s1 : List Int, s1.length = s.length → (∀ j, j < i → s1.getD (E.vars.getD j 0).toNat 0 = s.getD (E.vars.getD j 0).toNat 0) → E.Ex (i + 1) (s1.set u (L.getD k 0)) := fun h => by
            obtain ⟨k, h1, h2, h3, h4⟩ := HG.out h
            refine ⟨k, ?_, h2, h3, h4⟩
            rcases Nat.lt_or_eq_of_le h1 with h | h
            · exact h
            · subst h
              exact absurd ((Hx.out).symm.trans (h3 hk1)) hk2
          have Hg2 := hd hg2
          clear hg2 hk1 hk2
          go_wp2_with fail
          exact ⟨⟨q + 1, s1, by simp, by omega, hs1, HB1, HF, Hag, Hg2⟩, by simp [intOf]; omega⟩
        · by_cases huv : (u : Int) = E.v
          · have hxv : x = E.value := by
              refine Classical.byContradiction fun h => hskip ⟨huv, h⟩
            have hb1 : ((u : Int) == E.v) = true := by simp [huv]
            have hb2 : (x != E.value) = false := by simp [hxv]
            clear huv hxv hskip
            go_wp2_with fail
            have hBs := HB1.out.set u (.int .i64 x)
            rw [intsV_set] at hBs
            have hfs : Fr (fun k => k = Sb) wr (wr.setCell ⟨Sb, u, none⟩ (.int .i64 x)) := (Fr.refl _ wr).setCell _ _ (.inl rfl)
            have hih := Hih.out (i + 1) (s1.set u x) (wr.setCell ⟨Sb, u, none⟩ (.int .i64 x)) (by omega) (by rw [List.length_set]; exact hs1) (HN1.out.trans hfs (fun k hk => .inr (by omega))) hBs
            rw [Hle.out, show ((i + 1 : Nat) : Int) = (i : Int) + 1 by simp] at hih
            refine hih.mono ?_
            rintro e w2 ⟨b, s2, rfl, hb, hs2, hB2, hF2, hag2⟩
            have hF3 : Fr (fun k => k = Sb) W w2 := (HF.out.trans hfs (fun k hk => .inl hk)).trans hF2 (fun k hk => .inl hk)
            have hag3 : ∀ j, j < i → s2.getD (E.vars.getD j 0).toNat 0 = s.getD (E.vars.getD j 0).toNat 0 := fun j hj => by
              rw [hag2 j (by omega) (by omega), setI_get _ _ _ _ (by omega), if_neg, Hag.out j hj]
              intro e
              have h1 := HE.out.vin j (by omega)
              have h2 : E.vars.getD j 0 = E.vars.getD i 0 := by rw [Hu.out]; omega
              have := HE.out.one j i (by omega) hil h2
              omega
            have hg2 : b = false → E.Ex i s → ∃ k, q + 1 ≤ k ∧ k < L.length ∧ ((u : Int) = E.v → L.getD k 0 = E.value) ∧ ∀ s1 : List Int, s1.length = s.length → (∀ j, j < i → s1.getD (E.vars.getD j 0).toNat 0 = s.getD (E.vars.getD j 0).toNat 0) → E.Ex (i + 1) (s1.set u (L.getD k 0)) := fun hbf h => by
              obtain ⟨k, h1, h2, h3, h4⟩ := HG.out h
              refine ⟨k, ?_, h2, h3, h4⟩
              rcases Nat.lt_or_eq_of_le h1 with h | h
              · exact h
              · subst h
                have h5 := hb (by rw [← Hx.out]; exact h4 s1 (by omega) Hag.out)
                rw [hbf] at h5
                cases h5
            have Hg2 := hd hg2
            have HF3 := hd hF3
            have Hag3 := hd hag3
            have HB2 := hd hB2
            clear hBs hfs hih hb hB2 hF2 hag2 hF3 hag3 hg2
            cases b with
            | true =>
              go_wp2_with fail
              go_ret
              exact ⟨true, s2, rfl, fun _ => rfl, hs2, HB2.out, (HfW.out.mono (fun _ x => x.elim)).trans HF3.out (fun _ h => .inl h), fun k hk _ => Hag3.out k hk⟩
            | false =>
              go_wp2_with fail
              exact ⟨⟨q + 1, s2, by simp, by omega, hs2, HB2, HF3, Hag3, Hg2.out trivial⟩, by simp [intOf]; omega⟩
          · have hb1 : ((u : Int) == E.v) = false := by simp [huv]
            clear huv hskip
            go_wp2_with fail
            have hBs := HB1.out.set u (.int .i64 x)
            rw [intsV_set] at hBs
            have hfs : Fr (fun k => k = Sb) wr (wr.setCell ⟨Sb, u, none⟩ (.int .i64 x)) := (Fr.refl _ wr).setCell _ _ (.inl rfl)
            have hih := Hih.out (i + 1) (s1.set u x) (wr.setCell ⟨Sb, u, none⟩ (.int .i64 x)) (by omega) (by rw [List.length_set]; exact hs1) (HN1.out.trans hfs (fun k hk => .inr (by omega))) hBs
            rw [Hle.out, show ((i + 1 : Nat) : Int) = (i : Int) + 1 by simp] at hih
            refine hih.mono ?_
            rintro e w2 ⟨b, s2, rfl, hb, hs2, hB2, hF2, hag2⟩
            have hF3 : Fr (fun k => k = Sb) W w2 := (HF.out.trans hfs (fun k hk => .inl hk)).trans hF2 (fun k hk => .inl hk)
            have hag3 : ∀ j, j < i → s2.getD (E.vars.getD j 0).toNat 0 = s.getD (E.vars.getD j 0).toNat 0 := fun j hj => by
              rw [hag2 j (by omega) (by omega), setI_get _ _ _ _ (by omega), if_neg, Hag.out j hj]
              intro e
              have h1 := HE.out.vin j (by omega)
              have h2 : E.vars.getD j 0 = E.vars.getD i 0 := by rw [Hu.out]; omega
              have := HE.out.one j i (by omega) hil h2
              omega
            have hg2 : b = false → E.Ex i s → ∃ k, q + 1 ≤ k ∧ k < L.length ∧ ((u : Int) = E.v → L.getD k 0 = E.value) ∧ ∀ s1 : List Int, s1.length = s.length → (∀ j, j < i → s1.getD (E.vars.getD j 0).toNat 0 = s.getD (E.vars.getD j 0).toNat 0) → E.Ex (i + 1) (s1.set u (L.getD k 0)) := fun hbf h => by
              obtain ⟨k, h1, h2, h3, h4⟩ := HG.out h
              refine ⟨k, ?_, h2, h3, h4⟩
              rcases Nat.lt_or_eq_of_le h1 with h | h
              · exact h
              · subst h
                have h5 := hb (by rw [← Hx.out]; exact h4 s1 (by omega) Hag.out)
                rw [hbf] at h5
                cases h5
            have Hg2 := hd hg2
            have HF3 := hd hF3
            have Hag3 := hd hag3
            have HB2 := hd hB2
            clear hBs hfs hih hb hB2 hF2 hag2 hF3 hag3 hg2
            cases b with
            | true =>
              go_wp2_with fail
              go_ret
              exact ⟨true, s2, rfl, fun _ => rfl, hs2, HB2.out, (HfW.out.mono (fun _ x => x.elim)).trans HF3.out (fun _ h => .inl h), fun k hk _ => Hag3.out k hk⟩
            | false =>
              go_wp2_with fail
              exact ⟨⟨q + 1, s2, by simp, by omega, hs2, HB2, HF3, Hag3, Hg2.out trivial⟩, by simp [intOf]; omega⟩
      · obtain rfl : q = L.length := by omega
        have hdq : ¬ ((L.length : Int) < (L.length : Int)) := by omega
        go_wp2_with fail
        go_ret
        refine ⟨false, s1, rfl, fun h => ?_, hs1, HB1.out, (HfW.out.mono (fun _ x => x.elim)).trans HF.out (fun _ h => .inl h), fun k hk _ => Hag.out k hk⟩
        obtain ⟨k, h1, h2, _⟩ := HG.out h
        omega
end Go.Proofs.Ytkjfpdfkcfgfkaa

/- Supported: what is left, as the statement sees it. -/
namespace Go.Proofs.Ytkjfpdfkcfgfkaa
open Go.RowKit

/-- What is left, as lists of numbers. -/
def leftOf (d : List Nat) (n : Nat) : List (List Int) := (List.range n).map (fun v => (vals (d.getD v 0)).map (fun (x : Nat) => (x : Int)))
theorem leftOf_len (d : List Nat) (n : Nat) : (leftOf d n).length = n := by simp [leftOf]
theorem leftOf_get (d : List Nat) (n u : Nat) (h : u < n) : (leftOf d n).getD u [] = (vals (d.getD u 0)).map (fun (x : Nat) => (x : Int)) := by
  simp only [leftOf, List.getD]
  rw [List.getElem?_map, List.getElem?_range h]
  rfl
theorem leftOf_succ (d : List Nat) (n : Nat) : leftOf d (n + 1) = leftOf d n ++ [(vals (d.getD n 0)).map (fun (x : Nat) => (x : Int))] := by simp [leftOf, List.range_succ]
theorem vals_len8 (s : Nat) : (vals s).length ≤ 8 := by
  have := List.length_filter_le (fun v => s.testBit v) (List.range 8)
  simpa [vals] using this
/-- A list of all variables' values that has l0 at a table's variables. -/
def putAt (vars : List Int) (l0 : List Nat) (n : Nat) : List Int := (List.range n).map (fun (u : Nat) => ((l0.getD (vars.idxOf (u : Int)) 0 : Nat) : Int))
theorem putAt_get {vars : List Int} {l0 : List Nat} {n : Nat} (hin : ∀ i, i < vars.length → 0 ≤ vars.getD i 0 ∧ vars.getD i 0 < n) (hone : ∀ i k, i < vars.length → k < vars.length → vars.getD i 0 = vars.getD k 0 → i = k) (k : Nat) (hk : k < vars.length) :
    (putAt vars l0 n).getD (vars.getD k 0).toNat 0 = (l0.getD k 0 : Nat) := by
  obtain ⟨h0, h1⟩ := hin k hk
  have hu : (vars.getD k 0).toNat < n := by omega
  have e1 : (putAt vars l0 n).getD (vars.getD k 0).toNat 0 = ((l0.getD (vars.idxOf (((vars.getD k 0).toNat : Nat) : Int)) 0 : Nat) : Int) := by
    simp only [putAt, List.getD]
    rw [List.getElem?_map, List.getElem?_range (by simpa [List.getD] using hu)]
    rfl
  rw [e1]
  have e2 : (((vars.getD k 0).toNat : Nat) : Int) = vars.getD k 0 := by omega
  rw [e2]
  have hmem : vars.getD k 0 ∈ vars := by rw [getD_int _ _ hk]; exact List.getElem_mem hk
  have hj : vars.idxOf (vars.getD k 0) < vars.length := List.idxOf_lt_length_iff.2 hmem
  have e3 : vars.getD (vars.idxOf (vars.getD k 0)) 0 = vars.getD k 0 := by
    rw [getD_int _ _ hj]
    exact List.getElem_idxOf hj
  rw [hone _ _ hj hk e3]
theorem covTo_covers {row vars : List Int} {l : List Int} {l0 : List Nat} (h0 : l0.length = vars.length) (h : ∀ k, k < vars.length → l.getD (vars.getD k 0).toNat 0 = (l0.getD k 0 : Nat)) : covTo row vars l vars.length = true ↔ Covers row l0 := by
  unfold covTo Covers
  rw [List.all_eq_true]
  constructor
  · intro hh i hi
    have := hh i (List.mem_range.2 (by omega))
    rw [h i (by omega)] at this
    exact this
  · intro hh i hi
    rw [h i (List.mem_range.1 hi)]
    exact hh i (by rw [h0]; exact List.mem_range.1 hi)
theorem allowI_allow {rows : List (List Int)} {vars : List Int} {l : List Int} {l0 : List Nat} {nt : Bool} (h0 : l0.length = vars.length) (h : ∀ k, k < vars.length → l.getD (vars.getD k 0).toNat 0 = (l0.getD k 0 : Nat)) : allowI rows vars l nt = true ↔ Allow rows nt l0 := by
  have hc : covAny rows vars l rows.length = true ↔ ∃ j, j < rows.length ∧ Covers (rows.getD j []) l0 := by
    unfold covAny
    rw [List.any_eq_true]
    constructor
    · rintro ⟨j, hj, hh⟩
      exact ⟨j, List.mem_range.1 hj, (covTo_covers h0 h).1 hh⟩
    · rintro ⟨j, hj, hh⟩
      exact ⟨j, List.mem_range.2 hj, (covTo_covers h0 h).2 hh⟩
  unfold allowI Allow
  cases nt with
  | false =>
    simp only [Bool.not_false, Bool.false_eq_true, if_false]
    rw [← hc]
    cases covAny rows vars l rows.length <;> simp
  | true =>
    simp only [Bool.not_true, if_true]
    have : (∀ j, j < rows.length → ¬ Covers (rows.getD j []) l0) ↔ covAny rows vars l rows.length = false := by
      rw [← Bool.not_eq_true, hc]
      exact ⟨fun a ⟨j, hj, hh⟩ => a j hj hh, fun a j hj hh => a ⟨j, hj, hh⟩⟩
    rw [this]
    cases covAny rows vars l rows.length <;> simp
/-- What a table supports, stands. -/
theorem stands_ex (E : StEnv) (n : Nat) (d : List Nat) (hd64 : ∀ q, d.getD q 0 < 64) (hin : ∀ i, i < E.vars.length → 0 ≤ E.vars.getD i 0 ∧ E.vars.getD i 0 < n) (hone : ∀ i k, i < E.vars.length → k < E.vars.length → E.vars.getD i 0 = E.vars.getD k 0 → i = k) (hleft : E.left = leftOf d n)
    (i x : Nat) (hi : i < E.vars.length) (hv : E.v = E.vars.getD i 0) (hx : E.value = (x : Int)) (hS : Supp E.vars E.rows E.nt d i x) : E.Ex 0 (List.replicate n 0) := by
  obtain ⟨l0, ⟨hl0, hO⟩, hval, hA⟩ := hS
  have hg := fun k hk => putAt_get (l0 := l0) hin hone k hk
  refine ⟨putAt E.vars l0 n, by simp [putAt], fun k hk => absurd hk (Nat.not_lt_zero _), fun k _ hk => ?_, (allowI_allow hl0 hg).2 hA⟩
  obtain ⟨h0, h1⟩ := hin k hk
  rw [hg k hk, hleft, leftOf_get d n _ (by omega)]
  refine ⟨List.mem_map.2 ⟨_, (vals_mem (hd64 _)).2 (hO k hk), rfl⟩, fun hvk => ?_⟩
  have hki : k = i := hone k i hk hi (by rw [hvk, hv])
  rw [hki, hval, hx]
theorem made_ints (n : Nat) : madeCells (Value.int .i64 0).cells (n * 1) = intsV (List.replicate n 0) := by
  rw [Nat.mul_one]
  unfold madeCells intsV
  apply Array.ext
  · simp
  · intro i h1 h2
    simp only [Array.getElem_map, Array.getElem_range, Value.cells, List.getElem_toArray, List.getElem_map, List.getElem_replicate]
    show #[Value.int .i64 0][i % 1]! = _
    rw [Nat.mod_one]
    rfl
end Go.Proofs.Ytkjfpdfkcfgfkaa

/- Solutions: what fits. -/
namespace Go.Proofs.Ytkjfpdfkcfgfkaa
open Go.RowKit

/-- The values of a table's variables in a list. -/
def picks (vars : List Int) (l : List Nat) : List Nat := vars.map (fun v => l.getD v.toNat 0)
theorem picks_get (vars : List Int) (l : List Nat) (i : Nat) (h : i < vars.length) : (picks vars l).getD i 0 = l.getD (vars.getD i 0).toNat 0 := by
  simp [picks, List.getD, h]
/-- Do the tables whose last variable is the last one of l allow it? -/
def fitsB (bs : List Tb) (l : List Nat) : Bool := bs.all (fun b => decide (lastOf b.vars ≠ (l.length : Int) - 1) || allowB b.rows b.nt (picks b.vars l))
/-- The solutions that go on from l, in order; m variables are to go. -/
def solN (d : List Nat) (bs : List Tb) : Nat → List Nat → List (List Nat)
  | 0, l => [l]
  | m + 1, l => (vals (d.getD l.length 0)).flatMap (fun v => if fitsB bs (l ++ [v]) then solN d bs m (l ++ [v]) else [])
/-- The tables whose last variable is this one. -/
def readyOf (ts : List Tab) (i : Nat) : List Tab := ts.filter (fun x => decide (lastOf x.vars = (i : Int)))
def goCells (X : Nat) (rdy : List Value) (lv yv : Value) : Array Value := (.pointer (some ⟨X, 0, none⟩) :: (rdy ++ [lv, yv])).toArray
theorem goCells_rdy (X : Nat) (rdy : List Value) (lv yv : Value) (i : Nat) (h : i < rdy.length) : (goCells X rdy lv yv)[1 + i]? = some (rdy.getD i undef) := by
  rw [Nat.add_comm]
  simp [goCells, List.getElem?_append_left, h, List.getD]
theorem goCells_list (X : Nat) (rdy : List Value) (lv yv : Value) (h : rdy.length = 8) : (goCells X rdy lv yv)[9]? = some lv := by
  simp [goCells, h]
theorem goCells_yield (X : Nat) (rdy : List Value) (lv yv : Value) (h : rdy.length = 8) : (goCells X rdy lv yv)[10]? = some yv := by
  simp [goCells, h]
theorem goCells_setList (X : Nat) (rdy : List Value) (lv yv v : Value) (h : rdy.length = 8) : (goCells X rdy lv yv).setIfInBounds 9 v = goCells X rdy v yv := by
  match rdy, h with
  | [a0, a1, a2, a3, a4, a5, a6, a7], _ => rfl
theorem ints_eq (l : List Nat) : ints l = (l.map (fun (x : Nat) => (x : Int))).map (Value.int .i64) := by simp [ints]
theorem natI_get (l : List Nat) (k : Nat) : (l.map (fun (x : Nat) => (x : Int))).getD k 0 = ((l.getD k 0 : Nat) : Int) := by
  simp only [List.getD, List.getElem?_map]
  cases l[k]? <;> rfl
/-- A going through solutions, in memory: list is what was chosen. -/
structure GoAt (W : World) (G X : Nat) (ts : List Tab) (rdy : List Value) (lv yv : Value) (l : List Nat) : Prop where
  blk : Blk W G (goCells X rdy lv yv) 110
  len : rdy.length = 8
  rdy : ∀ i, i < 8 → Row W (rdy.getD i undef) 93 ((readyOf ts i).map Tab.val)
  list : Row W lv 3 (ints l)
noncomputable def fitsReg : Array Oper := regOps Try.f70 4
theorem outOf_picks {b : Tb} {d : List Nat} {l : List Nat} (hv : ∀ i, i < b.vars.length → 0 ≤ b.vars.getD i 0) (hl : lastOf b.vars = (l.length : Int) - 1) (hin : ∀ q, q < l.length → (d.getD q 0).testBit (l.getD q 0) = true) : OutOf b.vars d (picks b.vars l) := by
  refine ⟨by simp [picks], fun i hi => ?_⟩
  rw [picks_get _ _ _ hi]
  have h1 := maxTo_ge b.vars b.vars.length i hi
  have h2 := hv i hi
  unfold lastOf at hl
  exact hin _ (by omega)

set_option maxHeartbeats 3200000 in
set_option maxRecDepth 1000000 in
theorem fits_any (G X : Nat) (zs : List Int) (s : WS) (rdy : List Value) (lv yv : Value) (l : List Nat) (W : World) (hA : WAt W X zs s) (hG : GoAt W G X s.ts rdy lv yv l) (hl1 : 1 ≤ l.length) (hl8 : l.length ≤ 8) (hin : ∀ q, q < l.length → (s.d.getD q 0).testBit (l.getD q 0) = true) :
    Calls Try.prog 70 #[.pointer (some ⟨G, 0, none⟩)] W fun e w' => e = .returned (.bool (fitsB s.bs l)) ∧ ∃ m, w' = W.drewN m := by
  obtain ⟨lo, lc, hlf, _⟩ := hG.list.form
  have hll : (ints l).length = l.length := by simp [ints]
  rw [hll] at hlf
  subst hlf
  obtain ⟨v, hv⟩ : ∃ v : Nat, l.length = v + 1 := ⟨l.length - 1, by omega⟩
  obtain ⟨rv, hrv⟩ : ∃ rv, rdy.getD v undef = rv := ⟨_, rfl⟩
  have hrow := hG.rdy v (by omega)
  rw [hrv] at hrow
  obtain ⟨ro, rc, hrf, _⟩ := hrow.form
  rw [List.length_map] at hrf
  subst hrf
  have c9 : W.cell? ⟨G, 9, none⟩ = some (.slice lo (v + 1) lc) := by
    rw [← hv]
    exact (hG.blk.cell 9).trans (goCells_list _ _ _ _ hG.len)
  have cr : W.cell? ⟨G, 1 + v, none⟩ = some (.slice ro (readyOf s.ts v).length rc) := by
    rw [← hrv]
    exact (hG.blk.cell _).trans (goCells_rdy _ _ _ _ _ (by rw [hG.len]; omega))
  have hGl := hG.blk.lt
  have hv8 : (v : Int) < 8 := by omega
  have HA := hd hA
  have HG := hd hG
  have Hrow := hd hrow
  have Hv := hd hv
  have Hin := hd hin
  clear hA hG hrow hv hin hll hrv
  have hmf : ∀ (fn : Fn) (first cap : Array Value) (w : World), (Instr.makeFunc fn first cap).run Try.prog w = .ok (.func fn first cap) w := fun _ _ _ _ => rfl
  go_enter Try.func70, Try.ntmps70
  go_wp2_with fail
  go_quiet (fail)
  go_wp2_with fail
  have hready : ∀ j, j < (readyOf s.ts v).length → ∃ q, q < s.ts.length ∧ s.ts.getD q tab0 = (readyOf s.ts v).getD j tab0 ∧ lastOf (s.ts.getD q tab0).vars = (v : Int) := fun j hj => by
    have hm : (readyOf s.ts v).getD j tab0 ∈ readyOf s.ts v := by
      simp only [List.getD, List.getElem?_eq_getElem hj, Option.getD_some]
      exact List.getElem_mem hj
    obtain ⟨h1, h2⟩ := List.mem_filter.1 hm
    obtain ⟨q, hq, he⟩ := List.getElem_of_mem h1
    have e2 : s.ts.getD q tab0 = (readyOf s.ts v).getD j tab0 := by rw [← he]; simp [List.getD, hq]
    exact ⟨q, hq, e2, by rw [e2]; simpa using h2⟩
  have Hready := hd hready
  clear hready
  go_loopw [4, 17] (fun _ i wr => ∃ (k m : Nat), k ≤ (readyOf s.ts v).length ∧ i = .int .i64 (k : Int) ∧ wr = W.drewN m ∧ Hid (∀ j, j < k → ∀ q, q < s.ts.length → s.ts.getD q tab0 = (readyOf s.ts v).getD j tab0 → Allow (s.bs.getD q tb0).rows (s.bs.getD q tb0).nt (picks (s.bs.getD q tb0).vars l))) (fun _ i _ => (readyOf s.ts v).length - (intOf i).toNat)
  case atStart => exact ⟨0, nq, by omega, rfl, rfl, fun j hj => absurd hj (Nat.not_lt_zero _)⟩
  case round =>
    obtain ⟨k, m, hk, rfl, rfl, HP⟩ := hrel
    have h12 : (readyOf s.ts v).length ≤ 12 := Nat.le_trans (List.length_filter_le _ _) HA.out.mem.t12
    have HFm : Hid (Nw W (W.drewN m)) := (Fr.refl _ W).drewN m
    by_cases hlt : k < (readyOf s.ts v).length
    · have hdk : (k : Int) < ((readyOf s.ts v).length : Int) := by omega
      obtain ⟨q, hq, hqe, hql⟩ := Hready.out k hlt
      obtain ⟨rg, rcap, hre, hrgo, hrc, _⟩ := (Hrow.out.nw HFm.out).cell k (by simpa using hlt)
      simp only [List.length_map, Value.slice.injEq] at hre
      obtain ⟨rfl, _, rfl⟩ := hre
      have hrgl := (Hrow.out.nw HFm.out).lt hrgo
      simp only [List.getElem_map] at hrc
      have hxk : (readyOf s.ts v)[k] = s.ts.getD q tab0 := by rw [hqe]; simp [List.getD, hlt]
      rw [hxk] at hrc
      have hqb : q < s.bs.length := by rw [← HA.out.mem.fits.1]; exact hq
      have hTb := HA.out.mem.tbok q hqb
      have hT := HA.out.mem.tabs.at_ q hq
      have hRep := HA.out.good.rep q hqb
      rw [mapT_getD] at hRep
      have hvars := HA.out.mem.fits.2 q hqb
      rw [hvars] at hT hql
      obtain ⟨b, hb⟩ : ∃ b, s.bs.getD q tb0 = b := ⟨_, rfl⟩
      obtain ⟨⟨xG, xg, xcap, xvars, xt⟩, hx⟩ : ∃ x, s.ts.getD q tab0 = x := ⟨_, rfl⟩
      rw [hb] at hTb hT hRep hql
      rw [hx] at hT hRep hrc
      dsimp only [Tab.val] at hT hRep hrc
      have hO : OutOf b.vars s.d (picks b.vars l) := outOf_picks (fun i hi => (hTb.1.vars.ok i hi).1) (by rw [hql, Hv.out]; omega) Hin.out
      have hL : ListAt W lo (l.map (fun (x : Nat) => (x : Int))) b.vars (picks b.vars l) := by
        refine ⟨?_, by simp [picks], fun i hi => ?_⟩
        · have h9 := HG.out.list
          rw [ints_eq, ← List.length_map (f := fun (x : Nat) => (x : Int))] at h9
          exact h9.ints'
        · have g1 := maxTo_ge b.vars b.vars.length i hi
          have g2 := (hTb.1.vars.ok i hi).1
          have g3 : (b.vars.getD i 0).toNat < l.length := by
            have := Hv.out
            unfold lastOf at hql
            omega
          refine ⟨by rw [List.length_map]; exact g3, g2, ?_, ?_⟩
          · rw [picks_get _ _ _ hi]
            exact natI_get _ _
          · rw [picks_get _ _ _ hi]
            exact bit_lt6 (HA.out.good.dm.lt _) (Hin.out _ g3)
      have hcall := fun m' => allowsT_any xG xg xcap b xt lo lc (l.map (fun (x : Nat) => (x : Int))) (picks b.vars l) s.d (W.drewN m') hTb.1 HA.out.good.dm (by
        have := hT
        cases xt with
        | rs nt br live => exact this
        | dg nv os root => exact ⟨⟨this.1.blk, this.1.rv, this.1.row, this.1.ok, this.1.two⟩, this.2⟩) hRep (hL.nw ((Fr.refl _ W).drewN m')) hO
      have e9 : (l.map (fun (x : Nat) => (x : Int))).length = v + 1 := by rw [List.length_map]; exact Hv.out
      rw [e9] at hcall
      have Hcall : Hid (∀ m', Calls Try.prog xt.fnAllows #[.pointer (some ⟨xG, 0, none⟩), .slice lo (v + 1) lc] (W.drewN m') fun e w' => e = .returned (.bool (allowB b.rows b.nt (picks b.vars l))) ∧ ∃ m, w' = (W.drewN m').drewN m) := hcall
      have Hx := hd hx
      have Hb := hd hb
      have Hqe := hd hqe
      have Hql := hd hql
      clear hcall hL hO hRep hT hTb hvars hqe hxk hx hb hql hrgo
      cases xt with
      | rs nt br live =>
        have hm := fun W' => meth_allows xG W'
        have hna : ∀ W', (nilAhead 286 115 (.pointer (some ⟨xG, 0, none⟩)) "Allows").run Try.prog W' = .ok (some false) W' := fun W' => by kernel_rfl
        have Hq : Hid (∀ n', Calls Try.prog 112 #[.pointer (some ⟨xG, 0, none⟩), .slice lo (v + 1) lc] ((W.drewN m).drewN n') fun e w' => e = .returned (.bool (allowB b.rows b.nt (picks b.vars l))) ∧ ∃ k, w' = ((W.drewN m).drewN n').drewN k) := fun n' => by
          rw [World.drewN_drewN]
          exact Hcall.out (m + n')
        obtain ⟨ab, hab⟩ : ∃ ab, allowB b.rows b.nt (picks b.vars l) = ab := ⟨_, rfl⟩
        rw [hab] at Hq
        have Hab := hd hab
        clear hab
        go_wp2_with fail
        have hK0 : ∃ n', (W.drewN m).drew = (W.drewN m).drewN n' := ⟨1, rfl⟩
        refine region_H fitsReg 10 (fun w'' => ∃ n', w'' = (W.drewN m).drewN n') (by kernel_rfl) (by kernel_rfl) (by kernel_rfl) ?_
        refine take_at (i := 0) (d := some 21) (v := .iface 115 (.pointer (some ⟨xG, 0, none⟩))) (by kernel_rfl) (by kernel_rfl) (fun _ _ _ h => h) (fun w'' hS => by kernel_rfl) hK0 ?_
        refine take_at (i := 1) (d := some 22) (v := .pointer (some ⟨G, 0, none⟩)) (by kernel_rfl) (by kernel_rfl) (fun _ _ _ h => h) (fun w'' hS => by kernel_rfl) hK0 ?_
        refine take_at (i := 2) (d := some 23) (v := .pointer (some ⟨G, 0, none⟩)) (by kernel_rfl) (by kernel_rfl) (fun _ _ _ h => h) (fun w'' hS => by kernel_rfl) hK0 ?_
        refine take_at (i := 3) (d := some 24) (v := .pointer (some ⟨G, 9, none⟩)) (by kernel_rfl) (by kernel_rfl) (fun _ _ _ h => h) (fun w'' hS => by kernel_rfl) hK0 ?_
        refine take_at (i := 4) (d := some 25) (v := .slice lo (v + 1) lc) (by kernel_rfl) (by kernel_rfl) (fun _ _ _ h => h) (fun w'' hS => exec_load 22 (.tmp 24) (by kernel_rfl) (by kernel_rfl) (by kernel_rfl) (by obtain ⟨n', rfl⟩ := hS; exact c9)) hK0 ?_
        refine take_at (i := 5) (d := some 26) (v := .func (.method "Allows") #[.iface 115 (.pointer (some ⟨xG, 0, none⟩))] #[]) (by kernel_rfl) (by kernel_rfl) (fun _ _ _ h => h) (fun w'' hS => by kernel_rfl) hK0 ?_
        refine take_at (i := 6) (d := some 27) (v := .func (.method "Allows") #[.iface 115 (.pointer (some ⟨xG, 0, none⟩))] #[]) (by kernel_rfl) (by kernel_rfl) (fun _ _ _ h => h) (fun w'' hS => by kernel_rfl) hK0 ?_
        refine take_at (i := 7) (d := some 28) (v := .iface 115 (.pointer (some ⟨xG, 0, none⟩))) (by kernel_rfl) (by kernel_rfl) (fun _ _ _ h => h) (fun w'' hS => by kernel_rfl) hK0 ?_
        refine enter_at (i := 8) (d := some 29) (f := 112) (args := #[.pointer (some ⟨xG, 0, none⟩), .slice lo (v + 1) lc]) (w' := (W.drewN m).drew) (by kernel_rfl) (by kernel_rfl) (by kernel_rfl) ?_
        refine (Hq.out 1).mono ?_
        rintro e w2 ⟨rfl, n2, rfl⟩
        have hK2 : ∃ n', ((W.drewN m).drewN 1).drewN n2 = (W.drewN m).drewN n' := ⟨1 + n2, by simp only [World.drewN_drewN, Nat.add_assoc]⟩
        refine ⟨_, rfl, hK2, ?_⟩
        refine value_at (i := 9) (d := some 30) (v := .bool (!ab)) (w' := ((W.drewN m).drewN 1).drewN n2) (by kernel_rfl) (by kernel_rfl) (by kernel_rfl) hK2 ?_
        refine wpAnyH_done (by kernel_rfl) ?_ _
        simp only [Act.put, List.setIfInBounds_toArray, List.set_cons_zero, List.set_cons_succ]
        cases ab with
        | true =>
          go_wp2_with fail
          refine ⟨⟨k + 1, m + 1 + n2, by omega, by simp, rfl, fun j hj q' hq' he => ?_⟩, by simp [intOf]; omega⟩
          rcases Nat.lt_succ_iff_lt_or_eq.1 hj with h | h
          · exact HP.out j h q' hq' he
          · subst h
            obtain rfl : q' = q := HA.out.mem.inj q' q hq' hq (by rw [he, ← Hqe.out])
            rw [Hb.out]
            exact (allowB_iff _ _ _).1 Hab.out
        | false =>
          go_wp2_with fail
          go_ret
          refine ⟨?_, m + 1 + n2, by simp only [World.drewN_drewN]⟩
          have hfb : fitsB s.bs l = false := by
            rw [← Bool.not_eq_true]
            intro hall
            have h1 := List.all_eq_true.1 hall b (by
              rw [← Hb.out]
              simp only [List.getD, List.getElem?_eq_getElem hqb, Option.getD_some]
              exact List.getElem_mem hqb)
            rw [Hab.out, Bool.or_false, decide_eq_true_eq] at h1
            exact h1 (by rw [Hql.out, Hv.out]; omega)
          rw [hfb]
          rfl
      | dg nv os root =>
        have hm := fun W' => meth_dallows xG W'
        have hna : ∀ W', (nilAhead 286 113 (.pointer (some ⟨xG, 0, none⟩)) "Allows").run Try.prog W' = .ok (some false) W' := fun W' => by kernel_rfl
        have Hq : Hid (∀ n', Calls Try.prog 104 #[.pointer (some ⟨xG, 0, none⟩), .slice lo (v + 1) lc] ((W.drewN m).drewN n') fun e w' => e = .returned (.bool (allowB b.rows b.nt (picks b.vars l))) ∧ ∃ k, w' = ((W.drewN m).drewN n').drewN k) := fun n' => by
          rw [World.drewN_drewN]
          exact Hcall.out (m + n')
        obtain ⟨ab, hab⟩ : ∃ ab, allowB b.rows b.nt (picks b.vars l) = ab := ⟨_, rfl⟩
        rw [hab] at Hq
        have Hab := hd hab
        clear hab
        go_wp2_with fail
        have hK0 : ∃ n', (W.drewN m).drew = (W.drewN m).drewN n' := ⟨1, rfl⟩
        refine region_H fitsReg 10 (fun w'' => ∃ n', w'' = (W.drewN m).drewN n') (by kernel_rfl) (by kernel_rfl) (by kernel_rfl) ?_
        refine take_at (i := 0) (d := some 21) (v := .iface 113 (.pointer (some ⟨xG, 0, none⟩))) (by kernel_rfl) (by kernel_rfl) (fun _ _ _ h => h) (fun w'' hS => by kernel_rfl) hK0 ?_
        refine take_at (i := 1) (d := some 22) (v := .pointer (some ⟨G, 0, none⟩)) (by kernel_rfl) (by kernel_rfl) (fun _ _ _ h => h) (fun w'' hS => by kernel_rfl) hK0 ?_
        refine take_at (i := 2) (d := some 23) (v := .pointer (some ⟨G, 0, none⟩)) (by kernel_rfl) (by kernel_rfl) (fun _ _ _ h => h) (fun w'' hS => by kernel_rfl) hK0 ?_
        refine take_at (i := 3) (d := some 24) (v := .pointer (some ⟨G, 9, none⟩)) (by kernel_rfl) (by kernel_rfl) (fun _ _ _ h => h) (fun w'' hS => by kernel_rfl) hK0 ?_
        refine take_at (i := 4) (d := some 25) (v := .slice lo (v + 1) lc) (by kernel_rfl) (by kernel_rfl) (fun _ _ _ h => h) (fun w'' hS => exec_load 22 (.tmp 24) (by kernel_rfl) (by kernel_rfl) (by kernel_rfl) (by obtain ⟨n', rfl⟩ := hS; exact c9)) hK0 ?_
        refine take_at (i := 5) (d := some 26) (v := .func (.method "Allows") #[.iface 113 (.pointer (some ⟨xG, 0, none⟩))] #[]) (by kernel_rfl) (by kernel_rfl) (fun _ _ _ h => h) (fun w'' hS => by kernel_rfl) hK0 ?_
        refine take_at (i := 6) (d := some 27) (v := .func (.method "Allows") #[.iface 113 (.pointer (some ⟨xG, 0, none⟩))] #[]) (by kernel_rfl) (by kernel_rfl) (fun _ _ _ h => h) (fun w'' hS => by kernel_rfl) hK0 ?_
        refine take_at (i := 7) (d := some 28) (v := .iface 113 (.pointer (some ⟨xG, 0, none⟩))) (by kernel_rfl) (by kernel_rfl) (fun _ _ _ h => h) (fun w'' hS => by kernel_rfl) hK0 ?_
        refine enter_at (i := 8) (d := some 29) (f := 104) (args := #[.pointer (some ⟨xG, 0, none⟩), .slice lo (v + 1) lc]) (w' := (W.drewN m).drew) (by kernel_rfl) (by kernel_rfl) (by kernel_rfl) ?_
        refine (Hq.out 1).mono ?_
        rintro e w2 ⟨rfl, n2, rfl⟩
        have hK2 : ∃ n', ((W.drewN m).drewN 1).drewN n2 = (W.drewN m).drewN n' := ⟨1 + n2, by simp only [World.drewN_drewN, Nat.add_assoc]⟩
        refine ⟨_, rfl, hK2, ?_⟩
        refine value_at (i := 9) (d := some 30) (v := .bool (!ab)) (w' := ((W.drewN m).drewN 1).drewN n2) (by kernel_rfl) (by kernel_rfl) (by kernel_rfl) hK2 ?_
        refine wpAnyH_done (by kernel_rfl) ?_ _
        simp only [Act.put, List.setIfInBounds_toArray, List.set_cons_zero, List.set_cons_succ]
        cases ab with
        | true =>
          go_wp2_with fail
          refine ⟨⟨k + 1, m + 1 + n2, by omega, by simp, rfl, fun j hj q' hq' he => ?_⟩, by simp [intOf]; omega⟩
          rcases Nat.lt_succ_iff_lt_or_eq.1 hj with h | h
          · exact HP.out j h q' hq' he
          · subst h
            obtain rfl : q' = q := HA.out.mem.inj q' q hq' hq (by rw [he, ← Hqe.out])
            rw [Hb.out]
            exact (allowB_iff _ _ _).1 Hab.out
        | false =>
          go_wp2_with fail
          go_ret
          refine ⟨?_, m + 1 + n2, by simp only [World.drewN_drewN]⟩
          have hfb : fitsB s.bs l = false := by
            rw [← Bool.not_eq_true]
            intro hall
            have h1 := List.all_eq_true.1 hall b (by
              rw [← Hb.out]
              simp only [List.getD, List.getElem?_eq_getElem hqb, Option.getD_some]
              exact List.getElem_mem hqb)
            rw [Hab.out, Bool.or_false, decide_eq_true_eq] at h1
            exact h1 (by rw [Hql.out, Hv.out]; omega)
          rw [hfb]
          rfl
    · obtain ⟨R, hR⟩ : ∃ R, (readyOf s.ts v).length = R := ⟨_, rfl⟩
      have hkR : k = (readyOf s.ts v).length := by omega
      have hfb : fitsB s.bs l = true := by
        unfold fitsB
        rw [List.all_eq_true]
        intro b hb
        obtain ⟨q, hq, he⟩ := List.getElem_of_mem hb
        have hgb : s.bs.getD q tb0 = b := by rw [← he]; simp [List.getD, hq]
        by_cases hlast : lastOf b.vars = (l.length : Int) - 1
        · have hqt : q < s.ts.length := by rw [HA.out.mem.fits.1]; exact hq
          have hmem : s.ts.getD q tab0 ∈ readyOf s.ts v := by
            unfold readyOf
            rw [List.mem_filter]
            refine ⟨?_, ?_⟩
            · simp only [List.getD, List.getElem?_eq_getElem hqt, Option.getD_some]
              exact List.getElem_mem hqt
            · rw [HA.out.mem.fits.2 q hq, hgb, decide_eq_true_eq, hlast, Hv.out]
              omega
          obtain ⟨j, hj, hje⟩ := List.getElem_of_mem hmem
          have hall := HP.out j (by omega) q hqt (by rw [← hje]; simp [List.getD, hj])
          rw [hgb] at hall
          rw [(allowB_iff _ _ _).2 hall, Bool.or_true]
        · rw [decide_eq_true hlast, Bool.true_or]
      have Hfb := hd hfb
      rw [hR] at hkR hlt hk ⊢
      subst hkR
      have hdk : ¬ ((k : Int) < (k : Int)) := by omega
      clear hfb hlt hk hR
      go_wp2_with fail
      go_ret
      exact ⟨by rw [Hfb.out]; rfl, m, rfl⟩
end Go.Proofs.Ytkjfpdfkcfgfkaa

/- Solutions depend on the domains and on which tables there are. -/
namespace Go.Proofs.Ytkjfpdfkcfgfkaa
open Go.RowKit

theorem fitsB_congr {bs bs' : List Tb} (h : ∀ b, b ∈ bs ↔ b ∈ bs') (l : List Nat) : fitsB bs l = fitsB bs' l := by
  rw [Bool.eq_iff_iff]
  unfold fitsB
  simp only [List.all_eq_true]
  exact ⟨fun hh b hb => hh b ((h b).2 hb), fun hh b hb => hh b ((h b).1 hb)⟩
theorem solN_congr {bs bs' : List Tb} (h : ∀ b, b ∈ bs ↔ b ∈ bs') (d : List Nat) : ∀ m l, solN d bs m l = solN d bs' m l
  | 0, _ => rfl
  | m + 1, l => by
    unfold solN
    congr 1
    funext v
    rw [fitsB_congr h, solN_congr h d m]
/-- A dead Work has no solutions. -/
theorem solN_dead {d : List Nat} (bs : List Tb) (h : d.getD 0 0 = 0) (m : Nat) : solN d bs (m + 1) [] = [] := by
  show (vals (d.getD ([] : List Nat).length 0)).flatMap _ = []
  rw [show d.getD ([] : List Nat).length 0 = 0 from h, vals_zero]
  rfl
/-- Every solution is as long as there are variables, and lies within the domains. -/
theorem solN_in {d : List Nat} (hd : ∀ q, d.getD q 0 < 64) (bs : List Tb) : ∀ m l x, x ∈ solN d bs m l → (∀ q, q < l.length → (d.getD q 0).testBit (l.getD q 0) = true) → x.length = l.length + m ∧ l <+: x ∧ ∀ q, q < x.length → (d.getD q 0).testBit (x.getD q 0) = true
  | 0, l, x, hx, hl => by
    obtain rfl := List.mem_singleton.1 hx
    exact ⟨rfl, List.prefix_refl _, hl⟩
  | m + 1, l, x, hx, hl => by
    unfold solN at hx
    obtain ⟨v, hv, hx⟩ := List.mem_flatMap.1 hx
    by_cases hf : fitsB bs (l ++ [v]) = true
    · rw [if_pos hf] at hx
      obtain ⟨h1, h2, h3⟩ := solN_in hd bs m (l ++ [v]) x hx (fun q hq => by
        rw [List.length_append, List.length_singleton] at hq
        by_cases h : q < l.length
        · have : (l ++ [v]).getD q 0 = l.getD q 0 := by simp [List.getD, List.getElem?_append_left h]
          rw [this]
          exact hl q h
        · obtain rfl : q = l.length := by omega
          have : (l ++ [v]).getD l.length 0 = v := by simp [List.getD]
          rw [this]
          exact (vals_mem (hd _)).1 hv)
      rw [List.length_append, List.length_singleton] at h1
      exact ⟨by omega, (List.prefix_append _ _).trans h2, h3⟩
    · rw [if_neg hf] at hx
      cases hx
end Go.Proofs.Ytkjfpdfkcfgfkaa

/- 'for value := range s.Each { .. }', where a body may return. -/
namespace Go.Proofs.Ytkjfpdfkcfgfkaa
open Go.RowKit Go.Shelf
attribute [local go_sem] Oper.semAt_some

set_option maxHeartbeats 1600000 in
theorem each_in2 (n s l : Nat) (hs : s < 256) (J Jx : List Nat → World → Prop) (W : World) (h0 : J [] W)
    (hY : ∀ (pre : List Nat) (v : Nat) (W1 : World), J pre W1 → (pre ++ [v]) <+: vals s → YieldAt Fence.wide (n - 1) Try.prog l #[.int .i64 (v : Int)] W1 fun e W' => (e = .returned (.bool true) ∧ J (pre ++ [v]) W') ∨ (e = .returned (.bool false) ∧ Jx (pre ++ [v]) W')) :
    CallsIn Fence.wide n Try.prog 60 #[.int .u8 s, .func (.yield l) #[] #[]] W fun e W' => (∃ v, e = .returned v) ∧ (J (vals s) W' ∨ ∃ pre v, (pre ++ [v]) <+: vals s ∧ Jx (pre ++ [v]) W') := by
  refine callsIn_of_wp Try.func60 rfl trivial ?_ rfl
  simp only [Try.ntmps60, List.size_toArray, List.length_cons, List.length_nil, Nat.reduceAdd, Nat.reduceSub, Array.replicate_succ, Array.replicate_zero, List.push_toArray, List.append_toArray, List.nil_append, List.cons_append]
  gi_wp2
  gi_loopw [4] (fun p wr => ∃ (pre : List Nat) (r : Nat), p = .int .u8 r ∧ r < 256 ∧ Hid (pre ++ vals r = vals s) ∧ J pre wr) (fun p _ => (intOf p).toNat)
  case atStart => exact ⟨[], s, rfl, hs, rfl, h0⟩
  case round =>
    obtain ⟨pre, r, rfl, hr, HP, hJ⟩ := hrel
    by_cases hr0 : r = 0
    · subst hr0
      gi_wp2
      go_end0
      exact ⟨⟨_, rfl⟩, .inl (by have := HP.out; rw [vals_zero, List.append_nil] at this; rw [← this]; exact hJ)⟩
    · obtain ⟨hv1, hv2, hv3⟩ := vals_cons r hr hr0
      have hpos : (0 : Int) < (r : Int) := by omega
      have hr1 : ((r : Int) != 0) = true := by simp; omega
      have hpre : (pre ++ [tz r]) <+: vals s := ⟨vals (r &&& (r - 1)), by rw [← HP.out, hv1]; simp⟩
      obtain ⟨fn, tmps, assign, body, hy, hR⟩ := hY pre (tz r) wr hJ hpre
      have HV := hd hv1
      clear hv1
      gi_wp2_with fail
      refine ⟨trivial, (fun h => by cases h), ?_⟩
      refine (callsIn_wide.2 (tz_any r _ hr)).mono ?_
      rintro e w' ⟨rfl, rfl⟩
      gi_wp2_with fail
      refine ⟨(fun h => by cases h), ?_⟩
      refine hR.mono ?_
      rintro e W3 (⟨rfl, hJ3⟩ | ⟨rfl, hJ3⟩)
      · gi_wp2
        have e1 : bits .and .u8 (r : Int) ((r : Int) - 1) = ((r &&& (r - 1) : Nat) : Int) := by
          have := u8_and_nat r (r - 1) (by omega) (by omega)
          rw [← this, show (((r - 1 : Nat) : Int)) = (r : Int) - 1 from by omega]
        rw [e1]
        refine ⟨⟨pre ++ [tz r], r &&& (r - 1), rfl, by omega, ?_, hJ3⟩, by simp [intOf]; omega⟩
        show _ = _
        rw [← HP.out, HV.out]
        simp
      · gi_wp2
        exact bodyPost_ret (v := .tuple #[]) (results_none rfl _ _ _) rfl ⟨⟨_, rfl⟩, .inr ⟨pre, tz r, hpre, hJ3⟩⟩

/-- The records of ranges over functions, and their marks, are as they were, from block lo on. -/
structure KeepsLo (lo : Nat) (W W' : World) : Prop where
  size : W.heap.size ≤ W'.heap.size
  same : ∀ (k : Nat) (o : Obj), lo ≤ k → W.heap[k]? = some o → loopy o = true → W'.heap[k]? = some o
theorem Fr.keepsLo {S : Nat → Prop} {A B : World} {lo : Nat} (h : Fr S A B) (hs : ∀ k, S k → k < lo ∨ ∃ cur e, Blk A k cur e) : KeepsLo lo A B :=
  ⟨h.size, fun k o hlo ho hc => (h.block k (lt_of_block ho) (fun hk => by
    rcases hs k hk with h1 | ⟨cur, e, hb⟩
    · omega
    · have h' : A.heap[k]? = some (.cells cur e (0, 0)) := hb
      rw [h'] at ho
      cases ho
      cases hc)).trans ho⟩
/-- How the body of a round is left: at its end, or by a return. -/
def eachPost2 (lo : Nat) (I Ix : World → Prop) (W : World) : Exit → Act → World → Prop
  | .normal, _, W' => KeepsLo lo W W' ∧ I W'
  | .ret, _, W' => KeepsLo lo W W' ∧ Ix W'
  | _, _, _ => False

/-- **'for value := range s.Each { body }', where a body may return.** -/
theorem wp_each2 {n s : Nat} (hs : s < 256) {g : Operand} {t d : Tmp} {rid : Nat} {ty : TypeId} {pos : String} {body : Code} {Q : Exit → Act → World → Prop} {a : Act} {w : World}
    (hg : a.eval g = .func (.func 60) #[.int .u8 s] #[]) (ht : t < a.tmps.size) (I Ix : List Nat → World → Prop) (hI : ∀ pre A B, I pre A → Bk w.heap.size A B → I pre B) (hIx : ∀ pre A B, Ix pre A → Bk w.heap.size A B → Ix pre B) (h0 : I [] w)
    (hround : ∀ (l : Nat) (pre : List Nat) (v : Nat) (W : World), (pre ++ [v]) <+: vals s → I pre W →
      body.wpIn (Fence.wide.inRound l) (n - 1 - 1) Try.prog (eachPost2 w.heap.size (I (pre ++ [v])) (Ix (pre ++ [v])) W) { tmps := (a.tmps.setIfInBounds t (.int .i64 (v : Int))).setIfInBounds d (.int .i64 (v : Int)), defers := [] } W)
    (hdone : ∀ (D : Nat) (W : World), w.heap.size ≤ D → I (vals s) W → W.heap[D]? = some (.deferred (some [])) → Q .normal { a with defers := mark D :: a.defers } W)
    (hstop : ∀ (D : Nat) (pre : List Nat) (v : Nat) (W : World), w.heap.size ≤ D → (pre ++ [v]) <+: vals s → Ix (pre ++ [v]) W → W.heap[D]? = some (.deferred (some [])) → Code.ret.wpIn Fence.wide n Try.prog Q { a with defers := mark D :: a.defers } W) :
    (Code.rangeFunc g #[t] (Code.region rid #[{ dst := some d, op := .assign (.tmp t), type := ty, pos := pos, after := #[], guard := none }] false) body).wpIn Fence.wide n Try.prog Q a w := by
  generalize hA : Code.region rid #[{ dst := some d, op := Op.assign (.tmp t), type := ty, pos := pos, after := #[], guard := none }] false = assign
  have hassign : ∀ (l : Nat) (v : Nat) (W : World) (K : Act → World → Prop), K { tmps := (a.tmps.setIfInBounds t (.int .i64 (v : Int))).setIfInBounds d (.int .i64 (v : Int)), defers := [] } W →
      assign.wpIn (Fence.wide.inRound l) (n - 1 - 1) Try.prog (Exit.then K (fun _ _ _ => False)) { tmps := a.tmps.setIfInBounds t (.int .i64 (v : Int)), defers := [] } W := by
    intro l v W K hK
    subst hA
    have hget : (a.tmps.setIfInBounds t (Value.int .i64 (v : Int))).getD t undef = .int .i64 (v : Int) := by
      simp [ht]
    gi_wp2
    exact hK
  refine wpIn_rangeFunc ?_
  intro fn hfn
  obtain ⟨rec, hrec⟩ : ∃ rec : LoopState → Option Code → Loop, rec = fun st pe => { state := st, pending := pe, fn, tmps := a.tmps, params := #[t], assign, body, defers := w.heap.size } := ⟨_, rfl⟩
  obtain ⟨W1, hW1⟩ : ∃ W1, (w.alloc (.deferred (some []))).alloc (.loop (rec .ready none)) = W1 := ⟨_, rfl⟩
  have hL1 : W1.heap[w.heap.size + 1]? = some (.loop (rec .ready none)) := by
    rw [← hW1]
    have := heap_alloc_new (w.alloc (.deferred (some []))) (.loop (rec .ready none))
    simpa using this
  have hK1 : W1.heap[w.heap.size]? = some (.deferred (some [])) := by
    rw [← hW1]; exact (Below.heap_alloc _ _ _ (by simp)).trans (heap_alloc_new w _)
  have hI1 : I [] W1 := by rw [← hW1]; exact hI _ _ _ (hI _ _ _ h0 (Bk.alloc _ _ _)) (Bk.alloc _ _ _)
  refine ⟨w.heap.size + 1, [mark w.heap.size], W1, { target := .fn (.func 60) #[], args := #[.int .u8 s, .func (.yield (w.heap.size + 1)) #[] #[]] }, W1, 60,
    #[.int .u8 s, .func (.yield (w.heap.size + 1)) #[] #[]], W1, ?_, ?_, ?_, ?_, (fun h => by cases h), ?_⟩
  · rw [← hW1, hrec]; exact run_enterLoop_outer _ _ _ _ _
  · simp only [resolve, hg]
    simp [go_sem]
  · intro f' _; trivial
  · simp [invoke, go_sem]
  · refine (each_in2 (n - 1) s (w.heap.size + 1) hs
      (fun pre W => I pre W ∧ W.heap[w.heap.size + 1]? = some (.loop (rec .ready none)) ∧ W.heap[w.heap.size]? = some (.deferred (some [])))
      (fun pre W => Ix pre W ∧ W.heap[w.heap.size + 1]? = some (.loop (rec .done (some .ret))) ∧ W.heap[w.heap.size]? = some (.deferred (some []))) W1 ⟨hI1, hL1, hK1⟩ ?_).mono ?_
    · rintro pre v W ⟨hi, hl, hk⟩ hpre
      have hlt : w.heap.size + 1 < W.heap.size := (Array.getElem?_eq_some_iff.1 hl).1
      have hy := run_yield (P := Try.prog) (args := #[.int .i64 (v : Int)]) hl (by rw [hrec]; rfl)
      rw [hrec] at hy
      dsimp only at hy
      have hfold : ((#[t] : Array Tmp).zip #[Value.int .i64 (v : Int)]).foldl (fun tmps (x : Tmp × Value) => match x with | (t, a) => tmps.setIfInBounds t a) a.tmps = a.tmps.setIfInBounds t (.int .i64 (v : Int)) := by simp
      rw [hfold] at hy
      have hl2 : (W.putObj (w.heap.size + 1) (.loop { rec .ready none with state := .busy })).heap[w.heap.size + 1]? = some (.loop { rec .ready none with state := .busy }) := World.putObj_heap_same hlt
      have hk2 : (W.putObj (w.heap.size + 1) (.loop { rec .ready none with state := .busy })).heap[w.heap.size]? = some (.deferred (some [])) := (World.putObj_heap_other (by omega)).trans hk
      have hbody := hround (w.heap.size + 1) pre v _ hpre (hI _ _ _ hi (Bk.put (.loop { rec .ready none with state := .busy }) (by omega) hl rfl))
      refine ⟨fn, _, assign, body, hy, roundIn_of_wpIn hfn ?_⟩
      refine hassign _ v W _ ?_
      refine ⟨_, run_beginRound hl (by rw [hrec]), ?_⟩
      refine wpIn_mono hbody ?_
      rintro e a3 W3 hp
      cases e with
      | normal =>
        obtain ⟨hk3, hi3⟩ := hp
        have hl3 := hk3.same _ _ (by omega) hl2 rfl
        have hend := run_endRound (P := Try.prog) none hl3
        refine ⟨_, _, hend, .inl ⟨rfl, hI _ _ _ hi3 (Bk.put _ (by omega) hl3 rfl), ?_, (World.putObj_heap_other (by omega)).trans (hk3.same _ _ (by omega) hk2 rfl)⟩⟩
        rw [World.putObj_heap_same (Array.getElem?_eq_some_iff.1 hl3).1, hrec]
        rfl
      | ret =>
        obtain ⟨hk3, hi3⟩ := hp
        have hl3 := hk3.same _ _ (by omega) hl2 rfl
        have hend := run_endRound (P := Try.prog) (some .ret) hl3
        refine ⟨_, _, hend, .inr ⟨rfl, hIx _ _ _ hi3 (Bk.put _ (by omega) hl3 rfl), ?_, (World.putObj_heap_other (by omega)).trans (hk3.same _ _ (by omega) hk2 rfl)⟩⟩
        rw [World.putObj_heap_same (Array.getElem?_eq_some_iff.1 hl3).1, hrec]
        rfl
      | exit id => exact hp.elim
      | goto t => exact hp.elim
      | panic ch => exact hp.elim
      | outgrown => exact hp.elim
    · rintro e W2 ⟨⟨v, rfl⟩, hcase⟩
      rcases hcase with ⟨hi, hl, hk⟩ | ⟨pre, x, hpre, hi, hl, hk⟩
      · refine ⟨none, _, ?_, hdone w.heap.size _ (Nat.le_refl _) (hI _ _ _ hi (Bk.put (.loop { rec .ready none with state := .exhausted }) (by omega) hl rfl)) ((World.putObj_heap_other (by omega)).trans hk)⟩
        have := run_endLoop (P := Try.prog) hl (by rw [hrec]; simp)
        rw [hrec] at this ⊢
        exact this
      · refine ⟨some .ret, _, ?_, hstop w.heap.size pre x _ (Nat.le_refl _) hpre (hIx _ _ _ hi (Bk.put (.loop { rec .done (some .ret) with state := .exhausted }) (by omega) hl rfl)) ((World.putObj_heap_other (by omega)).trans hk)⟩
        have := run_endLoop (P := Try.prog) hl (by rw [hrec]; simp)
        rw [hrec] at this ⊢
        exact this
end Go.Proofs.Ytkjfpdfkcfgfkaa

/- A region that draws its order, whose last operation writes what was read: by the name of its operations; in a round, too. -/
namespace Go.Proofs.Ytkjfpdfkcfgfkaa
open Go.RowKit Go.Shelf

section
variable {P : Program} {Q : Exit → Act → World → Prop} {S : World → Prop} {ops : Array Oper}
theorem region_inU {ops' : Array Oper} {id lp k : Nat} {a : Act} {w : World} (ops : Array Oper) (n : Nat) (S : World → Prop) (z : Nat) (ho : ops' = ops) (hn : ops.size = n) (hnd : noDefer ops.toList = true) (hQ : ∀ a w, ¬ Q .outgrown a w)
    (h : wpAnyU Try.prog .any ops Q S z n (Array.replicate n false) a w.drew) : (Code.region id ops' true).wpIn (Fence.wide.inRound lp) k Try.prog Q a w := by
  subst ho
  subst hn
  have := wpIn_U (l := ops'.toList) (id := id) (lp := lp) (k := k) (S := S) (a := a) (w := w) z hnd hQ (by simpa using h)
  simpa using this
theorem region_inH {ops' : Array Oper} {id lp k : Nat} {a : Act} {w : World} (ops : Array Oper) (n : Nat) (S : World → Prop) (ho : ops' = ops) (hn : ops.size = n) (hnd : noDefer ops.toList = true) (hQ : ∀ a w, ¬ Q .outgrown a w)
    (h : wpAnyH Try.prog .any ops Q S n (Array.replicate n false) a w.drew) : (Code.region id ops' true).wpIn (Fence.wide.inRound lp) k Try.prog Q a w := by
  subst ho
  subst hn
  have := wpIn_H (l := ops'.toList) (id := id) (lp := lp) (k := k) (S := S) (a := a) (w := w) hnd hQ (by simpa using h)
  simpa using this
theorem region_nU {ops' : Array Oper} {id : Nat} {a : Act} {w : World} (ops : Array Oper) (n : Nat) (S : World → Prop) (z : Nat) (ho : ops' = ops) (hn : ops.size = n) (hm : P.follows .mixedOrders = true)
    (h : wpAnyU P .any ops Q S z n (Array.replicate n false) a w.drew) : (Code.region id ops' true).wp P Q a w := by
  subst ho
  subst hn
  exact region_U z hm h
def takeUB (ops : Array Oper) (listed : Array Bool) (z i : Nat) (d : Option Tmp) : Bool := takeB ops listed i d && Region.waitsFor .any ops z i
theorem takeU_at {z i : Nat} {d : Option Tmp} {v : Value} {fuel : Nat} {listed : Array Bool} {a : Act} {w : World} (hB : takeUB ops listed z i d = true) (hw : Region.wanted (opAt ops i) (yielded ops a.tmps) = true)
    (hQ : ∀ c a w, Q (.panic c) (a.put d v) w → Q (.panic c) a w) (hy : ∀ w, S w → (execOp a.eval (opAt ops i)).run P w = .ok (.value v) w) (hS : S w)
    (h : wpAnyU P .any ops Q S z fuel (listed.setIfInBounds i true) (a.put d v) w) : wpAnyU P .any ops Q S z (fuel + 1) listed a w := by
  simp only [takeUB, takeB, Bool.and_eq_true, decide_eq_true_eq] at hB
  obtain ⟨⟨⟨⟨⟨h1, h2⟩, h3⟩, h4⟩, h5⟩, h6⟩ := hB
  subst h5
  exact anyU_take (i := i) (oi := opAt ops i) (v := v) h6 (opAt_of h4) h1 h2 h3 hQ (.inl ⟨hw, hy⟩) hS h
theorem valueU_at {z i : Nat} {d : Option Tmp} {fuel : Nat} {listed : Array Bool} {a : Act} {w w' : World} {v : Value} (hB : oneB ops listed i d = true) (hw : Region.wanted (opAt ops i) (yielded ops a.tmps) = true)
    (hr : (execOp a.eval (opAt ops i)).run P w = .ok (.value v) w') (hS : i ≠ z → S w') (h : wpAnyU P .any ops Q S z fuel (listed.setIfInBounds i true) (a.put d v) w') : wpAnyU P .any ops Q S z (fuel + 1) listed a w := by
  simp only [oneB, Bool.and_eq_true, decide_eq_true_eq] at hB
  obtain ⟨⟨h3, h4⟩, h5⟩ := hB
  subst h5
  exact anyU_one h3 (op_value (opAt_of h4) hw hr ⟨hS, h⟩)
theorem skipU_at {z i : Nat} {d : Option Tmp} {fuel : Nat} {listed : Array Bool} {a : Act} {w w' : World} (hB : oneB ops listed i d = true) (hw : Region.wanted (opAt ops i) (yielded ops a.tmps) = true)
    (hr : (execOp a.eval (opAt ops i)).run P w = .ok .skip w') (hS : i ≠ z → S w') (h : wpAnyU P .any ops Q S z fuel (listed.setIfInBounds i true) (a.put d undef) w') : wpAnyU P .any ops Q S z (fuel + 1) listed a w := by
  simp only [oneB, Bool.and_eq_true, decide_eq_true_eq] at hB
  obtain ⟨⟨h3, h4⟩, h5⟩ := hB
  subst h5
  exact anyU_one h3 (op_skip (opAt_of h4) hw hr ⟨hS, h⟩)
end
/-- A store of one cell. -/
theorem exec_storeU {ev : Operand → Value} {o : Oper} {w : World} {b off : Nat} {v old : Value} (t : TypeId) (x y : Operand) (ho : o.op = .store t x y) (hx : ev x = .pointer (some ⟨b, off, none⟩)) (hy : ev y = v) (h1 : v.oneCell' = true) (hsz : (sizeOf t).run Try.prog w = .ok 1 w) (hc : w.cell? ⟨b, off, none⟩ = some old) (hf : w.frozen? ⟨b, off, none⟩ = false) :
    (execOp ev o).run Try.prog w = .ok .skip (w.setCell ⟨b, off, none⟩ v) := by
  have hs : (Sem.store Mode.plain (⟨b, off, none⟩ : Addr) v (.pure ())).run Try.prog w = .ok () (w.setCell ⟨b, off, none⟩ v) := by
    cases v <;> first
      | (simp [Value.oneCell'] at h1; done)
      | (unfold Sem.run; simp [hc, hf, Sem.run])
  have h1c : v.cells = #[v] := by cases v <;> first | rfl | (simp [Value.oneCell'] at h1; done)
  unfold execOp
  simp [ho, hx, hy, Instr.storeAt, Instr.sureAddr, storeVar, h1c, hsz, storeCells, Addr.add, store, hs, Result.andThen]
/-- Rounds of ranges over functions know no bound in the wide fence. -/
theorem yieldAt_any {m m' l : Nat} {args : Array Value} {W : World} {R : Ending → World → Prop} (h : YieldAt Fence.wide m Try.prog l args W R) : YieldAt Fence.wide m' Try.prog l args W R := by
  obtain ⟨fn, tmps, assign, body, hy, h1, h2⟩ := h
  exact ⟨fn, tmps, assign, body, hy, h1, fun c cs _ => h2 c cs (room_wide _)⟩
end Go.Proofs.Ytkjfpdfkcfgfkaa

/- A region that draws its order, in the wide fence: reads are taken first; a call may be a round of a range. -/
namespace Go.Proofs.Ytkjfpdfkcfgfkaa
open Go.RowKit Go.Shelf

/-- The type of a block of which nothing is frozen. -/
def tyAt (w : World) (k : Nat) : Option TypeId := match w.heap[k]? with
  | some (.cells _ t (0, 0)) => some t
  | _ => none
theorem Blk.tyAt {w : World} {k : Nat} {cur : Array Value} {e : TypeId} (h : Blk w k cur e) : tyAt w k = some e := by
  have h' : w.heap[k]? = some (.cells cur e (0, 0)) := h
  unfold Go.Proofs.Ytkjfpdfkcfgfkaa.tyAt
  rw [h']
  rfl
theorem blk_tyAt {w : World} {k : Nat} {e : TypeId} (h : tyAt w k = some e) : ∃ cur, Blk w k cur e := by
  unfold tyAt at h
  split at h
  · rename_i cur t he
    cases h
    exact ⟨cur, he⟩
  · cases h
/-- Blocks of a finite memory have finitely many types. -/
theorem Only.ofNot {w : World} {S : Nat → Prop} {e : TypeId} (h : ∀ k cur, S k → ¬ Blk w k cur e) : ∃ es, Only w S es ∧ e ∉ es := by
  classical
  refine ⟨(List.range w.heap.size).filterMap (fun k => if S k then tyAt w k else Option.none), ?_, ?_⟩
  · intro k cur t hk hb
    exact List.mem_filterMap.2 ⟨k, List.mem_range.2 hb.lt, by rw [if_pos hk]; exact hb.tyAt⟩
  · intro hm
    obtain ⟨k, _, hk⟩ := List.mem_filterMap.1 hm
    by_cases hs : S k
    · rw [if_pos hs] at hk
      obtain ⟨cur, hb⟩ := blk_tyAt hk
      exact h k cur hs hb
    · rw [if_neg hs] at hk
      cases hk
theorem WAt.frN {S : Nat → Prop} {w w' : World} {X : Nat} {zs : List Int} {s : WS} (h : WAt w X zs s) (f : Fr S w w') (hn : ∀ k, s.own X k → ¬ S k) (ho : ∀ k cur, S k → ¬ Blk w k cur 154) : WAt w' X zs s := by
  obtain ⟨es, h1, h2⟩ := Only.ofNot ho
  exact h.fr f hn h1 h2

section
variable {n : Nat} {P : Program} {ops : Array Oper} {Q : Exit → Act → World → Prop} {md : Region.Mode} {S : World → Prop}
theorem yieldsIf_wpOpIn {i : Nat} {o : Oper} {v : Value} {a : Act} (hi : ops[i]? = some o) (hy : YieldsIf P ops S o v a)
    {K : Act → World → Prop} {w : World} (hS : S w) (h : K (a.put o.dst v) w) : wpOpIn Fence.wide n P ops Q i K a w := by
  unfold Go.wpOpIn
  simp only [hi]
  rcases hy with ⟨hw, hv⟩ | ⟨hw, rfl⟩
  · simp only [hw, if_true, Oper.wpIn, show Fence.wide.round = none from rfl, Oper.semAt_none, hv w hS, Oper.uponIn]; exact ⟨fun _ _ => trivial, h⟩
  · simp only [hw, Bool.false_eq_true, if_false]; exact ⟨fun _ _ => trivial, h⟩
theorem wpOpIn_putIf {j : Nat} {oi oj : Oper} {v : Value} (hj : ops[j]? = some oj) (hap : oi.apart ops oj = true)
    (hsi : ∀ cs b, oi.op ≠ .select cs b) (hsj : ∀ cs b, oj.op ≠ .select cs b)
    (hQ : ∀ c a w, Q (.panic c) (a.put oi.dst v) w → Q (.panic c) a w) {K : Act → World → Prop} {a : Act} {w : World}
    (hy : YieldsIf P ops S oi v a) (h : wpOpIn Fence.wide n P ops Q j K (a.put oi.dst v) w) :
    wpOpIn Fence.wide n P ops Q j (fun a' w' => YieldsIf P ops S oi v a' ∧ K (a'.put oi.dst v) w') a w := by
  obtain ⟨h1, h2, h3⟩ := Oper.apart_spec hap
  have keep : ∀ (a : Act), YieldsIf P ops S oi v a → ∀ u, YieldsIf P ops S oi v (a.put oj.dst u) := fun a hy u =>
    hy.of_same (execOp_put oi hsi a oj.dst u h3) (wanted_put oi a oj.dst u h3)
  have keepD : ∀ d, YieldsIf P ops S oi v { a with defers := d :: a.defers } := fun d => hy.of_same rfl rfl
  unfold wpOpIn at *
  simp only [hj] at *
  rw [wanted_put oj a oi.dst v h1, about_put oj w a oi.dst v h1] at h
  split
  · rename_i hw
    simp only [hw, if_true] at h
    unfold Oper.wpIn at *
    rw [about_put oj w a oi.dst v h1] at h
    refine ⟨h.1, ?_⟩
    have h := h.2
    rw [show Fence.wide.round = none from rfl, Oper.semAt_none, execOp_put oj hsj a oi.dst v h1] at h
    rw [show Fence.wide.round = none from rfl, Oper.semAt_none]
    generalize (execOp a.eval oj).run P w = r at *
    cases r with
    | ok x w' =>
      cases x <;> simp only [Oper.uponIn] at h ⊢
      case value u => exact ⟨keep a hy u, by rw [← Act.put_comm a v u h2]; exact h⟩
      case skip => exact ⟨keep a hy _, by rw [← Act.put_comm a v undef h2]; exact h⟩
      case defer d =>
        refine ⟨keep _ (keepD d) _, ?_⟩
        rw [← Act.put_comm _ v undef h2, ← Act.put_defers]
        exact h
      case enter f args =>
        refine ⟨h.1, CallsIn.mono h.2 fun e w'' he => ?_⟩
        cases e with
        | returned u => exact ⟨keep a hy u, by rw [← Act.put_comm a v u h2]; exact he⟩
        | panicked c => exact hQ _ _ _ he
        | outgrown => exact he
      case row row args => exact ⟨h.1, RowsIn.mono h.2 fun u w'' he => ⟨keep a hy u, by rw [← Act.put_comm a v u h2]; exact he⟩⟩
      case round l f tmps assign body =>
        refine ⟨h.1, RoundIn.mono h.2 fun e w'' he => ?_⟩
        cases e with
        | returned u => exact ⟨keep a hy u, by rw [← Act.put_comm a v u h2]; exact he⟩
        | panicked c => exact hQ _ _ _ he
        | outgrown => exact he
    | halt x w' =>
      cases x <;> simp only [Oper.uponIn] at h ⊢
      case panic u => exact hQ _ _ _ h
  · rename_i hw
    simp only [hw] at h
    exact ⟨h.1, keep a hy _, by rw [← Act.put_comm a v undef h2]; exact h.2⟩
/-- Whatever order is picked from here on, in the wide fence, and S holds behind every operation. -/
def wpAnyI (n : Nat) (P : Program) (md : Region.Mode) (ops : Array Oper) (Q : Exit → Act → World → Prop) (S : World → Prop) : Nat → Array Bool → Act → World → Prop
  | 0, listed, a, w => Region.ready md ops listed = [] ∧ Q .normal a w
  | fuel + 1, listed, a, w => (Region.ready md ops listed = [] → Q .normal a w) ∧
    ∀ i ∈ Region.ready md ops listed, wpOpIn Fence.wide n P ops Q i (fun a' w' => S w' ∧ wpAnyI n P md ops Q S fuel (listed.setIfInBounds i true) a' w') a w
theorem anyIn_of_I : ∀ (fuel : Nat) (listed : Array Bool) (a : Act) (w : World), wpAnyI n P md ops Q S fuel listed a w → wpAnyIn Fence.wide n P md ops Q fuel listed a w
  | 0, _, _, _, h => h
  | fuel + 1, _, _, _, h => ⟨h.1, fun i hi => wpOpIn_mono (fun a' w' h' => anyIn_of_I fuel _ a' w' h'.2) (h.2 i hi)⟩
theorem wpAnyI_first {i : Nat} {oi : Oper} {v : Value} (hi : ops[i]? = some oi) (hsel : ∀ (j : Nat) (o : Oper) cs b, ops[j]? = some o → o.op ≠ .select cs b)
    (hQ : ∀ c a w, Q (.panic c) (a.put oi.dst v) w → Q (.panic c) a w) :
    ∀ (fuel : Nat) (listed : Array Bool) (a : Act) (w : World),
      (∀ j oj, ops[j]? = some oj → j ≠ i → listed.getD j true = false → (∀ e ∈ oj.after, Region.binds md e = true → e.on ≠ i) → oi.apart ops oj = true) →
      i ∈ Region.ready md ops listed → YieldsIf P ops S oi v a → S w →
      wpAnyI n P md ops Q S fuel (listed.setIfInBounds i true) (a.put oi.dst v) w → wpAnyI n P md ops Q S (fuel + 1) listed a w := by
  intro fuel
  induction fuel with
  | zero =>
    intro listed a w _ hr hy hS H
    refine ⟨fun h => (by rw [h] at hr; cases hr), fun j hj => ?_⟩
    by_cases hji : j = i
    · subst hji; exact yieldsIf_wpOpIn hi hy hS ⟨hS, H⟩
    · have := ready_mono hj hji
      rw [H.1] at this
      cases this
  | succ fuel ih =>
    intro listed a w hfree hr hy hS H
    refine ⟨fun h => (by rw [h] at hr; cases hr), fun j hj => ?_⟩
    by_cases hji : j = i
    · subst hji; exact yieldsIf_wpOpIn hi hy hS ⟨hS, H⟩
    · have h1 := H.2 j (ready_mono hj hji)
      obtain ⟨hjun, oj, hoj, hall⟩ := mem_ready.1 hj
      have hnot : ∀ e ∈ oj.after, Region.binds md e = true → e.on ≠ i := fun e he hb heq => by
        have h1 := hall e he hb
        have h0 := (mem_ready.1 hr).1
        rw [heq] at h1
        rcases Nat.lt_or_ge i listed.size with h' | h'
        · simp [h'] at h0 h1; rw [h0] at h1; cases h1
        · simp [Array.getElem?_eq_none h'] at h1
      have h2 := wpOpIn_putIf hoj (hfree j oj hoj hji hjun hnot) (fun cs b => hsel i oi cs b hi) (fun cs b => hsel j oj cs b hoj) hQ hy h1
      have hfree' : ∀ k ok, ops[k]? = some ok → k ≠ i → (listed.setIfInBounds j true).getD k true = false →
          (∀ e ∈ ok.after, Region.binds md e = true → e.on ≠ i) → oi.apart ops ok = true := fun k ok hk hki hun hno => by
        refine hfree k ok hk hki ?_ hno
        by_cases hjk : j = k
        · subst hjk; exact hjun
        · rw [getD_set_ne true hjk] at hun; exact hun
      refine wpOpIn_mono (fun a' w' h3 => ⟨h3.2.1, ih (listed.setIfInBounds j true) a' w' hfree' (ready_mono hr (Ne.symm hji)) h3.1 h3.2.1 ?_⟩) h2
      rw [Array.setIfInBounds_comm _ _ hji]
      exact h3.2.2
theorem region_I {ops' : Array Oper} {id k : Nat} {a : Act} {w : World} (ops : Array Oper) (n : Nat) (S : World → Prop) (ho : ops' = ops) (hn : ops.size = n) (hm : P.follows .mixedOrders = true)
    (h : wpAnyI k P .any ops (NoPanic Q) S n (Array.replicate n false) a w.drew) : (Code.region id ops' true).wpIn Fence.wide k P Q a w := by
  subst ho
  subst hn
  exact wpIn_mono (wpIn_region_any hm (anyIn_of_I _ _ _ _ h)) NoPanic.imp
theorem takeI_at {i : Nat} {d : Option Tmp} {v : Value} {fuel : Nat} {listed : Array Bool} {a : Act} {w : World} (hB : takeB ops listed i d = true) (hw : Region.wanted (opAt ops i) (yielded ops a.tmps) = true)
    (hQ : ∀ c a w, Q (.panic c) (a.put d v) w → Q (.panic c) a w) (hy : ∀ w, S w → (execOp a.eval (opAt ops i)).run P w = .ok (.value v) w) (hS : S w)
    (h : wpAnyI n P .any ops Q S fuel (listed.setIfInBounds i true) (a.put d v) w) : wpAnyI n P .any ops Q S (fuel + 1) listed a w := by
  simp only [takeB, Bool.and_eq_true, decide_eq_true_eq] at hB
  obtain ⟨⟨⟨⟨h1, h2⟩, h3⟩, h4⟩, h5⟩ := hB
  subst h5
  exact wpAnyI_first (opAt_of h4) (Region.noSelect_spec h1) hQ fuel listed a w (Region.free_spec (opAt_of h4) h2) (by simpa using h3) (.inl ⟨hw, hy⟩) hS h
theorem oneI {i : Nat} {d : Option Tmp} {fuel : Nat} {listed : Array Bool} {a : Act} {w : World} (hB : oneB ops listed i d = true) (hw : Region.wanted (opAt ops i) (yielded ops a.tmps) = true)
    (h : (opAt ops i).uponIn Fence.wide n P a (fun a' w' => S w' ∧ wpAnyI n P .any ops Q S fuel (listed.setIfInBounds i true) a' w') Q ((execOp a.eval (opAt ops i)).run P w)) : wpAnyI n P .any ops Q S (fuel + 1) listed a w := by
  simp only [oneB, Bool.and_eq_true, decide_eq_true_eq] at hB
  obtain ⟨⟨h3, h4⟩, h5⟩ := hB
  refine ⟨fun h0 => (by rw [h3] at h0; cases h0), fun j hj => ?_⟩
  rw [h3] at hj
  obtain rfl := List.mem_singleton.1 hj
  unfold wpOpIn
  simp only [opAt_of h4, hw, if_true]
  refine ⟨fun _ _ => trivial, ?_⟩
  rw [show Fence.wide.round = none from rfl, Oper.semAt_none]
  exact h
theorem valueI_at {i : Nat} {d : Option Tmp} {fuel : Nat} {listed : Array Bool} {a : Act} {w w' : World} {v : Value} (hB : oneB ops listed i d = true) (hw : Region.wanted (opAt ops i) (yielded ops a.tmps) = true)
    (hr : (execOp a.eval (opAt ops i)).run P w = .ok (.value v) w') (hS : S w') (h : wpAnyI n P .any ops Q S fuel (listed.setIfInBounds i true) (a.put d v) w') : wpAnyI n P .any ops Q S (fuel + 1) listed a w := by
  have hd : (opAt ops i).dst = d := by simp only [oneB, Bool.and_eq_true, decide_eq_true_eq] at hB; exact hB.2
  subst hd
  refine oneI hB hw ?_
  rw [hr]
  exact ⟨hS, h⟩
theorem skipI_at {i : Nat} {d : Option Tmp} {fuel : Nat} {listed : Array Bool} {a : Act} {w w' : World} (hB : oneB ops listed i d = true) (hw : Region.wanted (opAt ops i) (yielded ops a.tmps) = true)
    (hr : (execOp a.eval (opAt ops i)).run P w = .ok .skip w') (hS : S w') (h : wpAnyI n P .any ops Q S fuel (listed.setIfInBounds i true) (a.put d undef) w') : wpAnyI n P .any ops Q S (fuel + 1) listed a w := by
  have hd : (opAt ops i).dst = d := by simp only [oneB, Bool.and_eq_true, decide_eq_true_eq] at hB; exact hB.2
  subst hd
  refine oneI hB hw ?_
  rw [hr]
  exact ⟨hS, h⟩
theorem enterI_at {i : Nat} {d : Option Tmp} {fuel : Nat} {listed : Array Bool} {a : Act} {w w' : World} {f : FuncId} {args : Array Value} (hB : oneB ops listed i d = true) (hw : Region.wanted (opAt ops i) (yielded ops a.tmps) = true)
    (hr : (execOp a.eval (opAt ops i)).run P w = .ok (.enter f args) w')
    (h : Calls P f args w' (fun e w'' => ∃ v, e = .returned v ∧ S w'' ∧ wpAnyI n P .any ops Q S fuel (listed.setIfInBounds i true) (a.put d v) w'')) : wpAnyI n P .any ops Q S (fuel + 1) listed a w := by
  have hd : (opAt ops i).dst = d := by simp only [oneB, Bool.and_eq_true, decide_eq_true_eq] at hB; exact hB.2
  subst hd
  refine oneI hB hw ?_
  rw [hr]
  refine ⟨(fun h => by cases h), (callsIn_wide.2 h).mono ?_⟩
  rintro e w'' ⟨v, rfl, hs⟩
  exact hs
theorem roundI_at {i : Nat} {d : Option Tmp} {fuel : Nat} {listed : Array Bool} {a : Act} {w w' : World} {l : Nat} {f : FuncId} {tmps : Array Value} {assign body : Code} (hB : oneB ops listed i d = true) (hw : Region.wanted (opAt ops i) (yielded ops a.tmps) = true)
    (hr : (execOp a.eval (opAt ops i)).run P w = .ok (.round l f tmps assign body) w')
    (h : RoundIn Fence.wide (n - 1) P l f tmps assign body w' (fun e w'' => ∃ v, e = .returned v ∧ S w'' ∧ wpAnyI n P .any ops Q S fuel (listed.setIfInBounds i true) (a.put d v) w'')) : wpAnyI n P .any ops Q S (fuel + 1) listed a w := by
  have hd : (opAt ops i).dst = d := by simp only [oneB, Bool.and_eq_true, decide_eq_true_eq] at hB; exact hB.2
  subst hd
  refine oneI hB hw ?_
  rw [hr]
  refine ⟨(fun h => by cases h), h.mono ?_⟩
  rintro e w'' ⟨v, rfl, hs⟩
  exact hs
theorem doneI {listed : Array Bool} {a : Act} {w : World} (hr : Region.ready md ops listed = []) (h : Q .normal a w) : ∀ fuel, wpAnyI n P md ops Q S fuel listed a w
  | 0 => ⟨hr, h⟩
  | _ + 1 => ⟨fun _ => h, by rw [hr]; simp⟩
end
end Go.Proofs.Ytkjfpdfkcfgfkaa
