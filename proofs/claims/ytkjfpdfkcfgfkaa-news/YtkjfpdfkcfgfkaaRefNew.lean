/- Contract of the document's New (fretworkref.New). -/
import Derived.Test.YtkjfpdfkcfgfkaaNew
import Derived.Deep.AppendLies
import Derived.Deep.DeepCutAuto
import Derived.Deep.RegionLaw
namespace Go.Proofs.Ytkjfpdfkcfgfkaa
open Go.RowKit

theorem Try.infoBool : (Try.prog.info? 4).map (fun i => (i.zero, i.size, i.bytes)) = some (some (.bool false), 1, 1) := by kernel_rfl
theorem Try.infoBools : (Try.prog.info? 100).map (fun i => (i.zero, i.size, i.bytes)) = some (some (.slice none 0 0), 1, 24) := by kernel_rfl

abbrev nilS : Value := .slice none 0 0
/-- The document's domains in memory: a row of bools a variable, each in a block of its own (from lo on). -/
structure InRows (w : World) (lo : Nat) (vs : List Value) (bss : List (List Bool)) : Prop where
  len : vs.length = bss.length
  row : ∀ i, i < bss.length → Row w (vs.getD i nilS) 4 ((bss.getD i []).map Value.bool)
  ne : ∀ i j, i < j → j < bss.length → ∀ k, (vs.getD i nilS).ownBlock = some k → (vs.getD j nilS).ownBlock ≠ some k
  lo : ∀ i, i < bss.length → ∀ k, (vs.getD i nilS).ownBlock = some k → lo ≤ k

theorem InRows.nil (w : World) (lo : Nat) : InRows w lo [] [] := ⟨rfl, fun i h => by simp at h, fun i j _ h => by simp at h, fun i h => by simp at h⟩
theorem InRows.fr {S : Nat → Prop} {w w' : World} {lo : Nat} {vs : List Value} {bss : List (List Bool)} (h : InRows w lo vs bss) (f : Fr S w w')
    (hn : ∀ k cur, S k → ¬ Blk w k cur 4) : InRows w' lo vs bss :=
  ⟨h.len, fun i hi => (h.row i hi).fr f (fun k hk hs => by
    obtain ⟨cur, hb, _⟩ := (h.row i hi).blk hk
    exact hn k cur hs hb), h.ne, h.lo⟩
theorem InRows.snoc {w : World} {lo : Nat} {vs : List Value} {bss : List (List Bool)} (h : InRows w lo vs bss) (v : Value) (bs : List Bool)
    (hr : Row w v 4 (bs.map Value.bool)) (hlo : ∀ k, v.ownBlock = some k → lo ≤ k) (hne : ∀ i, i < bss.length → ∀ k, (vs.getD i nilS).ownBlock = some k → v.ownBlock ≠ some k) :
    InRows w lo (vs ++ [v]) (bss ++ [bs]) := by
  have hl := h.len
  have hold : ∀ i, i < bss.length → (vs ++ [v]).getD i nilS = vs.getD i nilS ∧ (bss ++ [bs]).getD i [] = bss.getD i [] := by
    intro i hi
    simp [List.getD, List.getElem?_append_left, hi, hl ▸ hi]
  have hnew : (vs ++ [v]).getD bss.length nilS = v ∧ (bss ++ [bs]).getD bss.length [] = bs := by
    constructor
    · rw [← hl]; simp
    · simp
  refine ⟨by simp [hl], fun i hi => ?_, fun i j hij hj => ?_, fun i hi => ?_⟩
  · simp at hi
    by_cases h1 : i < bss.length
    · rw [(hold i h1).1, (hold i h1).2]; exact h.row i h1
    · obtain rfl : i = bss.length := by omega
      rw [hnew.1, hnew.2]; exact hr
  · simp at hj
    have h1 : i < bss.length := by omega
    rw [(hold i h1).1]
    by_cases h2 : j < bss.length
    · rw [(hold j h2).1]; exact h.ne i j hij h2
    · obtain rfl : j = bss.length := by omega
      rw [hnew.1]; exact hne i h1
  · simp at hi
    by_cases h1 : i < bss.length
    · rw [(hold i h1).1]; exact h.lo i h1
    · obtain rfl : i = bss.length := by omega
      rw [hnew.1]; exact hlo

/-- All values of the first k variables. -/
def allIn (zs : List Int) (k : Nat) : List (List Bool) := (zs.take k).map (fun z => List.replicate z.toNat true)

/-- The document's Work in memory. -/
structure RefAt (w : World) (lo B : Nat) (zs : List Int) (bss : List (List Bool)) (dead : Bool) (tv lv : Value) : Prop where
  mk ::
  ex : ∃ szv inv vs, Blk w B #[szv, inv, .bool dead, tv, lv] 99 ∧ Row w szv 3 (zs.map (Value.int .i64)) ∧ Row w inv 100 vs ∧ InRows w lo vs bss ∧
    (∀ k, szv.ownBlock = some k → lo ≤ k) ∧ (∀ k, inv.ownBlock = some k → lo ≤ k)

set_option maxHeartbeats 800000 in
set_option maxRecDepth 1000000 in
theorem refNew_len (ao : Option Addr) (cap n : Nat) (w : World) (hn : n * 8 ≤ 140737488355328) (h : n < 1 ∨ 8 < n) :
    Calls Try.prog 33 #[.slice ao n cap] w fun e w' => e = .returned (.pointer none) ∧ w' = w := by
  rcases h with h | h
  · obtain rfl : n = 0 := by omega
    go_enter Try.func33, Try.ntmps33
    go_wp2
    go_ret
    exact ⟨rfl, rfl⟩
  · go_enter Try.func33, Try.ntmps33
    go_wp2
    go_ret
    exact ⟨rfl, rfl⟩

theorem refNew_step {w wr w1 : World} {szv inv : Value} {vs : List Value} {zs : List Int} {k z gg cap' : Nat} {bss : List (List Bool)}
    (hf : Nw w wr) (hin : Row wr inv 100 vs) (hvs : InRows wr w.heap.size vs bss)
    (hsz : Row wr szv 3 ((zs.take k).map (Value.int .i64))) (hszlo : ∀ k, szv.ownBlock = some k → w.heap.size ≤ k) (hlt : k < zs.length) (hz : zs[k] = (z : Int))
    (hown1 : w1.ownsRow 0 3 1 (.slice (some ⟨gg, 0, none⟩) (k + 1) cap') (k + 1) ((zs.take k).map (Value.int .i64) ++ [.int .i64 z]))
    (hgrow : (wr.alloc (.cells #[.int .i64 z] 3)).drew.grownBy w1 szv.ownBlock) (hat : szv.ownBlock = some gg ∨ gg = wr.heap.size + 1)
    (hb1 : Blk w1 w.heap.size #[szv, inv, .bool false, nilS, nilS] 99) :
    Blk (w1.setCell ⟨w.heap.size, 0, none⟩ (.slice (some ⟨gg, 0, none⟩) (k + 1) cap')) w.heap.size #[.slice (some ⟨gg, 0, none⟩) (k + 1) cap', inv, .bool false, nilS, nilS] 99 ∧
    Nw w (w1.setCell ⟨w.heap.size, 0, none⟩ (.slice (some ⟨gg, 0, none⟩) (k + 1) cap')) ∧
    Row (w1.setCell ⟨w.heap.size, 0, none⟩ (.slice (some ⟨gg, 0, none⟩) (k + 1) cap')) (.slice (some ⟨gg, 0, none⟩) (k + 1) cap') 3 ((zs.take (k + 1)).map (Value.int .i64)) ∧
    Row (w1.setCell ⟨w.heap.size, 0, none⟩ (.slice (some ⟨gg, 0, none⟩) (k + 1) cap')) inv 100 vs ∧
    InRows (w1.setCell ⟨w.heap.size, 0, none⟩ (.slice (some ⟨gg, 0, none⟩) (k + 1) cap')) w.heap.size vs bss ∧ w.heap.size ≤ gg := by
  have e1 : (zs.take (k + 1)).map (Value.int .i64) = (zs.take k).map (Value.int .i64) ++ [.int .i64 z] := by
    rw [List.take_succ_eq_append_getElem hlt, List.map_append, hz]; rfl
  have hl : ((zs.take k).map (Value.int .i64) ++ [Value.int .i64 z]).length = k + 1 := by simp; omega
  have hr1 : Row w1 (.slice (some ⟨gg, 0, none⟩) (k + 1) cap') 3 ((zs.take k).map (Value.int .i64) ++ [.int .i64 z]) := by
    unfold Row; rw [hl]; exact hown1
  have hfr : Fr (fun j => szv.ownBlock = some j) wr w1 := (((Fr.refl (fun j => szv.ownBlock = some j) wr).alloc _).drew).grown hgrow (fun j hj => .inl hj)
  have hfs : Fr (fun j => j = w.heap.size) w1 (w1.setCell ⟨w.heap.size, 0, none⟩ (.slice (some ⟨gg, 0, none⟩) (k + 1) cap')) := (Fr.refl _ w1).setCell _ _ (.inl rfl)
  have hne : ∀ cur, ¬ Blk w1 w.heap.size cur 4 := fun cur h => by have := (h.inj hb1).2; revert this; decide
  have hin1 : Row w1 inv 100 vs := hin.fr hfr (fun j hj hs => by
    obtain ⟨cur, hb, _⟩ := hin.blk hj
    exact hsz.ne hb (by decide) hs)
  have hvs1 : InRows w1 w.heap.size vs bss := hvs.fr hfr (fun j cur hs hb => hsz.ne hb (by decide) hs)
  refine ⟨?_, ?_, ?_, ?_, ?_, ?_⟩
  · have := hb1.set 0 (.slice (some ⟨gg, 0, none⟩) (k + 1) cap')
    simpa using this
  · exact (hf.trans hfr (fun j hj => .inr (hszlo j hj))).setCell _ _ (.inr (Nat.le_refl _))
  · rw [e1]
    exact hr1.fr hfs (fun j hj e => by subst e; exact hr1.ne hb1 (by decide) hj)
  · exact hin1.fr hfs (fun j hj e => by subst e; exact hin1.ne hb1 (by decide) hj)
  · exact hvs1.fr hfs (fun j cur e hb => by subst e; exact hne cur hb)
  · rcases hat with h | h
    · exact hszlo _ h
    · have := hf.size; omega

theorem refNew_end {w wc wi w1 : World} {szv inv lv : Value} {vs : List Value} {zs : List Int} {k z gg cap' : Nat}
    (hf : Nw w wc) (hfi : Nw wc wi) (hsz : Row wc szv 3 ((zs.take (k + 1)).map (Value.int .i64))) (hin : Row wc inv 100 vs) (hvs : InRows wc w.heap.size vs (allIn zs k))
    (hinlo : ∀ k, inv.ownBlock = some k → w.heap.size ≤ k) (hlt : k < zs.length) (hz : zs[k] = (z : Int))
    (hlv : Row wi lv 4 (List.replicate z (.bool true))) (hlo : ∀ k, lv.ownBlock = some k → wc.heap.size ≤ k)
    (hr1 : Row w1 (.slice (some ⟨gg, 0, none⟩) (vs.length + 1) cap') 100 (vs ++ [lv])) (hf1 : Fr (fun j => inv.ownBlock = some j) wi w1) (hat : inv.ownBlock = some gg ∨ gg = wi.heap.size + 1)
    (hb1 : Blk w1 w.heap.size #[szv, inv, .bool false, nilS, nilS] 99) :
    Blk (w1.setCell ⟨w.heap.size, 1, none⟩ (.slice (some ⟨gg, 0, none⟩) (vs.length + 1) cap')) w.heap.size #[szv, .slice (some ⟨gg, 0, none⟩) (vs.length + 1) cap', .bool false, nilS, nilS] 99 ∧
    Nw w (w1.setCell ⟨w.heap.size, 1, none⟩ (.slice (some ⟨gg, 0, none⟩) (vs.length + 1) cap')) ∧
    Row (w1.setCell ⟨w.heap.size, 1, none⟩ (.slice (some ⟨gg, 0, none⟩) (vs.length + 1) cap')) szv 3 ((zs.take (k + 1)).map (Value.int .i64)) ∧
    Row (w1.setCell ⟨w.heap.size, 1, none⟩ (.slice (some ⟨gg, 0, none⟩) (vs.length + 1) cap')) (.slice (some ⟨gg, 0, none⟩) (vs.length + 1) cap') 100 (vs ++ [lv]) ∧
    InRows (w1.setCell ⟨w.heap.size, 1, none⟩ (.slice (some ⟨gg, 0, none⟩) (vs.length + 1) cap')) w.heap.size (vs ++ [lv]) (allIn zs (k + 1)) ∧
    (∀ j, (Value.slice (some ⟨gg, 0, none⟩) (vs.length + 1) cap').ownBlock = some j → w.heap.size ≤ j) := by
  have hini : Row wi inv 100 vs := hin.nw hfi
  have hfs : Fr (fun j => j = w.heap.size) w1 (w1.setCell ⟨w.heap.size, 1, none⟩ (.slice (some ⟨gg, 0, none⟩) (vs.length + 1) cap')) := (Fr.refl _ w1).setCell _ _ (.inl rfl)
  have hne : ∀ cur, ¬ Blk w1 w.heap.size cur 4 := fun cur h => by have := (h.inj hb1).2; revert this; decide
  have hsz1 : Row w1 szv 3 ((zs.take (k + 1)).map (Value.int .i64)) := (hsz.nw hfi).fr hf1 (fun j hj hs => by
    obtain ⟨cur, hb, _⟩ := (hsz.nw hfi).blk hj
    exact hini.ne hb (by decide) hs)
  have hl : (allIn zs k).length = k := by simp [allIn]; omega
  have hall : allIn zs (k + 1) = allIn zs k ++ [List.replicate z true] := by
    simp only [allIn]
    rw [List.take_succ_eq_append_getElem hlt, List.map_append, hz]; rfl
  have hvi : InRows wi w.heap.size (vs ++ [lv]) (allIn zs (k + 1)) := by
    rw [hall]
    refine (hvs.fr hfi (fun j cur hs _ => hs)).snoc lv (List.replicate z true) (by simpa using hlv) (fun j hj => ?_) (fun i hi j hj hj' => ?_)
    · have := hlo j hj; have := hf.size; omega
    · have h1 := (hvs.row i hi).lt hj
      have h2 := hlo j hj'
      omega
  have hv1 : InRows w1 w.heap.size (vs ++ [lv]) (allIn zs (k + 1)) := hvi.fr hf1 (fun j cur hs hb => hini.ne hb (by decide) hs)
  have hlog : ∀ j, (Value.slice (some ⟨gg, 0, none⟩) (vs.length + 1) cap').ownBlock = some j → w.heap.size ≤ j := by
    intro j hj
    cases hj
    rcases hat with h | h
    · exact hinlo _ h
    · have := hf.size; have := hfi.size; show w.heap.size ≤ gg; omega
  refine ⟨?_, ?_, ?_, ?_, ?_, hlog⟩
  · have := hb1.set 1 (.slice (some ⟨gg, 0, none⟩) (vs.length + 1) cap')
    simpa using this
  · exact ((hf.trans hfi (fun j hj => hj.elim)).trans hf1 (fun j hj => .inr (hinlo j hj))).setCell _ _ (.inr (Nat.le_refl _))
  · exact hsz1.fr hfs (fun j hj e => by subst e; exact hsz1.ne hb1 (by decide) hj)
  · exact hr1.fr hfs (fun j hj e => by subst e; exact hr1.ne hb1 (by decide) hj)
  · exact hv1.fr hfs (fun j cur e hb => by subst e; exact hne cur hb)

set_option maxHeartbeats 1600000 in
set_option maxRecDepth 1000000 in
theorem refNew_any (b o : Nat) (cap : Nat) (zs : List Int) (w : World) (h1 : 1 ≤ zs.length) (h8 : zs.length ≤ 8) (h : IntsAt w (some ⟨b, o, none⟩) zs) :
    Calls Try.prog 33 #[.slice (some ⟨b, o, none⟩) zs.length cap] w fun e w' =>
      Nw w w' ∧ ((okSizes zs = true ∧ ∃ B, e = .returned (.pointer (some ⟨B, 0, none⟩)) ∧ w.heap.size ≤ B ∧ RefAt w' w.heap.size B zs (allIn zs zs.length) false nilS nilS) ∨
        (okSizes zs = false ∧ e = .returned (.pointer none))) := by
  obtain ⟨i0, hi, hz0, hz1, hz2⟩ := info_parts Try.infoInt
  obtain ⟨j0, hj, hy0, hy1, hy2⟩ := info_parts Try.infoBool
  obtain ⟨k0, hk0, hx0, hx1, hx2⟩ := info_parts Try.infoBools
  go_enter Try.func33, Try.ntmps33
  go_wp2
  have hB0 : Blk (w.alloc (.cells #[nilS, nilS, .bool false, nilS, nilS] 99)) w.heap.size #[nilS, nilS, .bool false, nilS, nilS] 99 := Blk.new _ _ _
  have hF0 : Nw w (w.alloc (.cells #[nilS, nilS, .bool false, nilS, nilS] 99)) := (Fr.refl _ w).alloc _
  go_loopw [4] (fun i wr => ∃ (k : Nat) (szv inv : Value) (vs : List Value), k ≤ zs.length ∧ i = .int .i64 k ∧ Hid (Blk wr w.heap.size #[szv, inv, .bool false, nilS, nilS] 99) ∧ Nw w wr ∧ Row wr szv 3 ((zs.take k).map (Value.int .i64)) ∧
    Row wr inv 100 vs ∧ InRows wr w.heap.size vs (allIn zs k) ∧ (∀ k, szv.ownBlock = some k → w.heap.size ≤ k) ∧ (∀ k, inv.ownBlock = some k → w.heap.size ≤ k) ∧ Hid ((zs.take k).all okSize = true)) (fun i _ => zs.length - (intOf i).toNat)
  case atStart => exact ⟨0, nilS, nilS, [], Nat.zero_le _, rfl, hB0, hF0, Row.nil _ _, Row.nil _ _, by simp only [allIn, List.take_zero, List.map_nil]; exact InRows.nil _ _, fun k hk => (by cases hk), fun k hk => (by cases hk), by simp [Hid]⟩
  case round =>
    obtain ⟨k, szv, inv, vs, hk, rfl, hb, hf, hsz, hin, hvs, hszlo, hinlo, Hall⟩ := hrel
    clear hB0 hF0
    by_cases hlt : k < zs.length
    · obtain ⟨b', o', he, hbl, hcell⟩ := h k hlt
      simp at he
      obtain ⟨rfl, rfl⟩ := he
      have hcr : wr.cell? ⟨b, o + k, none⟩ = some (.int .i64 zs[k]) := (hf.cell hbl (fun x => x)).trans (by rw [hcell]; simp [hlt])
      clear hcell
      by_cases hok : okSize zs[k] = true
      · have hok2 : 1 ≤ zs[k] ∧ zs[k] ≤ 6 := by simpa [okSize] using hok
        obtain ⟨z, hz⟩ : ∃ z : Nat, zs[k] = (z : Int) := ⟨zs[k].toNat, by omega⟩
        rw [hz] at hcr hok2
        obtain ⟨hz1', hz6⟩ := hok2
        have Hz := hd hz
        have Hok := hd hok
        clear hz hok
        have hi0 : (0 : Int) ≤ (k : Int) := by omega
        have hi8 : (k : Int) < (zs.length : Int) := by omega
        have hbB : w.heap.size < wr.heap.size := hb.out.lt
        have hbr : b < wr.heap.size := by omega
        have cB : wr.cell? ⟨w.heap.size, 0, none⟩ = some szv := hb.out.cell 0
        have fB : wr.frozen? ⟨w.heap.size, 0, none⟩ = false := hb.out.free 0
        have nB : szv.ownBlock ≠ some w.heap.size := hsz.ne hb.out (by decide)
        have nb : szv.ownBlock ≠ some b := fun e => by have := hszlo b e; omega
        have lk : ((zs.take k).map (Value.int .i64)).length = k := by simp; omega
        have Hsz := hd hsz
        clear hsz
        go_upto_region 9 with fail
        go_cut [5] (fun _ wx => ∃ gg cap', Hid (Blk wx w.heap.size #[.slice (some ⟨gg, 0, none⟩) (k + 1) cap', inv, .bool false, nilS, nilS] 99) ∧ Nw w wx ∧ Row wx (.slice (some ⟨gg, 0, none⟩) (k + 1) cap') 3 ((zs.take (k + 1)).map (Value.int .i64)) ∧
          Row wx inv 100 vs ∧ InRows wx w.heap.size vs (allIn zs k) ∧ w.heap.size ≤ gg)
        case first =>
          have Hbw : ∀ (X : Obj), Blk (wr.alloc X).drew w.heap.size #[szv, inv, .bool false, nilS, nilS] 99 := fun X => (hb.out.alloc X).drew
          have HBW := hd Hbw
          clear Hbw
          go_region_law ((refine step_append_lies _ (by rfl) _ _ _ (by rfl) 0 3 i0 _ 1 8 Try.underlying22 hi hz0 hz1 hz2 rfl (by omega) szv ((zs.take k).map (Value.int .i64)).length ((zs.take k).map (Value.int .i64)) (by rfl) ((Hsz.out.alloc _).drew) ⟨wr.heap.size, 0, none⟩ 1 1 [.int .i64 z] (by rfl) (by rfl) (World.news_of_block (cs := #[.int .i64 z]) (t := 3) (fr := (0, 0)) (heap_alloc_new wr _)) (by simp [Value.oneCell']) (by omega) (by unfold maxLen; omega) (by omega) (by simp) (wr.heap.size + 1) (by simp) ?_; intro gg cap' w1 hown1 hgrow hat hltg; have hb1 : Hid (Blk w1 w.heap.size #[szv, inv, .bool false, nilS, nilS] 99) := (hgrow.block _ (HBW.out _).lt (Ne.symm nB)).trans (HBW.out _); have c1 : w1.cell? ⟨w.heap.size, 0, none⟩ = some szv := hb1.out.cell 0; have f1 := hb1.out.free 0))
          all_goals
            have R := refNew_step hf hin hvs Hsz.out hszlo hlt Hz.out (by rw [lk] at hown1; exact hown1) hgrow hat hb1.out
            clear hown1 hgrow
            go_wp2
            go_meet
            case rel => exact ⟨gg, cap', R.1, R.2.1, R.2.2.1, R.2.2.2.1, R.2.2.2.2.1, R.2.2.2.2.2⟩
        case rest =>
          obtain ⟨gg, cap', hbx, hfx, hszx, hinx, hvsx, hggx⟩ := hcut
          have hbc : wc.cell? ⟨b, o + k, none⟩ = some (.int .i64 z) := (hfx.cell hbl (fun x => x)).trans ((hf.cell hbl (fun x => x)).symm.trans hcr)
          have hblc : b < wc.heap.size := by have := hfx.size; omega
          clear hcr cB fB nB nb lk
          go_wp2
          go_loopw [5, 6] (fun lv i wi => ∃ m : Nat, m ≤ z ∧ i = .int .i64 m ∧ Row wi lv 4 (List.replicate m (.bool true)) ∧ Nw wc wi ∧ (∀ k, lv.ownBlock = some k → wc.heap.size ≤ k)) (fun _ i _ => z - (intOf i).toNat)
          case atStart => exact ⟨0, Nat.zero_le _, rfl, Row.nil _ _, Fr.refl _ _, fun k hk => by cases hk⟩
          case round =>
            obtain ⟨m, hm, rfl, hlv, hfi, hlvlo⟩ := hrel
            have hbi : wr.cell? ⟨b, o + k, none⟩ = some (.int .i64 z) := (hfi.cell hblc (fun x => x)).trans hbc
            by_cases hmz : m < z
            · go_wp2_with (at_builtin; refine wpList_append_own_at _ rfl _ _ 100 rfl 0 4 j0 (.bool false) 1 1 Try.underlying100 hj hy0 hy1 hy2 rfl (by decide) _ _ _ rfl (hlv.alloc _) ⟨wr.heap.size, 0, none⟩ 1 1 [.bool true] rfl rfl (cell_one_new _ _ _) (by simp [Value.oneCell']) (by simp; unfold maxLen; omega) (by simp; omega) (Nat.zero_le _) ?_; intro v' w1 hown' hgrow _ hat; obtain ⟨g', cap2, rfl, hr1, hf1, ha1, hlt1⟩ := app1 hown' hgrow hat; clear hown' hgrow hat)
              have e2 : List.replicate m (Value.bool true) ++ [.bool true] = List.replicate (m + 1) (.bool true) := (List.replicate_succ' ..).symm
              refine ⟨⟨m + 1, by omega, by go_num, ?_, hfi.trans hf1 (fun j hj => .inr (hlvlo j hj)), ?_⟩, ?_⟩
              · rw [e2] at hr1
                simpa using hr1
              · intro j hj
                cases hj
                rcases ha1 with h | h
                · exact hlvlo _ h
                · have := hfi.size; show wc.heap.size ≤ g'; omega
              · simp [intOf]; omega
            · obtain rfl : m = z := by omega
              have hbB' : Hid (Blk wr w.heap.size #[.slice (some ⟨gg, 0, none⟩) (k + 1) cap', inv, .bool false, nilS, nilS] 99) := hbx.out.nw hfi
              have hini : Row wr inv 100 vs := hinx.nw hfi
              have c1 : wr.cell? ⟨w.heap.size, 1, none⟩ = some inv := hbB'.out.cell 1
              have hvl : vs.length ≤ 8 := by have := hvs.len; simp [allIn] at this; omega
              obtain ⟨lao, lcap, hlf, _⟩ := hlv.form
              rw [hlf] at hlv hlvlo ⊢
              simp only [List.length_replicate] at hlv hlvlo ⊢
              clear hlf
              go_wp2_with (at_builtin; refine wpList_append_own_at _ rfl _ _ 96 rfl 0 100 k0 (.slice none 0 0) 1 24 Try.underlying96 hk0 hx0 hx1 hx2 rfl (by decide) _ _ _ rfl (hini.alloc _) ⟨wr.heap.size, 0, none⟩ 1 1 [.slice lao m lcap] rfl rfl (cell_one_new _ _ _) (by simp [Value.oneCell']) (by unfold maxLen; omega) (by omega) (Nat.zero_le _) ?_; intro v' w1 hown' hgrow _ hat; obtain ⟨g', cap2, rfl, hr1, hf1, ha1, hlt1⟩ := app1 hown' hgrow hat; have hb1 : Hid (Blk w1 w.heap.size #[.slice (some ⟨gg, 0, none⟩) (k + 1) cap', inv, .bool false, nilS, nilS] 99) := hbB'.out.fr hf1 (fun e => hini.ne hbB'.out (by decide) e); have c2 : w1.cell? ⟨w.heap.size, 1, none⟩ = some inv := hb1.out.cell 1; have f2 := hb1.out.free 1; clear hown' hgrow hat)
              have R := refNew_end hfx hfi hszx hinx hvsx hinlo hlt Hz.out hlv hlvlo hr1 hf1 ha1 hb1.out
              go_wp2
              refine ⟨⟨k + 1, _, _, vs ++ [.slice lao m lcap], by omega, by go_num, R.1, R.2.1, R.2.2.1, R.2.2.2.1, R.2.2.2.2.1, fun j hj => by cases hj; exact hggx, R.2.2.2.2.2, ?_⟩, ?_⟩
              · show (zs.take (k + 1)).all okSize = true
                rw [List.take_succ_eq_append_getElem hlt, List.all_append, Hall.out]
                simp [Hok.out]
              · simp [intOf]; omega
      · have hok2 : ¬ (1 ≤ zs[k] ∧ zs[k] ≤ 6) := by simpa [okSize] using hok
        have hfin : okSizes zs = false := by
          have : zs.all okSize = false := by
            rw [List.all_eq_false]
            exact ⟨zs[k], List.getElem_mem hlt, hok⟩
          simp [okSizes, this]
        have Hfin := hd hfin
        clear hfin hok
        go_wp2
        all_goals (go_ret; exact ⟨hf, .inr ⟨Hfin.out, rfl⟩⟩)
    · obtain rfl : k = zs.length := by omega
      go_wp2
      go_ret
      refine ⟨hf, .inl ⟨?_, w.heap.size, rfl, Nat.le_refl _, ⟨szv, inv, vs, hb.out, ?_, hin, hvs, hszlo, hinlo⟩⟩⟩
      · have := Hall.out
        rw [List.take_length] at this
        simp only [okSizes, this, Bool.and_true, decide_eq_true_eq]
        omega
      · rw [List.take_length] at hsz
        exact hsz
end Go.Proofs.Ytkjfpdfkcfgfkaa
