/- Parts of the proof, number 8: contracts of the functions that the statement calls. -/
import Derived.Test.YtkjfpdfkcfgfkaaGreatM7
import Derived.Defers
import Derived.Test.YtkjfpdfkcfgfkaaGreatM6
import Derived.Test.YtkjfpdfkcfgfkaaGreatM3
import Derived.Test.YtkjfpdfkcfgfkaaGreatM5
import Derived.Maps.AppendAt

namespace Go.Proofs.YtkjfpdfkcfgfkaaGreat
open Go.RowKit Go.Shelf

def WS.busyAs (s : WS) (b : Bool) : WS := { s with l := ⟨s.l.backs, s.l.starts, b⟩ }
theorem workCells_setBusy (szv : Value) (d : List Nat) (tv : Value) (l : Rest) (h : d.length = 8) (b : Bool) : (workCells szv d tv l).setIfInBounds 12 (.bool b) = workCells szv d tv ⟨l.backs, l.starts, b⟩ := by
 match d, h with
 | [a0, a1, a2, a3, a4, a5, a6, a7], _ => rfl
theorem WAt.busy {W : World} {X : Nat} {zs : List Int} {s : WS} (h : WAt W X zs s) (b : Bool) : WAt (W.setCell ⟨X, 12, none⟩ (.bool b)) X zs (s.busyAs b) := by
 have hf : Fr (fun k => k = X) W (W.setCell ⟨X, 12, none⟩ (.bool b)) := (Fr.refl _ W).setCell _ _ (.inl rfl)
 have o : Only W (fun k => k = X) [66] := Only.one h.mem.blk
 refine ⟨⟨?_, h.mem.sz.frO hf o (by decide), h.mem.zok, h.mem.tabs.frO hf o (by decide), h.mem.inj, h.mem.t12, h.mem.fits, h.mem.tbok, ⟨h.mem.tr.starts.frO hf o (by decide), h.mem.tr.backs.frO hf o (by decide)⟩, fun u hu => (h.mem.un u hu).frO hf o (by decide) (.inr (by decide)), h.mem.apart⟩, h.good, h.cnt, h.sk, h.lev⟩
 have := h.mem.blk.set 12 (.bool b)
 rw [workCells_setBusy _ _ _ _ h.good.dm.len] at this
 exact this
theorem WAt.pos {W : World} {X : Nat} {zs : List Int} {s : WS} (h : WAt W X zs s) : ∀ i, i < s.ts.length → 1 ≤ (s.ts.getD i tab0).vars.length := fun i hi => by
 have hb : i < s.bs.length := by rw [← h.mem.fits.1]; exact hi
 rw [h.mem.fits.2 i hb]
 exact (h.mem.tbok i hb).1.pos
theorem WS.busy_back {s : WS} (h : s.l.busy = false) : (s.busyAs true).busyAs false = s := by
 unfold WS.busyAs
 rw [← h]
theorem WS.own_busy (s : WS) (b : Bool) (X k : Nat) : (s.busyAs b).own X k ↔ s.own X k := Iff.rfl

set_option maxHeartbeats 400000 in
theorem goEnd_d (B X : Nat) (old : Value) (u : FrameMode) (w : World) (h1 : w.cell? ⟨B, 0, none⟩ = some (.pointer (some ⟨X, 0, none⟩))) (h2 : w.cell? ⟨X, 12, none⟩ = some old) (h3 : w.frozen? ⟨X, 12, none⟩ = false) :
  CallsD Tryz.prog 90 #[.pointer (some ⟨B, 0, none⟩)] u w fun e u' w' => u' = u ∧ (e = .returned (.tuple #[]) ∧ w' = w.setCell ⟨X, 12, none⟩ (.bool false)) := by
 go_enter_d Tryz.func90, Tryz.ntmps90
 go_wp2
 go_end0
 exact ⟨rfl, rfl⟩

theorem store_func {w : World} {a : Addr} {old : Value} (fn : Fn) (fs cs : Array Value) (hc : w.cell? a = some old) (hf : w.frozen? a = false) : (store a (.func fn fs cs)).run Tryz.prog w = .ok () (w.setCell a (.func fn fs cs)) := by
 unfold store
 show (Sem.store Mode.plain a (.func fn fs cs) (.pure ())).run Tryz.prog w = _
 unfold Sem.run
 simp [hc, hf, Sem.run]
structure RdyAt (W : World) (N : Nat) (ts : List Tab) (rdy : List Value) : Prop where
 len : rdy.length = 8
 row : ∀ i, i < 8 → Row W (rdy.getD i undef) 73 ((readyOf ts i).map Tab.val)
 new : ∀ i k, i < 8 → (rdy.getD i undef).ownBlock = some k → N ≤ k
 inj : ∀ i j k, i < 8 → j < 8 → (rdy.getD i undef).ownBlock = some k → (rdy.getD j undef).ownBlock = some k → i = j
theorem readyOf_take (ts : List Tab) (k i : Nat) (hk : k < ts.length) : readyOf (ts.take (k + 1)) i = readyOf (ts.take k) i ++ if lastOf (ts.getD k tab0).vars = (i : Int) then [ts.getD k tab0] else [] := by
 have h1 : ts.take (k + 1) = ts.take k ++ [ts.getD k tab0] := by
  rw [List.take_add_one, List.getElem?_eq_getElem hk]
  simp [List.getD, hk]
 rw [h1]
 unfold readyOf
 rw [List.filter_append]
 congr 1
 obtain ⟨x, hx⟩ : ∃ x, ts.getD k tab0 = x := ⟨_, rfl⟩
 rw [hx]
 by_cases h : lastOf x.vars = (i : Int)
 ·rw [if_pos h, List.filter_cons_of_pos (by simpa using h)]
  rfl
 ·rw [if_neg h, List.filter_cons_of_neg (by simpa using h)]
  rfl
theorem getD_setS (l : List Value) (j : Nat) (v : Value) (h : j < l.length) : (l.set j v).getD j undef = v := by
 simp [List.getD, h]
theorem getD_setN (l : List Value) (i j : Nat) (v : Value) (h : j ≠ i) : (l.set j v).getD i undef = l.getD i undef := by
 simp [List.getD, List.getElem?_set_ne h]
structure ThrI (W W1 wr : World) (X L : Nat) (ts : List Tab) (k : Nat) (rdy : List Value) : Prop where
 fr : Fr (fun j => j = W.heap.size + 1) W1 wr
 gb : Blk wr (W.heap.size + 1) (goCells X rdy (.slice none 0 0) (.func (.yield L) #[] #[])) 158
 r : RdyAt wr (W.heap.size + 2) (ts.take k) rdy
theorem goCells_setRdy (X : Nat) (rdy : List Value) (lv yv v : Value) (i : Nat) (h : i < rdy.length) : (goCells X rdy lv yv).setIfInBounds (1 + i) v = goCells X (rdy.set i v) lv yv := by
 rw [Nat.add_comm]
 simp [goCells, List.set_append_left, h]
structure ThroughPost (J Jx : List (List Nat) → (Nat → Prop) → World → Prop) (X : Nat) (zs : List Int) (s : WS) (L : Nat) (all : List (List Nat)) (C : Nat → Prop) (W : World) (e : Ending) (W' : World) : Prop where
 ex : (∃ v, e = .returned v) ∧ ∃ C' : Nat → Prop, (∀ k, C' k → C k ∨ W.heap.size ≤ k) ∧ WAt W' X zs s ∧ Fr (fun k => C k ∨ k = L ∨ k = X) W W' ∧ (J all C' W' ∨ ∃ p x, (p ++ [x]) <+: all ∧ Jx (p ++ [x]) C' W')

set_option maxHeartbeats 3200000 in
set_option maxRecDepth 1000000 in
theorem goThrough_any (X : Nat) (zs : List Int) (s : WS) (L : Nat) (J Jx : List (List Nat) → (Nat → Prop) → World → Prop) (C : Nat → Prop) (W : World) (hA : WAt W X zs s) (hbz : s.l.busy = false) (hS : Sink X zs (s.busyAs true) L W.heap.size (solN s.d s.bs zs.length []) J Jx)
  (hX : ∀ done C A B, J done C A → Fr (fun k => k = X) A B → (∀ cur, ¬ Blk A X cur 151) → J done C B) (hXx : ∀ done C A B, Jx done C A → Fr (fun k => k = X) A B → (∀ cur, ¬ Blk A X cur 151) → Jx done C B) (hJ : J [] C W) (hC : ∀ k, s.own X k → ¬ C k) (hpos : ∀ i, i < s.ts.length → 1 ≤ (s.ts.getD i tab0).vars.length) :
  Calls Tryz.prog 77 #[.pointer (some ⟨X, 0, none⟩), .func (.yield L) #[] #[]] W (ThroughPost J Jx X zs s L (solN s.d s.bs zs.length []) C W) := by
 have hd8 : s.d.length = 8 := hA.good.dm.len
 have hcb : W.cell? ⟨X, 12, none⟩ = some (.bool false) := (hA.mem.blk.cell 12).trans ((workCells_busy _ _ _ _ hd8).trans (by rw [hbz]))
 have hcf := hA.mem.blk.free 12
 have hXl := hA.mem.blk.lt
 have hct : W.cell? ⟨X, 9, none⟩ = some (.slice s.so s.ts.length s.tcap) := (hA.mem.blk.cell 9).trans (workCells_tabs _ _ _ _ hd8)
 have ht12 := hA.mem.t12
 have hmf : ∀ (fn : Fn) (first cap : Array Value) (w : World), (Instr.makeFunc fn first cap).run Tryz.prog w = .ok (.func fn first cap) w := fun _ _ _ _ => rfl
 have hnf : ∀ w : World, (binOp .eql 31 (.func (.yield L) #[] #[]) .nilFunc).run Tryz.prog w = .ok (.bool false) w := fun _ => by kernel_rfl
 have hst := fun (W0 : World) (hW0 : W0.heap.size = W.heap.size + 1) => store_func (w := W0.alloc (.cells #[.pointer (some ⟨X, 0, none⟩), .slice none 0 0, .slice none 0 0, .slice none 0 0, .slice none 0 0, .slice none 0 0, .slice none 0 0, .slice none 0 0, .slice none 0 0, .slice none 0 0, .nilFunc] 158)) (a := ⟨W.heap.size + 1, 10, none⟩) (old := .nilFunc) (.yield L) #[] #[] (by rw [← hW0]; exact (Blk.new W0 _ _).cell 10) (by rw [← hW0]; exact (Blk.new W0 _ _).free 10)
 have hst0 := hst ((W.setCell ⟨X, 12, none⟩ (.bool true)).alloc (.cells #[.pointer (some ⟨X, 0, none⟩)] 35)) (by simp [World.setCell])
 clear hst
 have HA := hd hA
 have HJ := hd hJ
 have HC := hd hC
 clear hA hJ hC
 go_enter_defers Tryz.func77, Tryz.ntmps77
 go_wp2_with fail
 obtain ⟨W1, hW1⟩ : ∃ W1, W1 = ((W.setCell ⟨X, 12, none⟩ (.bool true)).alloc (.cells #[.pointer (some ⟨X, 0, none⟩)] 35)).alloc (.cells #[.pointer (some ⟨X, 0, none⟩), .slice none 0 0, .slice none 0 0, .slice none 0 0, .slice none 0 0, .slice none 0 0, .slice none 0 0, .slice none 0 0, .slice none 0 0, .slice none 0 0, .func (.yield L) #[] #[]] 158) := ⟨_, rfl⟩
 have hsz0 : (W.setCell ⟨X, 12, none⟩ (.bool true)).heap.size = W.heap.size := by simp [World.setCell]
 have hfX : Fr (fun k => k = X) W W1 := by rw [hW1]; exact (((Fr.refl (fun k => k = X) W).setCell _ _ (.inl rfl)).alloc _).alloc _
 have hs1 : W1.heap.size = W.heap.size + 2 := by rw [hW1]; simp [hsz0]
 have hbB : Blk W1 W.heap.size #[.pointer (some ⟨X, 0, none⟩)] 35 := by
  have h1 := Blk.new (W.setCell ⟨X, 12, none⟩ (.bool true)) #[.pointer (some ⟨X, 0, none⟩)] 35
  rw [hsz0] at h1
  rw [hW1]
  exact h1.alloc _
 have hbG : Blk W1 (W.heap.size + 1) (goCells X (List.replicate 8 (.slice none 0 0)) (.slice none 0 0) (.func (.yield L) #[] #[])) 158 := by
  have h1 := Blk.new ((W.setCell ⟨X, 12, none⟩ (.bool true)).alloc (.cells #[.pointer (some ⟨X, 0, none⟩)] 35)) #[.pointer (some ⟨X, 0, none⟩), .slice none 0 0, .slice none 0 0, .slice none 0 0, .slice none 0 0, .slice none 0 0, .slice none 0 0, .slice none 0 0, .slice none 0 0, .slice none 0 0, .func (.yield L) #[] #[]] 158
  rw [show ((W.setCell ⟨X, 12, none⟩ (.bool true)).alloc (.cells #[.pointer (some ⟨X, 0, none⟩)] 35)).heap.size = W.heap.size + 1 from by simp [hsz0]] at h1
  rw [hW1]
  exact h1
 have hA1 : WAt W1 X zs (s.busyAs true) := by
  rw [hW1]
  exact (HA.out.busy true).nw (((Fr.refl _ _).alloc _).alloc _)
 rw [← hW1]
 have HW1 := hd hW1
 have HbB := hd hbB
 have HbG := hd hbG
 have HA1 := hd hA1
 have HfX := hd hfX
 clear hW1 hbB hbG hA1 hfX hst0 hcb hcf hct
 have hrep : ∀ i, i < 8 → (List.replicate 8 (Value.slice none 0 0)).getD i undef = .slice none 0 0 := fun i hi => by simp only [List.getD, List.getElem?_replicate, if_pos hi, Option.getD_some]
 obtain ⟨i0, hi0, hz0, hz1, hz2⟩ := info_parts Tryz.infoTable
 go_loopw [6, 27] (fun _ i wr => ∃ (k : Nat) (rdy : List Value), k ≤ s.ts.length ∧ i = .int .i64 (k : Int) ∧ Hid (ThrI W W1 wr X L s.ts k rdy)) (fun _ i _ => s.ts.length - (intOf i).toNat)
 case atStart =>
  refine ⟨0, List.replicate 8 (.slice none 0 0), by omega, rfl, ⟨Fr.refl _ _, HbG.out, rfl, fun i hi => ?_, fun i k hi hk => ?_, fun i j k hi hj hk => ?_⟩⟩
  ·rw [hrep i hi]
   exact Row.nil _ _
  ·rw [hrep i hi] at hk
   cases hk
  ·rw [hrep i hi] at hk
   cases hk
 case round =>
  obtain ⟨k, rdy, hk, rfl, HT⟩ := hrel
  by_cases hlt : k < s.ts.length
  ·have hdk : (k : Int) < (s.ts.length : Int) := by omega
   have hAr : WAt wr X zs (s.busyAs true) := HA1.out.fr HT.out.fr (fun j hj e => by
    have := HA.out.mem.lt hj
    omega) (Only.one HbG.out) (by decide)
   obtain ⟨tg, tcap', hre, hrgo, hck, _⟩ := hAr.mem.tabs.row.cell k (by rw [List.length_map]; exact hlt)
   have hso : s.so = some ⟨tg, 0, none⟩ := by
    injection hre
   have hat := hAr.mem.tabs.at_ k hlt
   have h4 := hAr.mem.tabs.four k hlt
   have hok := hAr.mem.tabs.ok k hlt
   have hp := hpos k hlt
   have hxk : s.ts[k]'hlt = s.ts.getD k tab0 := by simp [List.getD, hlt]
   have hck2 : wr.cell? ⟨tg, k, none⟩ = some (s.ts.getD k tab0).val := by
    rw [hck, ← hxk]
    simp only [List.getElem_map]
    rfl
   obtain ⟨x, hx⟩ : ∃ x, s.ts.getD k tab0 = x := ⟨_, rfl⟩
   have hx' : (s.busyAs true).ts.getD k tab0 = x := hx
   rw [hx'] at hat h4 hok
   rw [hx] at hp hck2
   obtain ⟨j, hj, hj8⟩ : ∃ j : Nat, lastOf x.vars = (j : Int) ∧ j < 8 := by
    obtain ⟨i, hi, he⟩ := maxTo_mem x.vars x.vars.length (by omega)
    have := hok i hi
    exact ⟨(lastOf x.vars).toNat, by unfold lastOf; omega, by unfold lastOf; omega⟩
   have hcG := hat.vars.1
   have HvI := hd hat.vars.2
   have hmc := TS.meth_last x.t x.G _ wr hcG
   have hGlt := hat.lt (.inl rfl)
   have hcT : wr.cell? ⟨tg, k, none⟩ = some (.iface x.t.ty (.pointer (some ⟨x.G, 0, none⟩))) := hck2
   obtain ⟨ty, hty⟩ : ∃ ty, x.t.ty = ty := ⟨_, rfl⟩
   rw [hty] at hcT hmc
   have Hx := hd hx
   have Hty := hd hty
   have Hat := hd hat
   have HAr := hd hAr
   have htl := hAr.mem.tabs.row.lt hrgo
   rw [hso]
   clear hx hx' hty hat hAr hck hck2 hxk hre hrgo hok
   go_wp2_with fail
   have hl1 := last_any x.g 0 x.cap x.vars wr hp h4 HvI.out
   rw [hj] at hl1
   refine hl1.mono ?_
   clear hl1 hmc
   rintro e w1 ⟨rfl, hf1⟩
   have hcG1 : w1.cell? ⟨x.G, 0, none⟩ = some (.slice (some ⟨x.g, 0, none⟩) x.vars.length x.cap) := (hf1.cell hGlt (fun h => h)).trans hcG
   have hmc1 := TS.meth_last x.t x.G _ w1 hcG1
   rw [Hty.out] at hmc1
   go_wp2_with fail
   have hl2 := last_any x.g 0 x.cap x.vars w1 hp h4 (HvI.out.nw hf1)
   rw [hj] at hl2
   refine hl2.mono ?_
   clear hl2 hmc1
   rintro e w2 ⟨rfl, hf2⟩
   have hf02 : Nw wr w2 := hf1.trans hf2 (fun i h => h.elim)
   have hG2 := HT.out.gb.nw hf02
   have hr2 := (HT.out.r.row j hj8).nw hf02
   obtain ⟨rv, hrv⟩ : ∃ rv, rdy.getD j undef = rv := ⟨_, rfl⟩
   rw [hrv] at hr2
   obtain ⟨xs, hxs⟩ : ∃ xs, (readyOf (s.ts.take k) j).map Tab.val = xs := ⟨_, rfl⟩
   rw [hxs] at hr2
   obtain ⟨ro, rc, hrf, _⟩ := hr2.form
   have hln : (readyOf (s.ts.take k) j).length ≤ 12 := by
    have h1 := List.length_filter_le (fun x => decide (lastOf x.vars = (j : Int))) (s.ts.take k)
    have h2 : (s.ts.take k).length ≤ k := by simp; omega
    unfold readyOf
    omega
   have hxl : xs.length ≤ 12 := by rw [← hxs, List.length_map]; exact hln
   have hcr : w2.cell? ⟨W.heap.size + 1, 1 + j, none⟩ = some rv := (hG2.cell _).trans ((goCells_rdy _ _ _ _ _ (by rw [HT.out.r.len]; exact hj8)).trans (by rw [hrv]))
   have hnG : rv.ownBlock ≠ some (W.heap.size + 1) := hr2.ne hG2 (by decide)
   have hj8' : (j : Int) < 8 := by omega
   subst hrf
   have HG2 := hd hG2
   have Hr2 := hd hr2
   have Hrv := hd hrv
   have Hf02 := hd hf02
   have HnG := hd hnG
   have Hxs := hd hxs
   clear hG2 hrv hf1 hf2 hf02 hcG1 hcG hnG hcT hxs hln
   go_wp2_with (at_builtin; refine wpList_append_own_at _ rfl _ _ 61 rfl 0 73 i0 .nilIface 1 16 Tryz.underlying61 hi0 hz0 hz1 hz2 rfl (by decide) _ _ _ rfl (Row.alloc hr2 _) ⟨_, 0, none⟩ 1 1 [.iface ty (.pointer (some ⟨x.G, 0, none⟩))] rfl rfl (cell_one_new _ _ _) (by simp [Value.oneCell']) (by unfold maxLen; omega) (by omega) (Nat.zero_le _) ?_; intro v' w3 hown' hgrow _ hat; obtain ⟨g', cap', rfl, hr3, hf3, ha3, hlt3⟩ := app1 hown' hgrow hat; have hG3 := HG2.out.fr hf3 HnG.out; have hfz3 := hG3.free (1 + j); have hcr3 := (hG3.cell (1 + j)).trans (goCells_rdy X rdy (.slice none 0 0) (.func (.yield L) #[] #[]) j (by rw [HT.out.r.len]; exact hj8)); have HG3 := hd hG3; clear hG3 hown' hgrow hat)
   have hown : ∀ q, (Value.slice ro xs.length rc).ownBlock = some q → W.heap.size + 2 ≤ q := fun q hq => HT.out.r.new j q hj8 (by rw [Hrv.out]; exact hq)
   have hg' : W.heap.size + 2 ≤ g' := by
    rcases ha3 with h | h
    ·exact hown g' h
    ·have := HT.out.fr.size
     have := Hf02.out.size
     omega
   have hf4 : Fr (fun q => (Value.slice ro xs.length rc).ownBlock = some q ∨ q = W.heap.size + 1) w2 (w3.setCell ⟨W.heap.size + 1, 1 + j, none⟩ (.slice (some ⟨g', 0, none⟩) (xs.length + 1) cap')) := (hf3.mono (fun i h => .inl (.inl h))).setCell _ _ (.inl (.inr rfl))
   have hset : ∀ i, i < 8 → i ≠ j → (rdy.set j (.slice (some ⟨g', 0, none⟩) (xs.length + 1) cap')).getD i undef = rdy.getD i undef := fun i _ hne => getD_setN _ _ _ _ (fun e => hne e.symm)
   have hsetj : (rdy.set j (.slice (some ⟨g', 0, none⟩) (xs.length + 1) cap')).getD j undef = .slice (some ⟨g', 0, none⟩) (xs.length + 1) cap' := getD_setS _ _ _ (by rw [HT.out.r.len]; exact hj8)
   have hoth : ∀ i q, i < 8 → i ≠ j → (rdy.getD i undef).ownBlock = some q → (Value.slice ro xs.length rc).ownBlock ≠ some q ∧ q ≠ g' := fun i q hi hne hq => by
    have h1 : (Value.slice ro xs.length rc).ownBlock ≠ some q := fun h => hne (HT.out.r.inj i j q hi hj8 hq (by rw [Hrv.out]; exact h))
    refine ⟨h1, fun e => ?_⟩
    subst e
    rcases ha3 with h | h
    ·exact h1 h
    ·have := ((HT.out.r.row i hi).nw Hf02.out).lt hq
     omega
   refine ⟨⟨k + 1, rdy.set j (.slice (some ⟨g', 0, none⟩) (xs.length + 1) cap'), by omega, by simp, ⟨?_, ?_, ⟨?_, fun i hi => ?_, fun i q hi hq => ?_, fun i i' q hi hi' hq hq' => ?_⟩⟩⟩, by simp [intOf]; omega⟩
   ·refine (HT.out.fr.trans Hf02.out (fun i h => h.elim)).trans hf4 (fun i h => ?_)
    rcases h with h | h
    ·have := hown i h
     exact .inr (by omega)
    ·exact .inl h
   ·rw [← goCells_setRdy X rdy _ _ _ j (by rw [HT.out.r.len]; exact hj8)]
    exact HG3.out.set (1 + j) _
   ·rw [List.length_set]
    exact HT.out.r.len
   ·rw [readyOf_take s.ts k i hlt, Hx.out, hj]
    by_cases h : i = j
    ·subst h
     rw [hsetj, if_pos rfl, List.map_append, Hxs.out]
     have h5 : [x].map Tab.val = [.iface ty (.pointer (some ⟨x.G, 0, none⟩))] := by simp [Tab.val, Hty.out]
     rw [h5]
     exact hr3.fr ((Fr.refl (fun q => q = W.heap.size + 1) w3).setCell ⟨W.heap.size + 1, 1 + i, none⟩ _ (.inl rfl)) (fun q hq e => by cases hq; have e' : g' = W.heap.size + 1 := e; omega)
    ·rw [hset i hi h, if_neg (by omega), List.append_nil]
     exact ((HT.out.r.row i hi).nw Hf02.out).fr hf4 (fun q hq hh => by
      rcases hh with hh | hh
      ·exact (hoth i q hi h hq).1 hh
      ·have := HT.out.r.new i q hi hq; omega)
   ·by_cases h : i = j
    ·subst h
     rw [hsetj] at hq
     cases hq
     exact hg'
    ·rw [hset i hi h] at hq
     exact HT.out.r.new i q hi hq
   ·by_cases h : i = j
    ·by_cases h' : i' = j
     ·rw [h, h']
     ·subst h
      rw [hsetj] at hq
      rw [hset i' hi' h'] at hq'
      cases hq
      exact absurd rfl (hoth i' g' hi' h' hq').2
    ·by_cases h' : i' = j
     ·subst h'
      rw [hsetj] at hq'
      rw [hset i hi h] at hq
      cases hq'
      exact absurd rfl (hoth i g' hi h hq).2
     ·rw [hset i hi h] at hq
      rw [hset i' hi' h'] at hq'
      exact HT.out.r.inj i i' q hi hi' hq hq'
  ·obtain rfl : k = s.ts.length := by omega
   have hr := HT.out.r
   rw [List.take_length] at hr
   have hAr : WAt wr X zs (s.busyAs true) := HA1.out.fr HT.out.fr (fun j hj e => by
    have := HA.out.mem.lt hj
    omega) (Only.one HbG.out) (by decide)
   have hCl : ∀ q, C q → q < W.heap.size := fun q hq => by
    obtain ⟨cur, e, hb, _⟩ := hS.cells _ _ _ _ HJ.out hq
    exact hb.lt
   obtain ⟨lr, hlr⟩ := hS.lrec _ _ _ HJ.out
   have hLl := lt_of_block hlr
   have hJr : J [] C wr := hS.st _ _ _ _ _ (hX _ _ _ _ HJ.out HfX.out (fun cur hb => absurd (hb.inj HA.out.mem.blk).2 (by decide))) HT.out.fr (fun q hq => ⟨by omega, fun hc => by have := hCl q hc; omega, fun cur hb => by subst hq; exact absurd (hb.inj HbG.out).2 (by decide)⟩)
   have hGo : GoAt wr (W.heap.size + 1) X s.ts rdy (.slice none 0 0) (.func (.yield L) #[] #[]) [] := ⟨HT.out.gb, hr.len, hr.row, Row.nil _ _⟩
   have hPre : GoPre (W.heap.size + 1) X (s.busyAs true) L W.heap.size rdy (.slice none 0 0) C := by
    refine ⟨by omega, fun hc => ?_, fun q hq => (by cases hq), fun i q hi hq => ⟨?_, fun hc => ?_⟩, hLl, fun q hq => ⟨HA.out.mem.lt hq, fun e => ?_, HC.out q hq⟩⟩
    ·have := hCl _ hc; omega
    ·have := hr.new i q hi hq; omega
    ·have := hr.new i q hi hq
     have := hCl _ hc
     omega
    ·subst e
     obtain ⟨cur, e, hb, _⟩ := HA.out.mem.ty hq
     have hb' : W.heap[q]? = some (.cells cur e (0, 0)) := hb
     rw [hlr] at hb'
     cases hb'
   have hcall := goOn_any (W.heap.size + 1) X zs (s.busyAs true) L W.heap.size (solN s.d s.bs zs.length []) J Jx hS rdy zs.length [] (.slice none 0 0) [] C wr (by simp) hJr hAr hGo hPre (List.prefix_refl _) (fun q hq => absurd hq (Nat.not_lt_zero _))
   have Hcall := hd hcall
   clear hcall
   go_wp2_with fail
   refine Hcall.out.mono ?_
   rintro e W6 ⟨C6, lv6, l6, hg6, hp6, hG6, hP6, hl6, hf6, hcase⟩
   have hA6 : WAt W6 X zs (s.busyAs true) := go_wat hS hJr hAr hGo hPre hf6
   have hsr : W.heap.size + 2 ≤ wr.heap.size := by have := HT.out.fr.size; omega
   have hb6 : Blk W6 W.heap.size #[.pointer (some ⟨X, 0, none⟩)] 35 := (HbB.out.fr HT.out.fr (by omega)).fr hf6 (fun h => by
    rcases h with h | h | h | h
    ·have := hCl _ h; omega
    ·omega
    ·omega
    ·cases h)
   obtain ⟨b, rfl, hb⟩ : ∃ b, e = .returned (.bool b) ∧ ((b = true ∧ J (solN s.d s.bs zs.length []) C6 W6) ∨ (b = false ∧ ∃ p x, (p ++ [x]) <+: solN s.d s.bs zs.length [] ∧ Jx (p ++ [x]) C6 W6)) := by
    rcases hcase with ⟨h1, h2⟩ | ⟨h1, p, x, h2, h3⟩
    ·exact ⟨true, h1, .inl ⟨rfl, by simpa [WS.busyAs] using h2⟩⟩
    ·exact ⟨false, h1, .inr ⟨rfl, p, x, h2, by simpa using h3⟩⟩
   have HA6 := hd hA6
   have Hb6 := hd hb6
   have Hf6 := hd hf6
   have Hb := hd hb
   have Hg6 := hd hg6
   clear hA6 hb6 hf6 hb hg6 hG6 hP6 hl6 hp6 hcase Hcall
   go_wp2_with fail
   refine leaves_cons (f := 90) (args := #[.pointer (some ⟨W.heap.size, 0, none⟩)]) (by simp) (by simp [go_sem]) ?_
   refine (goEnd_d W.heap.size X (.bool true) .returning _ (Hb6.out.cell 0) ((HA6.out.mem.blk.cell 12).trans (workCells_busy _ _ _ _ hd8)) (HA6.out.mem.blk.free 12)).mono ?_
   rintro e u' w'' ⟨rfl, rfl, rfl⟩
   have hfe : Fr (fun q => q = X) W6 (W6.setCell ⟨X, 12, none⟩ (.bool false)) := (Fr.refl _ W6).setCell _ _ (.inl rfl)
   refine ⟨_, results_none rfl _ _ _, ⟨⟨_, rfl⟩, C6, fun q hq => (Hg6.out q hq).imp id (fun h => by omega), ?_, ?_, ?_⟩⟩
   ·have h1 := HA6.out.busy false
    rw [WS.busy_back hbz] at h1
    exact h1
   ·refine (((HfX.out.mono (S' := fun q => C q ∨ q = L ∨ q = X) (fun i h => .inl (.inr (.inr h)))).trans HT.out.fr (fun i h => .inr (by omega))).trans Hf6.out (fun i h => ?_)).trans hfe (fun i h => .inl (.inr (.inr h)))
    rcases h with h | h | h | h
    ·exact .inl (.inl h)
    ·exact .inl (.inr (.inl h))
    ·exact .inr (by omega)
    ·cases h
   ·rcases Hb.out with ⟨_, h⟩ | ⟨_, p, x, h1, h2⟩
    ·exact .inl (hX _ _ _ _ h hfe (fun cur hb => absurd (hb.inj HA6.out.mem.blk).2 (by decide)))
    ·exact .inr ⟨p, x, h1, hXx _ _ _ _ h2 hfe (fun cur hb => absurd (hb.inj HA6.out.mem.blk).2 (by decide))⟩
end Go.Proofs.YtkjfpdfkcfgfkaaGreat

namespace Go.Proofs.YtkjfpdfkcfgfkaaGreat
open Go.RowKit Go.Shelf
attribute [local go_sem] Oper.semAt_some

set_option maxHeartbeats 400000 in
theorem solutions_any (X : Nat) (w : World) : Calls Tryz.prog 50 #[.pointer (some ⟨X, 0, none⟩)] w fun e w' => e = .returned (.func (.func 77) #[.pointer (some ⟨X, 0, none⟩)] #[]) ∧ w' = w := by
 have hmf : ∀ (fn : Fn) (first cap : Array Value) (w : World), (Instr.makeFunc fn first cap).run Tryz.prog w = .ok (.func fn first cap) w := fun _ _ _ _ => rfl
 go_enter Tryz.func50, Tryz.ntmps50
 go_wp2
 go_ret
 exact ⟨rfl, rfl⟩

def solPost (I Ix : (Nat → Prop) → World → Prop) (id : Nat) (C : Nat → Prop) (g : Nat) (W : World) : Exit → Act → World → Prop
 | .normal, _, W' => ∃ C' : Nat → Prop, (∀ k, C' k → C k ∨ k = g ∨ W.heap.size ≤ k) ∧ Fr (fun k => C k ∨ k = g) W W' ∧ I C' W'
 | .exit i, _, W' => i = id ∧ ∃ C' : Nat → Prop, (∀ k, C' k → C k ∨ k = g ∨ W.heap.size ≤ k) ∧ Fr (fun k => C k ∨ k = g) W W' ∧ Ix C' W'
 | _, _, _ => False
structure SolInv (X N : Nat) (I : List (List Nat) → (Nat → Prop) → World → Prop) : Prop where
 st : ∀ done C S A B, I done C A → Fr S A B → (∀ k, S k → ((N ≤ k ∧ ¬ C k) ∨ k = X) ∧ ∀ cur, ¬ Blk A k cur 151) → I done C B
 cells : ∀ done C A k, I done C A → C k → ∃ cur e, Blk A k cur e ∧ e ≠ 151

set_option maxHeartbeats 1600000 in
theorem wp_sols {n X : Nat} {zs : List Int} {s : WS} {g : Operand} {t : Tmp} {id : Nat} {assign body : Code} {Q : Exit → Act → World → Prop} {a : Act} {w : World} (av : Value → Act)
  (hg : a.eval g = .func (.func 77) #[.pointer (some ⟨X, 0, none⟩)] #[]) (hA : WAt w X zs s) (hbz : s.l.busy = false) (hpos : ∀ i, i < s.ts.length → 1 ≤ (s.ts.getD i tab0).vars.length)
  (hassign : ∀ (l : Nat) (v : Value) (W : World) (K : Act → World → Prop), K (av v) W → assign.wpIn (Fence.wide.inRound l) (n - 1 - 1) Tryz.prog (Exit.then K (fun _ _ _ => False)) { tmps := a.tmps.setIfInBounds t v, defers := [] } W)
  (I Ix : List (List Nat) → (Nat → Prop) → World → Prop) (hI : SolInv X w.heap.size I) (hIx : SolInv X w.heap.size Ix) (C : Nat → Prop) (hC : ∀ k, s.own X k → ¬ C k) (h0 : I [] C w)
  (hround : ∀ (l : Nat) (done : List (List Nat)) (C : Nat → Prop) (x : List Nat) (b cap : Nat) (W : World), (done ++ [x]) <+: solN s.d s.bs zs.length [] → I done C W → WAt W X zs (s.busyAs true) → w.heap.size ≤ b → ¬ C b → Row W (.slice (some ⟨b, 0, none⟩) x.length cap) 3 (ints x) →
   body.wpIn (Fence.wide.inRound l) (n - 1 - 1) Tryz.prog (solPost (I (done ++ [x])) (Ix (done ++ [x])) id C b W) (av (.slice (some ⟨b, 0, none⟩) x.length cap)) W)
  (hdone : ∀ (D : Nat) (C' : Nat → Prop) (W : World), w.heap.size ≤ D → (∀ k, C' k → C k ∨ w.heap.size ≤ k) → I (solN s.d s.bs zs.length []) C' W → WAt W X zs s → Fr (fun k => C k ∨ k = X) w W → W.heap[D]? = some (.deferred (some [])) → Q .normal { a with defers := mark D :: a.defers } W)
  (hstop : ∀ (D : Nat) (C' : Nat → Prop) (p : List (List Nat)) (x : List Nat) (W : World), w.heap.size ≤ D → (∀ k, C' k → C k ∨ w.heap.size ≤ k) → (p ++ [x]) <+: solN s.d s.bs zs.length [] → Ix (p ++ [x]) C' W → WAt W X zs s → Fr (fun k => C k ∨ k = X) w W → W.heap[D]? = some (.deferred (some [])) → (Code.exit id).wpIn Fence.wide n Tryz.prog Q { a with defers := mark D :: a.defers } W) :
  (Code.rangeFunc g #[t] assign body).wpIn Fence.wide n Tryz.prog Q a w := by
 refine wpIn_rangeFunc ?_
 intro fn hfn
 obtain ⟨rec, hrec⟩ : ∃ rec : LoopState → Option Code → Loop, rec = fun st pe => { state := st, pending := pe, fn, tmps := a.tmps, params := #[t], assign, body, defers := w.heap.size } := ⟨_, rfl⟩
 obtain ⟨W1, hW1⟩ : ∃ W1, (w.alloc (.deferred (some []))).alloc (.loop (rec .ready none)) = W1 := ⟨_, rfl⟩
 have hf1 : Nw w W1 := by rw [← hW1]; exact ((Fr.refl _ w).alloc _).alloc _
 have hs1 : W1.heap.size = w.heap.size + 2 := by rw [← hW1]; simp
 have hL1 : W1.heap[w.heap.size + 1]? = some (.loop (rec .ready none)) := by
  rw [← hW1]
  have := heap_alloc_new (w.alloc (.deferred (some []))) (.loop (rec .ready none))
  simpa using this
 have hK1 : W1.heap[w.heap.size]? = some (.deferred (some [])) := by
  rw [← hW1]; exact (Below.heap_alloc _ _ _ (by simp)).trans (heap_alloc_new w _)
 have hI1 : I [] C W1 := hI.st _ _ _ _ _ h0 hf1 (fun k h => h.elim)
 have hXl := hA.mem.blk.lt
 have hb0 : ∀ (k : Nat) (A : World) (cur : Array Value) (e : TypeId) (o : Obj), A.heap[k]? = some o → loopy o = true → ¬ Blk A k cur e := fun k A cur e o ho hl hb => by
  have hb' : A.heap[k]? = some (.cells cur e (0, 0)) := hb
  rw [hb'] at ho
  cases ho
  cases hl
 have hSink : Sink X zs (s.busyAs true) (w.heap.size + 1) W1.heap.size (solN s.d s.bs zs.length [])
   (fun done C A => I done C A ∧ A.heap[w.heap.size + 1]? = some (.loop (rec .ready none)) ∧ A.heap[w.heap.size]? = some (.deferred (some [])))
   (fun done C A => Ix done C A ∧ A.heap[w.heap.size + 1]? = some (.loop (rec .done (some (.exit id)))) ∧ A.heap[w.heap.size]? = some (.deferred (some []))) := by
  refine ⟨?_, ?_, ?_, ?_, ?_, ?_⟩
  ·rintro done C S A B ⟨h1, h2, h3⟩ hf hs
   exact ⟨hI.st _ _ _ _ _ h1 hf (fun k hk => ⟨.inl ⟨by have := (hs k hk).1; omega, (hs k hk).2.1⟩, (hs k hk).2.2⟩), (hf.block _ (lt_of_block h2) (fun hk => by have := (hs _ hk).1; omega)).trans h2, (hf.block _ (lt_of_block h3) (fun hk => by have := (hs _ hk).1; omega)).trans h3⟩
  ·rintro done C S A B ⟨h1, h2, h3⟩ hf hs
   exact ⟨hIx.st _ _ _ _ _ h1 hf (fun k hk => ⟨.inl ⟨by have := (hs k hk).1; omega, (hs k hk).2.1⟩, (hs k hk).2.2⟩), (hf.block _ (lt_of_block h2) (fun hk => by have := (hs _ hk).1; omega)).trans h2, (hf.block _ (lt_of_block h3) (fun hk => by have := (hs _ hk).1; omega)).trans h3⟩
  ·exact fun done C A k h hc => hI.cells _ _ _ _ h.1 hc
  ·exact fun done C A k h hc => hIx.cells _ _ _ _ h.1 hc
  ·exact fun done C A h => ⟨_, h.2.1⟩
  ·rintro done C x b cap m W ⟨hi, hl, hk⟩ hAW hpre hbN hbC hrow
   refine yieldAt_any (m := n - 1 - 1) ?_
   have hlt : w.heap.size + 1 < W.heap.size := lt_of_block hl
   obtain ⟨v, hv⟩ : ∃ v, Value.slice (some ⟨b, 0, none⟩) x.length cap = v := ⟨_, rfl⟩
   have hy := run_yield (P := Tryz.prog) (args := #[v]) hl (by rw [hrec]; rfl)
   rw [hrec] at hy
   dsimp only at hy
   have hfold : ((#[t] : Array Tmp).zip #[v]).foldl (fun tmps (x : Tmp × Value) => match x with | (t, a) => tmps.setIfInBounds t a) a.tmps = a.tmps.setIfInBounds t v := by simp
   rw [hfold] at hy
   obtain ⟨Wy, hWy⟩ : ∃ Wy, W.putObj (w.heap.size + 1) (.loop { rec .ready none with state := .busy }) = Wy := ⟨_, rfl⟩
   have hfy : Fr (fun k => k = w.heap.size + 1) W Wy := by rw [← hWy]; exact (Fr.refl (fun k => k = w.heap.size + 1) W).grown (grownBy_putObj' W _ _) (fun k hk => by cases hk; exact .inl rfl)
   have hl2 : Wy.heap[w.heap.size + 1]? = some (.loop { rec .ready none with state := .busy }) := by rw [← hWy]; exact World.putObj_heap_same hlt
   have hk2 : Wy.heap[w.heap.size]? = some (.deferred (some [])) := by rw [← hWy]; exact (World.putObj_heap_other (by omega)).trans hk
   have hCW : ∀ k, C k → ∃ cur e, Blk W k cur e ∧ e ≠ 151 := fun k hk => hI.cells _ _ _ _ hi hk
   have hLC : ¬ C (w.heap.size + 1) := fun hc => by
    obtain ⟨cur, e, hb, _⟩ := hCW _ hc
    exact hb0 _ _ _ _ _ hl rfl hb
   have hDC : ¬ C w.heap.size := fun hc => by
    obtain ⟨cur, e, hb, _⟩ := hCW _ hc
    exact hb0 _ _ _ _ _ hk rfl hb
   have hiy : I done C Wy := hI.st _ _ _ _ _ hi hfy (fun k hk => ⟨.inl ⟨by omega, by rw [hk]; exact hLC⟩, fun cur hb => by rw [hk] at hb; exact hb0 _ _ _ _ _ hl rfl hb⟩)
   have hAy : WAt Wy X zs (s.busyAs true) := hAW.frN hfy (fun k hk e => by
    obtain ⟨cur, e', hb, _⟩ := hAW.mem.ty hk
    rw [e] at hb
    exact hb0 _ _ _ _ _ hl rfl hb) (fun k cur hk hb => by
    rw [hk] at hb
    exact hb0 _ _ _ _ _ hl rfl hb)
   have hry : Row Wy (.slice (some ⟨b, 0, none⟩) x.length cap) 3 (ints x) := hrow.fr hfy (fun k hk e => by cases hk; have e' : b = w.heap.size + 1 := e; omega)
   have hbody := hround (w.heap.size + 1) done C x b cap Wy hpre hiy hAy (by omega) hbC hry
   rw [hv] at hbody ⊢
   refine ⟨fn, _, assign, body, hy, roundIn_of_wpIn hfn ?_⟩
   refine hassign _ v W _ ?_
   refine ⟨Wy, ?_, ?_⟩
   ·rw [← hWy]
    exact run_beginRound hl (by rw [hrec])
   refine wpIn_mono hbody ?_
   have hsy := hfy.size
   have hnS : ∀ k, k = w.heap.size + 1 ∨ k = w.heap.size → ¬ (C k ∨ k = b) := fun k hk h => by
    rcases hk with rfl | rfl
    ·rcases h with h | h
     ·exact hLC h
     ·omega
    ·rcases h with h | h
     ·exact hDC h
     ·omega
   have hend : ∀ (C' : Nat → Prop) (W3 : World) (o : Obj), (∀ k, C' k → C k ∨ k = b ∨ Wy.heap.size ≤ k) → Fr (fun k => C k ∨ k = b) Wy W3 → (∀ k, C' k → C k ∨ k = b ∨ W.heap.size ≤ k) ∧ Fr (fun k => C k ∨ k = b ∨ k = w.heap.size + 1) W (W3.putObj (w.heap.size + 1) o) ∧ Fr (fun k => k = w.heap.size + 1) W3 (W3.putObj (w.heap.size + 1) o) ∧ ¬ C' (w.heap.size + 1) := fun C' W3 o h1 h2 => by
    have hp : Fr (fun k => k = w.heap.size + 1) W3 (W3.putObj (w.heap.size + 1) o) := (Fr.refl (fun k => k = w.heap.size + 1) W3).grown (grownBy_putObj' W3 _ _) (fun k hk => by cases hk; exact .inl rfl)
    have h1' : ∀ k, C' k → C k ∨ k = b ∨ W.heap.size ≤ k := fun k hk => (h1 k hk).imp (fun h => h) (fun h => h.imp (fun h => h) (fun h => by omega))
    refine ⟨h1', (((hfy.mono (S' := fun k => C k ∨ k = b ∨ k = w.heap.size + 1) (fun i h => .inl (.inr (.inr h)))).trans h2 (fun i h => .inl (h.imp (fun h => h) .inl))).trans hp (fun i h => .inl (.inr (.inr h)))), hp, fun hc => ?_⟩
    rcases h1' _ hc with h | h | h
    ·exact hLC h
    ·omega
    ·omega
   rintro e a3 W3 hp
   cases e with
   | normal =>
    obtain ⟨C', hg3, hf3, hi3⟩ := hp
    have hl3 := (hf3.block _ (lt_of_block hl2) (hnS _ (.inl rfl))).trans hl2
    have hk3 := (hf3.block _ (lt_of_block hk2) (hnS _ (.inr rfl))).trans hk2
    have he := run_endRound (P := Tryz.prog) none hl3
    refine ⟨_, _, he, ?_⟩
    obtain ⟨h1, h2, h3, h4⟩ := hend C' W3 _ hg3 hf3
    refine ⟨C', h1, h2, .inl ⟨rfl, hI.st _ _ _ _ _ hi3 h3 (fun k hk => ⟨.inl ⟨by omega, by rw [hk]; exact h4⟩, fun cur hb => by rw [hk] at hb; exact hb0 _ _ _ _ _ hl3 rfl hb⟩), ?_, (World.putObj_heap_other (by omega)).trans hk3⟩⟩
    rw [World.putObj_heap_same (lt_of_block hl3), hrec]
    rfl
   | exit i =>
    obtain ⟨rfl, C', hg3, hf3, hi3⟩ := hp
    have hl3 := (hf3.block _ (lt_of_block hl2) (hnS _ (.inl rfl))).trans hl2
    have hk3 := (hf3.block _ (lt_of_block hk2) (hnS _ (.inr rfl))).trans hk2
    have he := run_endRound (P := Tryz.prog) (some (.exit i)) hl3
    refine ⟨_, _, he, ?_⟩
    obtain ⟨h1, h2, h3, h4⟩ := hend C' W3 _ hg3 hf3
    refine ⟨C', h1, h2, .inr ⟨rfl, hIx.st _ _ _ _ _ hi3 h3 (fun k hk => ⟨.inl ⟨by omega, by rw [hk]; exact h4⟩, fun cur hb => by rw [hk] at hb; exact hb0 _ _ _ _ _ hl3 rfl hb⟩), ?_, (World.putObj_heap_other (by omega)).trans hk3⟩⟩
    rw [World.putObj_heap_same (lt_of_block hl3), hrec]
    rfl
   | ret => exact hp.elim
   | goto t => exact hp.elim
   | panic ch => exact hp.elim
   | outgrown => exact hp.elim
 refine ⟨w.heap.size + 1, [mark w.heap.size], W1, { target := .fn (.func 77) #[], args := #[.pointer (some ⟨X, 0, none⟩), .func (.yield (w.heap.size + 1)) #[] #[]] }, W1, 77,
  #[.pointer (some ⟨X, 0, none⟩), .func (.yield (w.heap.size + 1)) #[] #[]], W1, ?_, ?_, ?_, ?_, (fun h => by cases h), ?_⟩
 ·rw [← hW1, hrec]; exact run_enterLoop_outer _ _ _ _ _
 ·simp only [resolve, hg]
  simp [go_sem]
 ·intro f' _; trivial
 ·simp [invoke, go_sem]
 ·refine (callsIn_wide.2 (goThrough_any X zs s (w.heap.size + 1) _ _ C W1 (hA.nw hf1) hbz hSink ?_ ?_ ⟨hI1, hL1, hK1⟩ hC hpos)).mono ?_
  ·rintro done C A B ⟨h1, h2, h3⟩ hf hno
   exact ⟨hI.st _ _ _ _ _ h1 hf (fun k hk => ⟨.inr hk, fun cur hb => hno cur (hk ▸ hb)⟩), (hf.block _ (lt_of_block h2) (by omega)).trans h2, (hf.block _ (lt_of_block h3) (by omega)).trans h3⟩
  ·rintro done C A B ⟨h1, h2, h3⟩ hf hno
   exact ⟨hIx.st _ _ _ _ _ h1 hf (fun k hk => ⟨.inr hk, fun cur hb => hno cur (hk ▸ hb)⟩), (hf.block _ (lt_of_block h2) (by omega)).trans h2, (hf.block _ (lt_of_block h3) (by omega)).trans h3⟩
  have hfin : ∀ (C' : Nat → Prop) (W2 : World) (o : Obj) (r : Loop), (∀ k, C' k → C k ∨ W1.heap.size ≤ k) → WAt W2 X zs s → Fr (fun k => C k ∨ k = w.heap.size + 1 ∨ k = X) W1 W2 → W2.heap[w.heap.size + 1]? = some (.loop r) → (∀ k, C' k → C k ∨ w.heap.size ≤ k) ∧ WAt (W2.putObj (w.heap.size + 1) o) X zs s ∧ Fr (fun k => C k ∨ k = X) w (W2.putObj (w.heap.size + 1) o) ∧ Fr (fun k => k = w.heap.size + 1) W2 (W2.putObj (w.heap.size + 1) o) ∧ ((∀ k, C k → k < w.heap.size) → ¬ C' (w.heap.size + 1)) := fun C' W2 o r h1 h2 h3 h4 => by
   have hp : Fr (fun k => k = w.heap.size + 1) W2 (W2.putObj (w.heap.size + 1) o) := (Fr.refl (fun k => k = w.heap.size + 1) W2).grown (grownBy_putObj' W2 _ _) (fun k hk => by cases hk; exact .inl rfl)
   refine ⟨fun k hk => (h1 k hk).imp (fun h => h) (fun h => by omega), ?_, ?_, hp, fun hlt hc => ?_⟩
   ·refine h2.frN hp (fun k hk e => ?_) (fun k cur hk hb => ?_)
    ·obtain ⟨cur, e', hb, _⟩ := h2.mem.ty hk
     rw [e] at hb
     exact hb0 _ _ _ _ _ h4 rfl hb
    ·rw [hk] at hb
     exact hb0 _ _ _ _ _ h4 rfl hb
   ·refine ((hf1.mono (fun i h => h.elim)).trans h3 (fun i h => ?_)).trans hp (fun i h => .inr (by omega))
    rcases h with h | h | h
    ·exact .inl (.inl h)
    ·exact .inr (by omega)
    ·exact .inl (.inr h)
   ·rcases h1 _ hc with h | h
    ·have := hlt _ h; omega
    ·omega
  have hCl : ∀ k, C k → k < w.heap.size := fun k hk => by
   obtain ⟨cur, e, hb, _⟩ := hI.cells _ _ _ _ h0 hk
   exact hb.lt
  rintro e W2 ⟨⟨v, rfl⟩, C', hgr, hA2, hf2, hcase⟩
  rcases hcase with ⟨hi, hl, hk⟩ | ⟨p, x, hpre, hi, hl, hk⟩
  ·obtain ⟨h1, h2, h3, h4, h5⟩ := hfin C' W2 (.loop { rec .ready none with state := .exhausted }) _ hgr hA2 hf2 hl
   refine ⟨none, _, ?_, hdone w.heap.size C' _ (Nat.le_refl _) h1 (hI.st _ _ _ _ _ hi h4 (fun k hk => ⟨.inl ⟨by omega, by rw [hk]; exact h5 hCl⟩, fun cur hb => by rw [hk] at hb; exact hb0 _ _ _ _ _ hl rfl hb⟩)) h2 h3 ((World.putObj_heap_other (by omega)).trans hk)⟩
   have := run_endLoop (P := Tryz.prog) hl (by rw [hrec]; simp)
   rw [hrec] at this ⊢
   exact this
  ·obtain ⟨h1, h2, h3, h4, h5⟩ := hfin C' W2 (.loop { rec .done (some (.exit id)) with state := .exhausted }) _ hgr hA2 hf2 hl
   refine ⟨some (.exit id), _, ?_, hstop w.heap.size C' p x _ (Nat.le_refl _) h1 hpre (hIx.st _ _ _ _ _ hi h4 (fun k hk => ⟨.inl ⟨by omega, by rw [hk]; exact h5 hCl⟩, fun cur hb => by rw [hk] at hb; exact hb0 _ _ _ _ _ hl rfl hb⟩)) h2 h3 ((World.putObj_heap_other (by omega)).trans hk)⟩
   have := run_endLoop (P := Tryz.prog) hl (by rw [hrec]; simp)
   rw [hrec] at this ⊢
   exact this
end Go.Proofs.YtkjfpdfkcfgfkaaGreat

namespace Go.Proofs.YtkjfpdfkcfgfkaaGreat
open Go.RowKit Go.Shelf
attribute [local go_sem] Oper.semAt_some

set_option maxHeartbeats 3200000 in
set_option maxRecDepth 1000000 in
theorem count_all (X : Nat) (zs : List Int) (s : WS) (most : Nat) (W : World) (hA : WAt W X zs s) (hbz : s.l.busy = false) (hm : (most : Int) < 9223372036854775808) (hpos : ∀ i, i < s.ts.length → 1 ≤ (s.ts.getD i tab0).vars.length) :
  Calls Tryz.prog 55 #[.pointer (some ⟨X, 0, none⟩), .int .i64 (most : Int)] W fun e W' => e = .returned (.tuple #[.int .i64 ((min most (solN s.d s.bs zs.length []).length : Nat) : Int), .int .i64 0]) ∧ WAt W' X zs s ∧ Fr (s.own X) W W' := by
 have hd8 : s.d.length = 8 := hA.good.dm.len
 have hcb : W.cell? ⟨X, 12, none⟩ = some (.bool false) := (hA.mem.blk.cell 12).trans ((workCells_busy _ _ _ _ hd8).trans (by rw [hbz]))
 have hXl := hA.mem.blk.lt
 have hge : ¬ ((most : Int) < 0) := by omega
 refine (callsIn_wide (n := 9)).1 ?_
 refine callsIn_of_wp_marks Tryz.func55 rfl trivial ?_ rfl
 simp only [Tryz.ntmps55, List.size_toArray, List.length_cons, List.length_nil, Nat.reduceAdd, Nat.reduceSub, Array.replicate_succ, Array.replicate_zero, List.push_toArray, List.append_toArray, List.nil_append, List.cons_append]
 gi_wp2_with (refine ⟨trivial, ?_⟩; gi_at_call 50; refine (callsIn_wide.2 (solutions_any X _)).mono ?_; rintro e w' ⟨rfl, rfl⟩)
 obtain ⟨W1, hW1⟩ : ∃ W1, (W.alloc (.cells #[.int .i64 (most : Int)] 3)).alloc (.cells #[.int .i64 0] 3) = W1 := ⟨_, rfl⟩
 have hf1 : Nw W W1 := by rw [← hW1]; exact ((Fr.refl _ W).alloc _).alloc _
 have hs1 : W1.heap.size = W.heap.size + 2 := by rw [← hW1]; simp
 have hb0 : Blk W1 W.heap.size #[.int .i64 (most : Int)] 3 := by rw [← hW1]; exact (Blk.new _ _ _).alloc _
 have hb1 : Blk W1 (W.heap.size + 1) #[.int .i64 0] 3 := by
  have h := Blk.new (W.alloc (.cells #[.int .i64 (most : Int)] 3)) #[.int .i64 0] 3
  rw [hW1] at h
  simpa using h
 rw [hW1]
 have HA := hd hA
 clear hA hW1 hcb
 have hinv : ∀ (R : List (List Nat) → Prop) (c : List (List Nat) → Nat), SolInv X W1.heap.size (fun done C A => (∀ k, C k ↔ k = W.heap.size + 1) ∧ Blk A W.heap.size #[.int .i64 (most : Int)] 3 ∧ Blk A (W.heap.size + 1) #[.int .i64 (c done : Int)] 3 ∧ R done) := fun R c => by
  refine ⟨?_, ?_⟩
  ·rintro done C S A B ⟨h1, h2, h3, h4⟩ hf hs
   refine ⟨h1, h2.fr hf (fun h => ?_), h3.fr hf (fun h => ?_), h4⟩
   ·rcases (hs _ h).1 with h | h <;> omega
   ·rcases (hs _ h).1 with h | h <;> omega
  ·rintro done C A k ⟨h1, h2, h3, h4⟩ hk
   rw [(h1 k).1 hk]
   exact ⟨_, _, h3, by decide⟩
 refine wp_sols (id := 1) (zs := zs) (s := s) (fun v => { tmps := #[.pointer (some ⟨X, 0, none⟩), .int .i64 (most : Int), undef, .pointer (some ⟨W.heap.size, 0, none⟩), .int .i64 0, .int .i64 0, .pointer (some ⟨W.heap.size + 1, 0, none⟩), .bool false, .pointer (some ⟨X, 0, none⟩), .pointer (some ⟨X, 0, none⟩), .pointer (some ⟨X, 12, none⟩), .bool false, .bool false, .int .i64 (most : Int), .bool false, .pointer (some ⟨X, 0, none⟩), .func (.func 77) #[.pointer (some ⟨X, 0, none⟩)] #[], v, undef, undef, undef, undef, undef, undef], defers := [] }) rfl (HA.out.nw hf1) hbz hpos (fun l v W' K hK => ?asg)
  (fun done C A => (∀ k, C k ↔ k = W.heap.size + 1) ∧ Blk A W.heap.size #[.int .i64 (most : Int)] 3 ∧ Blk A (W.heap.size + 1) #[.int .i64 ((done.length : Nat) : Int)] 3 ∧ done.length ≤ most)
  (fun done C A => (∀ k, C k ↔ k = W.heap.size + 1) ∧ Blk A W.heap.size #[.int .i64 (most : Int)] 3 ∧ Blk A (W.heap.size + 1) #[.int .i64 ((most : Nat) : Int)] 3 ∧ done.length = most + 1)
  (hinv (fun done => done.length ≤ most) (fun done => done.length)) (hinv (fun done => done.length = most + 1) (fun _ => most)) (fun k => k = W.heap.size + 1) (fun k hk e => by have := HA.out.mem.lt hk; omega) ⟨fun k => Iff.rfl, hb0, hb1, Nat.zero_le _⟩ ?round ?done ?stop
 case asg =>
  gi_wp2
  exact hK
 case round =>
  rintro lp done C x b cap Wr hpre ⟨hC, h0, h1, hle⟩ hAr hbN hbC hrow
  have c0 : Wr.cell? ⟨W.heap.size, 0, none⟩ = some (.int .i64 (most : Int)) := h0.cell 0
  have c1 : Wr.cell? ⟨W.heap.size + 1, 0, none⟩ = some (.int .i64 ((done.length : Nat) : Int)) := h1.cell 0
  have c1f := h1.free 0
  have H0 := hd h0
  have H1 := hd h1
  have HC := hd hC
  clear h0 h1 hC hAr hrow
  by_cases he : done.length = most
  ·have he' : ((done.length : Int) == (most : Int)) = true := by simp [he]
   gi_wp2_with fail
   exact ⟨rfl, C, fun k h => .inl h, Fr.refl _ _, HC.out, H0.out, by rw [← he]; exact H1.out, by simp [he]⟩
  ·have he' : ((done.length : Int) == (most : Int)) = false := by rw [beq_eq_false_iff_ne]; omega
   have hlt : (done.length : Int) + 1 < 9223372036854775808 := by omega
   gi_wp2_with fail
   have hf5 : Fr (fun k => k = W.heap.size + 1) Wr (Wr.setCell ⟨W.heap.size + 1, 0, none⟩ (.int .i64 ((done.length : Int) + 1))) := (Fr.refl _ Wr).setCell _ _ (.inl rfl)
   refine ⟨C, fun k h => .inl h, hf5.mono (fun i h => .inl (.inl ((HC.out i).2 h))), HC.out, H0.out.fr hf5 (by omega), ?_, by simp; omega⟩
   have h5 := H1.out.set 0 (.int .i64 ((done.length : Int) + 1))
   have e5 : (((done ++ [x]).length : Nat) : Int) = (done.length : Int) + 1 := by simp
   rw [e5]
   exact h5
 case done =>
  rintro D C' Wd hD hg ⟨hC, h0, h1, hle⟩ hAd hfd hK
  have c1 : Wd.cell? ⟨W.heap.size + 1, 0, none⟩ = some (.int .i64 (((solN s.d s.bs zs.length []).length : Nat) : Int)) := h1.cell 0
  gi_wp2_with fail
  have hpD : Fr (fun k => k = D) Wd (Wd.putObj D (.deferred none)) := (Fr.refl (fun k => k = D) Wd).grown (grownBy_putObj' Wd D _) (fun k hk => by cases hk; exact .inl rfl)
  have hnb : ∀ cur e, ¬ Blk Wd D cur e := fun cur e hb => by
   have hb' : Wd.heap[D]? = some (.cells cur e (0, 0)) := hb
   rw [hK] at hb'
   cases hb'
  refine ⟨by simp, .inl ⟨_, _, rfl, run_takeDeferred hK, ?_⟩⟩
  refine ⟨_, results_tmp2 rfl _ _ _, ?_, hAd.frN hpD (fun k hk e => ?_) (fun k cur hk hb => ?_), ?_⟩
  ·have e5 : min most (solN s.d s.bs zs.length []).length = (solN s.d s.bs zs.length []).length := by omega
   rw [e5]
   rfl
  ·obtain ⟨cur, e', hb, _⟩ := hAd.mem.ty hk
   rw [e] at hb
   exact hnb _ _ hb
  ·rw [hk] at hb
   exact hnb _ _ hb
  ·refine ((hf1.mono (fun i h => h.elim)).trans hfd (fun i h => ?_)).trans hpD (fun i h => .inr (by omega))
   rcases h with h | h
   ·exact .inr (by omega)
   ·exact .inl (.inl h)
 case stop =>
  rintro D C' p x Wd hD hg hpx ⟨hC, h0, h1, hle⟩ hAd hfd hK
  have c1 : Wd.cell? ⟨W.heap.size + 1, 0, none⟩ = some (.int .i64 ((most : Nat) : Int)) := h1.cell 0
  gi_wp2_with fail
  have hpD : Fr (fun k => k = D) Wd (Wd.putObj D (.deferred none)) := (Fr.refl (fun k => k = D) Wd).grown (grownBy_putObj' Wd D _) (fun k hk => by cases hk; exact .inl rfl)
  have hnb : ∀ cur e, ¬ Blk Wd D cur e := fun cur e hb => by
   have hb' : Wd.heap[D]? = some (.cells cur e (0, 0)) := hb
   rw [hK] at hb'
   cases hb'
  refine ⟨by simp, .inl ⟨_, _, rfl, run_takeDeferred hK, ?_⟩⟩
  refine ⟨_, results_tmp2 rfl _ _ _, ?_, hAd.frN hpD (fun k hk e => ?_) (fun k cur hk hb => ?_), ?_⟩
  ·have h6 := hpx.length_le
   have e5 : min most (solN s.d s.bs zs.length []).length = most := by omega
   rw [e5]
   rfl
  ·obtain ⟨cur, e', hb, _⟩ := hAd.mem.ty hk
   rw [e] at hb
   exact hnb _ _ hb
  ·rw [hk] at hb
   exact hnb _ _ hb
  ·refine ((hf1.mono (fun i h => h.elim)).trans hfd (fun i h => ?_)).trans hpD (fun i h => .inr (by omega))
   rcases h with h | h
   ·exact .inr (by omega)
   ·exact .inl (.inl h)
theorem count_any (X : Nat) (zs : List Int) (s : WS) (most : Nat) (W : World) (hA : WAt W X zs s) (hbz : s.l.busy = false) (hm : (most : Int) < 9223372036854775807) (hpos : ∀ i, i < s.ts.length → 1 ≤ (s.ts.getD i tab0).vars.length) :
  Calls Tryz.prog 55 #[.pointer (some ⟨X, 0, none⟩), .int .i64 (most : Int)] W fun e W' => e = .returned (.tuple #[.int .i64 ((min most (solN s.d s.bs zs.length []).length : Nat) : Int), .int .i64 0]) ∧ WAt W' X zs s ∧ Fr (s.own X) W W' := count_all X zs s most W hA hbz (by omega) hpos
end Go.Proofs.YtkjfpdfkcfgfkaaGreat

namespace Go.Proofs.YtkjfpdfkcfgfkaaGreat
open Go.RowKit

theorem Tryz.infoTableR : (Tryz.prog.info? 41).map (fun i => (i.zero, i.size, i.bytes)) = some (some (.agg #[.slice none 0 0, .slice none 0 0, .bool false, .int .i64 0]), 4, 64) := by kernel_rfl
theorem exec_load4 {ev : Operand → Value} {o : Oper} {w : World} {b off : Nat} {v0 v1 v2 v3 : Value} (t : TypeId) (x : Operand) (ho : o.op = .load t x) (hx : ev x = .pointer (some ⟨b, off, none⟩)) (hag : (isAgg t).run Tryz.prog w = .ok true w) (hsz : (sizeOf t).run Tryz.prog w = .ok 4 w)
  (c0 : w.cell? ⟨b, off, none⟩ = some v0) (c1 : w.cell? ⟨b, off + 1, none⟩ = some v1) (c2 : w.cell? ⟨b, off + 2, none⟩ = some v2) (c3 : w.cell? ⟨b, off + 3, none⟩ = some v3) :
  (execOp ev o).run Tryz.prog w = .ok (.value (.agg #[v0, v1, v2, v3])) w := by
 have hl : ∀ (a : Addr) (v : Value), w.cell? a = some v → (Sem.load Mode.plain a Sem.pure).run Tryz.prog w = .ok v w := fun a v hc => by
  unfold Sem.run
  rw [hc]
  rfl
 unfold execOp
 simp [ho, hx, Instr.loadAt, Instr.sureAddr, loadVar, hag, hsz, Result.andThen, load, loadCells, loadCellsFrom, Addr.add, hl _ _ c0, hl _ _ c1, hl _ _ c2, hl _ _ c3]
theorem exec_appendN {ev : Operand → Value} {o : Oper} {w : World} {v : Value} {xs ys : List Value} {g c n : Nat} {e : TypeId} {i0 : TypeInfo} {z : Value} (sz by_ : Nat) (s y : Operand) (t : TypeId) (ho : o.op = .call { callee := .builtin .append, args := #[s, y], argTypes := #[t, t] }) (hs : ev s = v) (hy : ev y = .slice (some ⟨g, 0, none⟩) 1 c)
  (ht : Tryz.prog.underlying t = some (.slice e)) (hi : Tryz.prog.info? e = some i0) (hz : i0.zero = some z) (h1 : i0.size = sz) (hb : i0.bytes = by_) (hzc : z.cells.size = sz) (hsz : 0 < sz)
  (hr : w.ownsRow 0 e sz v n xs) (hyl : ys.length = 1 * sz) (hc : ∀ j u, ys[j]? = some u → w.cell? ((⟨g, 0, none⟩ : Addr).add j) = some u) (hx : ∀ u ∈ ys, u.oneCell' = true) (h63 : n + 1 ≤ maxLen) (hl : (n + 1) * by_ ≤ 140737488355328) :
  ∃ v' w', (execOp ev o).run Tryz.prog w = .ok (.value v') w' ∧ w'.ownsRow 0 e sz v' (n + 1) (xs ++ ys) ∧ w.grownBy w' v.ownBlock ∧ (v'.ownBlock = v.ownBlock ∨ v'.ownBlock = some w.heap.size) := by
 obtain ⟨v', w', hr', h2, h3, _, h5⟩ := run_append_own_at (P := Tryz.prog) w 0 t o.type e i0 z sz by_ ht hi hz h1 hb hzc hsz v n xs hr ⟨g, 0, none⟩ 1 c ys hyl hc hx h63 hl (Nat.zero_le _)
 refine ⟨v', w', ?_, h2, h3, h5⟩
 unfold execOp
 simp only [ho, resolve, invoke, builtin, Sem.run_bind, Sem.run_pure, Result.andThen_ok, List.map_toArray, List.map_cons, List.map_nil, hs, hy, hr']
theorem appS {w w1 : World} {e : TypeId} {size : Nat} {v v' : Value} {k : Nat} {xs : List Value} (h1 : w1.ownsRow 0 e size v' (k + 1) xs) (hg : w.grownBy w1 v.ownBlock) (hat : v'.ownBlock = v.ownBlock ∨ v'.ownBlock = some w.heap.size) :
  ∃ g cap, v' = .slice (some ⟨g, 0, none⟩) (k + 1) cap ∧ Fr (fun j => v.ownBlock = some j) w w1 ∧ (v.ownBlock = some g ∨ w.heap.size ≤ g) ∧ g < w1.heap.size := by
 have hfr : Fr (fun j => v.ownBlock = some j) w w1 := (Fr.refl (fun j => v.ownBlock = some j) w).grown hg (fun k hk => .inl hk)
 rcases h1.2 with ⟨_, hn⟩ | ⟨g, cap, cur, rfl, _, hgg, _⟩
 ·omega
 ·refine ⟨g, cap, rfl, hfr, ?_, lt_of_block hgg⟩
  rcases hat with hat | hat
  ·exact .inl hat.symm
  ·right
   have : g = w.heap.size := by simpa [Value.ownBlock] using hat
   omega
theorem blk_cells {w : World} {g : Nat} {xs : List Value} {e : TypeId} (h : Blk w g xs.toArray e) : ∀ j u, xs[j]? = some u → w.cell? ((⟨g, 0, none⟩ : Addr).add j) = some u := by
 intro j u hj
 rw [show (⟨g, 0, none⟩ : Addr).add j = ⟨g, j, none⟩ from by by_cases h : j = 0 <;> simp [Addr.add, h], h.cell]
 simpa using hj
noncomputable def postReg : Array Oper := regOps Tryz.f79 10
def postEv (x y : Value) : Operand → Value
 | .tmp 31 => x
 | .tmp _ => y
 | _ => undef

set_option maxHeartbeats 1600000 in
set_option maxRecDepth 1000000 in
theorem refPost_yes (W : World) (lo Y : Nat) (zs : List Int) (R : RS) (vo ro : Option Addr) (vcap rcap : Nat) (vars : List Int) (rows : List (List Int)) (nt : Bool) (way : Int) (w : World) (hlo : W.heap.size ≤ lo) (hlw : lo ≤ w.heap.size) (hW : Nw W w) (hR : RAt W w lo Y zs R) (hdd : R.now.dead = false) (hls : R.ls = []) (ht12 : R.ts.length < 12) (hok : okTable zs vars rows way = true)
  (hvs : IntsAt W vo vars) (hrs : RowsAt W ro rows) :
  Calls Tryz.prog 79 #[.pointer (some ⟨Y, 0, none⟩), .agg #[.slice vo vars.length vcap, .slice ro rows.length rcap, .bool nt, .int .i64 way]] w fun e w' => e = .returned (.int .i64 0) ∧ ∃ now tv d, RAt W w' lo Y zs { R with now := now, tv := tv, ts := R.ts ++ [⟨⟨vars, rows, nt⟩, way⟩] } ∧ Fr (R.wr Y) w w' ∧ (∀ k, RS.own Y { R with now := now, tv := tv, ts := R.ts ++ [⟨⟨vars, rows, nt⟩, way⟩] } k → R.own Y k ∨ w.heap.size ≤ k) ∧ Dm d ∧ Closure zs.length ((R.ts ++ [(⟨⟨vars, rows, nt⟩, way⟩ : TbW)]).map TbW.tb) (domB R.now.bss) d ∧ LinkD zs.length now d := by
 obtain ⟨B, hB⟩ : ∃ B, B = w.heap.size := ⟨_, rfl⟩
 obtain ⟨V, hV⟩ : ∃ V, V = w.alloc (.cells #[.slice vo vars.length vcap, .slice ro rows.length rcap, .bool nt, .int .i64 way] 41) := ⟨_, rfl⟩
 have hfV : Nw w V := by rw [hV]; exact (Fr.refl _ w).alloc _
 have hbB : Blk V B #[.slice vo vars.length vcap, .slice ro rows.length rcap, .bool nt, .int .i64 way] 41 := by rw [hV, hB]; exact Blk.new _ _ _
 have hRV := hR.nw hfV
 obtain ⟨_, hv1, hr60, hVO, _⟩ := okTable_parts hok (okSizes_len hR.rin.zok).2
 have hv4 := hVO.four
 have Hcall := hd (refTable_any lo Y zs R.szv R.now.inv R.now.vs R.now.bss R.now.dead R.tv R.lv vo ro vcap rcap vars rows nt way V (by omega) (by omega) hRV.rin ((hvs.nw hW).nw hfV) ((hrs.nw hW).nw hfV))
 rw [hok] at Hcall
 obtain ⟨cells, ht1, ht2⟩ := hRV.tabs
 obtain ⟨tto, tcap, htv⟩ := owns_form ht1
 have hll := hR.lrow
 obtain ⟨llo, lcap, hlv⟩ := owns_form hll
 rw [hls] at hlv
 have c0 : V.cell? ⟨B, 0, none⟩ = some (.slice vo vars.length vcap) := hbB.cell 0
 have c1 : V.cell? ⟨B, 1, none⟩ = some (.slice ro rows.length rcap) := hbB.cell 1
 have c2 : V.cell? ⟨B, 2, none⟩ = some (.bool nt) := hbB.cell 2
 have c3 : V.cell? ⟨B, 3, none⟩ = some (.int .i64 way) := hbB.cell 3
 have hBl := hbB.lt
 have HR := hd hRV
 have HR0 := hd hR
 have HfV := hd hfV
 have HbB := hd hbB
 have Hb0 := hd hB
 have HW := hd hW
 have Ht1 := hd ht1
 have Ht2 := hd ht2
 have Hlv := hd hlv
 have Htv := hd htv
 have Hdd := hd hdd
 have Hls := hd hls
 have Hvs := hd hvs
 have Hrs := hd hrs
 have Hok := hd hok
 obtain ⟨i0, hi0, hz0, hz1, hz2⟩ := info_parts Tryz.infoTableR
 obtain ⟨tn, htn⟩ : ∃ tn, R.ts.length = tn := ⟨_, rfl⟩
 have Htn := hd htn
 rw [htn] at ht12
 clear hbB hfV hR hRV hvs hrs ht1 ht2 htv hlv hll hdd hls hW htn hok
 go_enter Tryz.func79, Tryz.ntmps79
 go_upto_region 1 with fail
 rw [← hV, ← hB]
 clear hV hB
 go_wp2_with fail
 refine Hcall.out.mono ?_
 rintro e w1 ⟨rfl, hf1⟩
 have HR1 := hd (HR.out.nw hf1)
 have HB1 := hd (HbB.out.nw hf1)
 have Hf1 := hd (HfV.out.trans hf1 (fun _ x => x.elim))
 have d2 : w1.cell? ⟨Y, 2, none⟩ = some (.bool false) := by
  have := HR1.out.rin.blk.cell 2
  rw [Hdd.out] at this
  exact this
 have d3 : w1.cell? ⟨Y, 3, none⟩ = some (.slice tto tn tcap) := by
  have := HR1.out.rin.blk.cell 3
  rw [Htv.out, Htn.out] at this
  exact this
 have d4 : w1.cell? ⟨Y, 4, none⟩ = some (.slice llo 0 lcap) := by
  have := HR1.out.rin.blk.cell 4
  rw [Hlv.out] at this
  exact this
 have hYl := HR1.out.rin.blk.lt
 have hown1 : w1.ownsRow 0 41 4 (.slice tto tn tcap) tn cells := by
  have := ownsRow.fr Ht1.out hf1 (fun _ _ x => x)
  rw [Htv.out, Htn.out] at this
  exact this
 have Hown1 := hd hown1
 clear hf1 Hcall c0 c1 c2 c3 hBl hown1
 have hd12 : ¬ ((12 : Int) ≤ (tn : Int)) := by omega
 have hBl := HB1.out.lt
 have e0 : w1.cell? ⟨B, 0, none⟩ = some (.slice vo vars.length vcap) := HB1.out.cell 0
 have e1 : w1.cell? ⟨B, 1, none⟩ = some (.slice ro rows.length rcap) := HB1.out.cell 1
 have e2 : w1.cell? ⟨B, 2, none⟩ = some (.bool nt) := HB1.out.cell 2
 have e3 : w1.cell? ⟨B, 3, none⟩ = some (.int .i64 way) := HB1.out.cell 3
 go_wp2_with fail
 have HtvB : Hid (∀ k, (Value.slice tto tn tcap).ownBlock = some k → k < B) := fun k hk => by
  have h1 : k < w.heap.size := by
   obtain ⟨cells0, h0, _⟩ := HR0.out.tabs
   refine (World.ownsRow.lt h0 k ?_).2
   rw [Htv.out, Htn.out]
   exact hk
  rw [Hb0.out]
  exact h1
 have HtvY : Hid (∀ k, (Value.slice tto tn tcap).ownBlock = some k → k ≠ Y) := fun k hk e => by
  obtain ⟨cur, hb⟩ := ownsRow.blk Hown1.out hk
  rw [e] at hb
  exact absurd (hb.inj HR1.out.rin.blk).2 (by decide)
 have hK0 : Fr (fun k => (Value.slice tto tn tcap).ownBlock = some k) w1 w1.drew := (Fr.refl _ w1).drew
 have hnB : ¬ (Value.slice tto tn tcap).ownBlock = some B := fun h => by
  have := HtvB.out B h
  omega
 have hnY : ¬ (Value.slice tto tn tcap).ownBlock = some Y := fun h => HtvY.out Y h rfl
 refine region_nU postReg 11 (fun w'' => Fr (fun k => (Value.slice tto tn tcap).ownBlock = some k) w1 w'') 10 (by kernel_rfl) (by kernel_rfl) (by kernel_rfl) ?_
 refine takeU_at (i := 0) (d := some 27) (v := .pointer (some ⟨Y, 0, none⟩)) (by kernel_rfl) (by kernel_rfl) (fun _ _ _ h => h) (fun w'' hS => by kernel_rfl) hK0 ?_
 refine takeU_at (i := 1) (d := some 28) (v := .pointer (some ⟨Y, 0, none⟩)) (by kernel_rfl) (by kernel_rfl) (fun _ _ _ h => h) (fun w'' hS => by kernel_rfl) hK0 ?_
 refine takeU_at (i := 2) (d := some 29) (v := .pointer (some ⟨Y, 0, none⟩)) (by kernel_rfl) (by kernel_rfl) (fun _ _ _ h => h) (fun w'' hS => by kernel_rfl) hK0 ?_
 refine takeU_at (i := 3) (d := some 30) (v := .pointer (some ⟨Y, 3, none⟩)) (by kernel_rfl) (by kernel_rfl) (fun _ _ _ h => h) (fun w'' hS => by kernel_rfl) hK0 ?_
 refine takeU_at (i := 4) (d := some 31) (v := .slice tto tn tcap) (by kernel_rfl) (by kernel_rfl) (fun _ _ _ h => h) (fun w'' hS => exec_load 80 (.tmp 30) (by kernel_rfl) (by kernel_rfl) (by kernel_rfl) ((hS.cell hYl hnY).trans d3)) hK0 ?_
 refine takeU_at (i := 5) (d := some 32) (v := .agg #[.slice vo vars.length vcap, .slice ro rows.length rcap, .bool nt, .int .i64 way]) (by kernel_rfl) (by kernel_rfl) (fun _ _ _ h => h) (fun w'' hS => exec_load4 41 (.tmp 3) (by kernel_rfl) (by kernel_rfl) (by kernel_rfl) (by kernel_rfl) ((hS.cell hBl hnB).trans e0) ((hS.cell hBl hnB).trans e1) ((hS.cell hBl hnB).trans e2) ((hS.cell hBl hnB).trans e3)) hK0 ?_
 obtain ⟨wa, hwa⟩ : ∃ wa, w1.drew.alloc (.cells #[.slice vo vars.length vcap, .slice ro rows.length rcap, .bool nt, .int .i64 way] 41) = wa := ⟨_, rfl⟩
 have hfa : Nw w1 wa := by rw [← hwa]; exact ((Fr.refl _ w1).drew).alloc _
 have hba : Blk wa w1.heap.size #[.slice vo vars.length vcap, .slice ro rows.length rcap, .bool nt, .int .i64 way] 41 := by rw [← hwa]; exact Blk.new _ _ _
 have hKa : Fr (fun k => (Value.slice tto tn tcap).ownBlock = some k) w1 wa := hfa.mono (fun _ x => x.elim)
 refine valueU_at (i := 6) (d := some 33) (v := .slice (some ⟨w1.heap.size, 0, none⟩) 1 1) (w' := wa) (by kernel_rfl) (by kernel_rfl) (by rw [← hwa]; kernel_rfl) (fun _ => hKa) ?_
 obtain ⟨v', wb, hrun, hA1, hA2, hA3⟩ := exec_appendN (c := 1) (ys := [.slice vo vars.length vcap, .slice ro rows.length rcap, .bool nt, .int .i64 way]) (ev := postEv (.slice tto tn tcap) (.slice (some ⟨w1.heap.size, 0, none⟩) 1 1)) (o := opAt postReg 7) (w := wa) 4 64 (.tmp 31) (.tmp 33) 80 (by kernel_rfl) (by kernel_rfl) (by kernel_rfl) Tryz.underlying80 hi0 hz0 hz1 hz2 rfl (by decide) (ownsRow.fr Hown1.out hfa (fun _ _ x => x)) rfl (blk_cells hba) (by simp [Value.oneCell']) (by unfold maxLen; omega) (by omega)
 obtain ⟨g', cap', rfl, hfb, hab, hltb⟩ := appS hA1 hA2 hA3
 have hKb : Fr (fun k => (Value.slice tto tn tcap).ownBlock = some k) w1 wb := hKa.trans hfb (fun i h => .inl h)
 refine valueU_at (i := 7) (d := some 34) (v := .slice (some ⟨g', 0, none⟩) (tn + 1) cap') (w' := wb) (by kernel_rfl) (by kernel_rfl) (Eq.trans (exec_same (s := .tmp 31) (y := .tmp 33) (t := 80) (by kernel_rfl) (by kernel_rfl)) hrun) (fun _ => hKb) ?_
 have hbY := HR1.out.rin.blk.fr hKb hnY
 refine valueU_at (i := 8) (d := some 35) (v := .pointer (some ⟨Y, 0, none⟩)) (w' := wb) (by kernel_rfl) (by kernel_rfl) (by kernel_rfl) (fun _ => hKb) ?_
 refine valueU_at (i := 9) (d := some 36) (v := .pointer (some ⟨Y, 3, none⟩)) (w' := wb) (by kernel_rfl) (by kernel_rfl) (by kernel_rfl) (fun _ => hKb) ?_
 refine skipU_at (i := 10) (d := none) (w' := wb.setCell ⟨Y, 3, none⟩ (.slice (some ⟨g', 0, none⟩) (tn + 1) cap')) (by kernel_rfl) (by kernel_rfl) (exec_storeU (old := R.tv) 80 (.tmp 36) (.tmp 34) (by kernel_rfl) (by kernel_rfl) (by kernel_rfl) rfl (by kernel_rfl) (hbY.cell 3) (hbY.free 3)) (fun h => absurd rfl h) ?_
 refine anyU_done (by kernel_rfl) (show _ from ?_) _
 simp only [Act.put, List.setIfInBounds_toArray, List.set_cons_zero, List.set_cons_succ]
 obtain ⟨w2, hw2⟩ : ∃ w2, wb.setCell ⟨Y, 3, none⟩ (.slice (some ⟨g', 0, none⟩) (tn + 1) cap') = w2 := ⟨_, rfl⟩
 have hfs : Fr (fun k => k = Y) wb w2 := by rw [← hw2]; exact (Fr.refl (fun k => k = Y) wb).setCell _ _ (.inl rfl)
 have hg'Y : g' ≠ Y := fun e => by
  obtain ⟨cur, hb⟩ := ownsRow.blk hA1 (k := g') rfl
  rw [e] at hb
  exact absurd (hb.inj hbY).2 (by decide)
 have hblk2 : Blk w2 Y #[R.szv, R.now.inv, .bool R.now.dead, .slice (some ⟨g', 0, none⟩) (tn + 1) cap', R.lv] 83 := by
  rw [← hw2]
  have := hbY.set 3 (.slice (some ⟨g', 0, none⟩) (tn + 1) cap')
  simpa using this
 have hr1 := HR1.out.rin
 have hr2 : RIn w2 lo Y zs R.szv R.now.inv R.now.vs R.now.bss R.now.dead (.slice (some ⟨g', 0, none⟩) (tn + 1) cap') R.lv := by
  have hnT : ∀ {q : Nat} {cur : Array Value} {e : TypeId}, Blk w1 q cur e → e ≠ 41 → ¬ (Value.slice tto tn tcap).ownBlock = some q := fun hq he h => by
   obtain ⟨cur', hb'⟩ := ownsRow.blk Hown1.out h
   exact he (hq.inj hb').2
  have hnY2 : ∀ {q : Nat} {cur : Array Value} {e : TypeId}, Blk wb q cur e → e ≠ 83 → ¬ q = Y := fun hq he h => by
   rw [h] at hq
   exact he (hq.inj hbY).2
  have b1 : Row wb R.szv 3 (zs.map (Value.int .i64)) := hr1.sz.fr hKb (fun k hk => by
   obtain ⟨cur, hb, _⟩ := hr1.sz.blk hk
   exact hnT hb (by decide))
  have b2 : Row wb R.now.inv 84 R.now.vs := hr1.inn.fr hKb (fun k hk => by
   obtain ⟨cur, hb, _⟩ := hr1.inn.blk hk
   exact hnT hb (by decide))
  have b3 : InRows wb lo R.now.vs R.now.bss := hr1.rows.fr hKb (fun k cur hs hb => hnT hb (by decide) hs)
  exact ⟨hblk2, b1.fr hfs (fun k hk => by
   obtain ⟨cur, hb, _⟩ := b1.blk hk
   exact hnY2 hb (by decide)), b2.fr hfs (fun k hk => by
   obtain ⟨cur, hb, _⟩ := b2.blk hk
   exact hnY2 hb (by decide)), b3.fr hfs (fun k cur hs hb => hnY2 hb (by decide) hs), hr1.len, hr1.each, hr1.zok, hr1.szlo, hr1.inlo, hr1.ylo⟩
 have hown2 : w2.ownsRow 0 41 4 (.slice (some ⟨g', 0, none⟩) (tn + 1) cap') (tn + 1) (cells ++ [.slice vo vars.length vcap, .slice ro rows.length rcap, .bool nt, .int .i64 way]) := ownsRow.fr hA1 hfs (fun k hk e => by
  cases hk
  exact hg'Y e)
 have htc : TCells W (cells ++ [.slice vo vars.length vcap, .slice ro rows.length rcap, .bool nt, .int .i64 way]) (R.ts ++ [⟨⟨vars, rows, nt⟩, way⟩]) := Ht2.out.snoc (by rw [Htn.out]; exact Hown1.out.1) ⟨⟨vars, rows, nt⟩, way⟩ vo ro vcap rcap Hvs.out Hrs.out
 have hlen : (R.ts ++ [(⟨⟨vars, rows, nt⟩, way⟩ : TbW)]).length = tn + 1 := by rw [List.length_append, Htn.out]; rfl
 have hwsz := HfV.out.size
 have hglo : lo ≤ g' := by
  rcases hab with h | h
  ·exact HR1.out.tlo g' (by rw [Htv.out, Htn.out]; exact h)
  ·have := hfa.size
   have := Hf1.out.size
   omega
 have hR2 : RAt W w2 lo Y zs { R with tv := .slice (some ⟨g', 0, none⟩) (tn + 1) cap', ts := R.ts ++ [⟨⟨vars, rows, nt⟩, way⟩] } := by
  refine ⟨hr2, ⟨_, by show w2.ownsRow 0 41 4 _ (R.ts ++ [(⟨⟨vars, rows, nt⟩, way⟩ : TbW)]).length _; rw [hlen]; exact hown2, htc⟩, by show (R.ts ++ [(⟨⟨vars, rows, nt⟩, way⟩ : TbW)]).length ≤ 12; rw [hlen]; omega, fun i hi => ?_, ?_, ?_, HR1.out.l20, HR1.out.apart, fun k hk => (by cases hk; exact hglo), HR1.out.llo⟩
  ·have hi' : i < tn + 1 := by rw [← hlen]; exact hi
   by_cases he : i < R.ts.length
   ·have e1 : (R.ts ++ [(⟨⟨vars, rows, nt⟩, way⟩ : TbW)]).getD i tbw0 = R.ts.getD i tbw0 := by simp only [List.getD]; rw [List.getElem?_append_left he]
    show okTable zs ((R.ts ++ [(⟨⟨vars, rows, nt⟩, way⟩ : TbW)]).getD i tbw0).tb.vars _ _ = true
    rw [e1]
    exact HR1.out.tok i he
   ·obtain rfl : i = R.ts.length := by have := Htn.out; omega
    have e1 : (R.ts ++ [(⟨⟨vars, rows, nt⟩, way⟩ : TbW)]).getD R.ts.length tbw0 = ⟨⟨vars, rows, nt⟩, way⟩ := by simp [List.getD]
    show okTable zs ((R.ts ++ [(⟨⟨vars, rows, nt⟩, way⟩ : TbW)]).getD R.ts.length tbw0).tb.vars _ _ = true
    rw [e1]
    exact Hok.out
  ·refine ownsRow.fr (ownsRow.fr HR1.out.lrow hKb (fun k hk h => ?_)) hfs (fun k hk h => ?_)
   ·obtain ⟨cur, hb⟩ := ownsRow.blk HR1.out.lrow hk
    obtain ⟨cur', hb'⟩ := ownsRow.blk Hown1.out h
    exact absurd (hb.inj hb').2 (by decide)
   ·obtain ⟨cur, hb⟩ := ownsRow.blk HR1.out.lrow hk
    rw [h] at hb
    exact absurd (hb.inj hr1.blk).2 (by decide)
  ·intro l hl
   have : l ∈ R.ls := hl
   rw [Hls.out] at this
   cases this
 have HR2 := hd hR2
 have hf02 : Fr (R.wr Y) w w2 := ((Hf1.out.mono (fun _ x => x.elim)).trans hKb (fun i hi => .inl (.inr (.inr (.inl (by rw [Htv.out, Htn.out]; exact hi)))))).trans hfs (fun i hi => .inl (.inl hi))
 have Hf02 := hd hf02
 have Hg'n := hd (show R.tv.ownBlock = some g' ∨ w.heap.size ≤ g' from by
  rcases hab with h | h
  ·exact .inl (by rw [Htv.out, Htn.out]; exact h)
  ·right
   have := hfa.size
   have := Hf1.out.size
   omega)
 have hW2 : Nw W w2 := HW.out.trans hf02 (fun i hi => .inr (Nat.le_trans hlo (HR0.out.lo (.inl hi))))
 have Hclose := hd (close_any W lo Y zs R.szv R.now.inv R.now.vs R.now.bss R.now.dead (.slice (some ⟨g', 0, none⟩) (tn + 1) cap') R.lv (R.ts ++ [⟨⟨vars, rows, nt⟩, way⟩]) w2 hlo hW2 (by rw [hlen]; omega) hR2.tok hr2 hR2.rtabs hR2.tblk)
 rw [hw2]
 clear hR2 hf02 hW2 hr2 hr1 hown2 htc hlen hblk2 hg'Y hfs hw2 hbY hKb hfb hab hltb hA1 hA2 hA3 hrun hKa hba hfa hwa hK0 hnB hnY d2 d3 d4 e0 e1 e2 e3 hYl hBl HtvB HtvY hglo hwsz
 go_wp2_with fail
 refine Hclose.out.mono ?_
 rintro e w3 ⟨rfl, b', h1, h2, h3, h4, h5⟩
 rw [Hdd.out, Bool.false_or] at h1
 have Hfin := hd (show ∃ now tv d, RAt W w3 lo Y zs { R with now := now, tv := tv, ts := R.ts ++ [⟨⟨vars, rows, nt⟩, way⟩] } ∧ Fr (R.wr Y) w w3 ∧ (∀ k, RS.own Y { R with now := now, tv := tv, ts := R.ts ++ [⟨⟨vars, rows, nt⟩, way⟩] } k → R.own Y k ∨ w.heap.size ≤ k) ∧ Dm d ∧ Closure zs.length ((R.ts ++ [(⟨⟨vars, rows, nt⟩, way⟩ : TbW)]).map TbW.tb) (domB R.now.bss) d ∧ LinkD zs.length now d from by
  obtain ⟨d, k1, k2, k3⟩ := link_close (inv := R.now.inv) (vs := R.now.vs) (okSizes_len HR0.out.rin.zok).1 h1.len h1.in8 h1.b6 h3 h4
  refine ⟨_, _, d, HR2.out.renow h5 h1, Hf02.out.trans h5 (fun i hi => .inl (hi.elim .inl (fun h => .inr (.inl h)))), fun k hk => ?_, k1, k2, k3⟩
  rcases hk with (rfl | hk | hk | hk) | hk | hk | hk
  ·exact .inl (.inl (.inl rfl))
  ·exact .inl (.inl (.inr (.inl hk)))
  ·cases hk
   rcases Hg'n.out with h | h
   ·exact .inl (.inl (.inr (.inr (.inl h))))
   ·exact .inr h
  ·exact .inl (.inl (.inr (.inr (.inr hk))))
  ·exact .inl (.inr (.inl hk))
  ·exact .inl (.inr (.inr (.inl hk)))
  ·exact .inl (.inr (.inr (.inr hk))))
 clear h1 h2 h3 h4 h5 Hclose
 go_wp2_with fail
 go_ret
 exact ⟨rfl, Hfin.out⟩
end Go.Proofs.YtkjfpdfkcfgfkaaGreat

namespace Go.Proofs.YtkjfpdfkcfgfkaaGreat
open Go.RowKit

structure Env (W w : World) (lo : Nat) : Prop where
 base : W.heap.size ≤ lo
 nw : Nw W w
 le : lo ≤ w.heap.size
theorem Env.step {W w w' : World} {lo : Nat} (h : Env W w lo) (f : Nw w w') : Env W w' lo := ⟨h.base, h.nw.trans f (fun _ x => x.elim), Nat.le_trans h.le f.size⟩
def Next (bz : Bool) (W w w1 : World) (lo X Y : Nat) (zs : List Int) (s : WS) (R : RS) (f : FuncId) (args : Array Value) (r : Value) : Prop :=
 ∀ w2, Nw w1 w2 → Calls Tryz.prog f args w2 fun e w3 => e = .returned r ∧ ∃ s' R', Pair bz W w3 lo X Y zs s' R' ∧ PStep w w3 X Y s s' R R' ∧ Nw W w3
theorem next_no {bz : Bool} {W w w1 : World} {lo X Y : Nat} {zs : List Int} {s : WS} {R : RS} {f : FuncId} {args : Array Value} {r : Value} (hE : Env W w lo) (h : Pair bz W w lo X Y zs s R) (k : Nw w w1) (hc : ∀ w2, Nw w w2 → Calls Tryz.prog f args w2 fun e w3 => e = .returned r ∧ Nw w2 w3) : Next bz W w w1 lo X Y zs s R f args r := fun w2 f2 => by
 have k2 := k.trans f2 (fun _ x => x.elim)
 refine (hc w2 k2).mono ?_
 rintro e w3 ⟨rfl, f3⟩
 have k3 := k2.trans f3 (fun _ x => x.elim)
 exact ⟨rfl, s, R, h.nw k3, PStep.nw k3 X Y s R, hE.nw.trans k3 (fun _ x => x.elim)⟩
theorem fault_cases (zs : List Int) (d : List Nat) (v value : Int) : (faultOf zs d v value = 1 ∧ ¬ (0 ≤ v ∧ v < zs.length ∧ 0 ≤ value ∧ value < zs.getD v.toNat 0)) ∨ (∃ v' x' : Nat, v = (v' : Int) ∧ value = (x' : Int) ∧ v' < zs.length ∧ (x' : Int) < zs.getD v' 0 ∧ faultOf zs d v value = if d.getD 0 0 = 0 then 3 else 0) := by
 unfold faultOf
 by_cases h : 0 ≤ v ∧ v < zs.length ∧ 0 ≤ value ∧ value < zs.getD v.toNat 0
 ·rw [if_pos h]
  obtain ⟨h1, h2, h3, h4⟩ := h
  obtain ⟨v', rfl⟩ : ∃ v' : Nat, v = (v' : Int) := ⟨v.toNat, by omega⟩
  obtain ⟨x', rfl⟩ : ∃ x' : Nat, value = (x' : Int) := ⟨value.toNat, by omega⟩
  rw [Int.toNat_natCast] at h4
  exact .inr ⟨v', x', rfl, rfl, by omega, h4, rfl⟩
 ·rw [if_neg h]
  exact .inl ⟨rfl, h⟩
theorem fix_two {W w : World} {lo X Y : Nat} {zs : List Int} {s : WS} {R : RS} (v value : Int) (hE : Env W w lo) (h : Pair false W w lo X Y zs s R) :
  Calls Tryz.prog 56 #[.pointer (some ⟨X, 0, none⟩), .int .i64 v, .int .i64 value] w fun e w1 => ∃ r : Int, e = .returned (.int .i64 r) ∧ Fr (s.own X) w w1 ∧ Next false W w w1 lo X Y zs s R 58 #[.pointer (some ⟨Y, 0, none⟩), .int .i64 v, .int .i64 value, .bool true] (.int .i64 r) := by
 have hpos : 0 < zs.length := (okSizes_len h.at_.mem.zok).1
 rcases fault_cases zs s.d v value with ⟨hf, hno⟩ | ⟨v, value, rfl, rfl, hv, hx, hf⟩
 ·refine (fix_no X zs s v value w h.at_ h.busy (by rw [hf]; decide)).mono ?_
  rintro e w1 ⟨rfl, rfl⟩
  rw [hf]
  refine ⟨1, rfl, Fr.refl _ _, next_no hE h (Fr.refl _ _) (fun w2 f2 => ?_)⟩
  refine (refTake_arg lo Y zs R.szv R.now.inv R.now.vs R.now.bss R.now.dead R.tv R.lv v value true w2 (h.ref.nw f2).rin hno).mono ?_
  rintro e w3 ⟨rfl, rfl⟩
  exact ⟨rfl, Fr.refl _ _⟩
 ·by_cases h0 : s.d.getD 0 0 = 0
  ·rw [if_pos h0] at hf
   have hdd := (h.now.iff hpos).1 h0
   refine (fix_no X zs s v value w h.at_ h.busy (by rw [hf]; decide)).mono ?_
   rintro e w1 ⟨rfl, rfl⟩
   rw [hf]
   refine ⟨3, rfl, Fr.refl _ _, next_no hE h (Fr.refl _ _) (fun w2 f2 => ?_)⟩
   have hr := (h.ref.nw f2).rin
   rw [hdd] at hr
   refine (refTake_dead lo Y zs R.szv R.now.inv R.now.vs R.now.bss R.tv R.lv v value true w2 hr hv hx).mono ?_
   rintro e w3 ⟨rfl, rfl⟩
   exact ⟨rfl, Fr.refl _ _⟩
  ·rw [if_neg h0] at hf
   obtain ⟨hdd, hsd⟩ : R.now.dead = false ∧ s.d = domB R.now.bss := by
    rcases h.now with ⟨h1, h2⟩ | ⟨h1, h2, _⟩
    ·rw [h2, zero8_get] at h0
     exact absurd rfl h0
    ·exact ⟨h1, h2⟩
   refine (fix_yes X zs s v value w h.at_ h.busy hf).mono ?_
   rintro e w1 ⟨rfl, d', bv, ts, us, h1, h2, h3, h4⟩
   have hW1 : Nw W w1 := hE.nw.trans h4.fr (fun i hi => .inr (Nat.le_trans hE.base (h.xlo i hi)))
   refine ⟨0, rfl, h4.fr, fun w2 f2 => ?_⟩
   refine (take_ref hE.base (hW1.trans f2 (fun _ x => x.elim)) (h.mid h4 f2) hdd hv hx).mono ?_
   rintro e w3 ⟨rfl, now, d, k1, k2, k3, k4, k5, k6⟩
   refine ⟨rfl, _, _, h.join hE.base hE.nw hE.le h3 h4 f2 k1 k2 rfl (fun q hq => .inl (k3 q hq)) h.busy ?_ h.tabs h.levs⟩
   have hr := h.ref.rin
   rw [struck_fix hr.in8 hr.b6 (by rw [hr.len]; exact hv) (by rw [hr.each v hv]; exact Nat.le_refl _), ← hsd, ← h.tabs] at k5
   rw [show (s.set d' bv ts us).d = d from h1.one h2 k4 k5]
   exact k6
theorem remove_two {W w : World} {lo X Y : Nat} {zs : List Int} {s : WS} {R : RS} (v value : Int) (hE : Env W w lo) (h : Pair false W w lo X Y zs s R) :
  Calls Tryz.prog 13 #[.pointer (some ⟨X, 0, none⟩), .int .i64 v, .int .i64 value] w fun e w1 => ∃ r : Int, e = .returned (.int .i64 r) ∧ Fr (s.own X) w w1 ∧ Next false W w w1 lo X Y zs s R 58 #[.pointer (some ⟨Y, 0, none⟩), .int .i64 v, .int .i64 value, .bool false] (.int .i64 r) := by
 have hpos : 0 < zs.length := (okSizes_len h.at_.mem.zok).1
 rcases fault_cases zs s.d v value with ⟨hf, hno⟩ | ⟨v, value, rfl, rfl, hv, hx, hf⟩
 ·refine (remove_no X zs s v value w h.at_ h.busy (by rw [hf]; decide)).mono ?_
  rintro e w1 ⟨rfl, rfl⟩
  rw [hf]
  refine ⟨1, rfl, Fr.refl _ _, next_no hE h (Fr.refl _ _) (fun w2 f2 => ?_)⟩
  refine (refTake_arg lo Y zs R.szv R.now.inv R.now.vs R.now.bss R.now.dead R.tv R.lv v value false w2 (h.ref.nw f2).rin hno).mono ?_
  rintro e w3 ⟨rfl, rfl⟩
  exact ⟨rfl, Fr.refl _ _⟩
 ·by_cases h0 : s.d.getD 0 0 = 0
  ·rw [if_pos h0] at hf
   have hdd := (h.now.iff hpos).1 h0
   refine (remove_no X zs s v value w h.at_ h.busy (by rw [hf]; decide)).mono ?_
   rintro e w1 ⟨rfl, rfl⟩
   rw [hf]
   refine ⟨3, rfl, Fr.refl _ _, next_no hE h (Fr.refl _ _) (fun w2 f2 => ?_)⟩
   have hr := (h.ref.nw f2).rin
   rw [hdd] at hr
   refine (refTake_dead lo Y zs R.szv R.now.inv R.now.vs R.now.bss R.tv R.lv v value false w2 hr hv hx).mono ?_
   rintro e w3 ⟨rfl, rfl⟩
   exact ⟨rfl, Fr.refl _ _⟩
  ·rw [if_neg h0] at hf
   obtain ⟨hdd, hsd⟩ : R.now.dead = false ∧ s.d = domB R.now.bss := by
    rcases h.now with ⟨h1, h2⟩ | ⟨h1, h2, _⟩
    ·rw [h2, zero8_get] at h0
     exact absurd rfl h0
    ·exact ⟨h1, h2⟩
   refine (remove_yes X zs s v value w h.at_ h.busy hf).mono ?_
   rintro e w1 ⟨rfl, d', bv, ts, us, h1, h2, h3, h4⟩
   have hW1 : Nw W w1 := hE.nw.trans h4.fr (fun i hi => .inr (Nat.le_trans hE.base (h.xlo i hi)))
   refine ⟨0, rfl, h4.fr, fun w2 f2 => ?_⟩
   refine (take_ref hE.base (hW1.trans f2 (fun _ x => x.elim)) (h.mid h4 f2) hdd hv hx).mono ?_
   rintro e w3 ⟨rfl, now, d, k1, k2, k3, k4, k5, k6⟩
   refine ⟨rfl, _, _, h.join hE.base hE.nw hE.le h3 h4 f2 k1 k2 rfl (fun q hq => .inl (k3 q hq)) h.busy ?_ h.tabs h.levs⟩
   have hr := h.ref.rin
   rw [struck_rem hr.in8 hr.b6 (by rw [hr.len]; exact hv) (by omega), ← hsd, ← h.tabs] at k5
   rw [show (s.set d' bv ts us).d = d from h1.one h2 k4 k5]
   exact k6
theorem flatL : ∀ (L : List RL), (L.flatMap RL.cells).length = L.length * 2
 | [] => rfl
 | l :: L => by
  rw [List.flatMap_cons, List.length_append, flatL L, List.length_cons]
  show 2 + _ = _
  omega
theorem pop_ref {W w : World} {lo Y : Nat} {zs : List Int} {R : RS} {l : RL} {ls : List RL} (h : RAt W w lo Y zs R) (hl : R.ls = l :: ls) :
  Calls Tryz.prog 64 #[.pointer (some ⟨Y, 0, none⟩)] w fun e w' => e = .returned (.int .i64 0) ∧ ∃ lv', RAt W w' lo Y zs { R with now := l, lv := lv', ls := ls } ∧ Fr (R.wr Y) w w' ∧ (∀ k, RS.own Y { R with now := l, lv := lv', ls := ls } k → R.own Y k) := by
 have hlr := h.lrow
 rw [hl, List.length_cons, List.reverse_cons, List.flatMap_append] at hlr
 have hcut := flatL ls.reverse
 rw [List.length_reverse] at hcut
 have hlL := h.levs l (by rw [hl]; simp)
 have hz := okSizes_len h.rin.zok
 obtain ⟨lg, lcap, hlv, hlgt, hcap, c0⟩ := owns_cell hlr (ls.length * 2) (by omega)
 obtain ⟨_, _, hlv', _, _, c1⟩ := owns_cell hlr (ls.length * 2 + 1) (by omega)
 rw [hlv] at hlv'
 simp only [Value.slice.injEq, Option.some.injEq, Addr.mk.injEq, and_true, true_and] at hlv'
 rw [← hlv'.1] at c1
 rw [List.getElem?_append_right (by omega), hcut, Nat.sub_self] at c0
 rw [List.getElem?_append_right (by omega), hcut, Nat.add_sub_cancel_left] at c1
 have c0' : w.cell? ⟨lg, ls.length * 2, none⟩ = some l.inv := c0
 have c1' : w.cell? ⟨lg, ls.length * 2 + 1, none⟩ = some (.bool l.dead) := c1
 have hb := h.rin.blk
 obtain ⟨io, ic, hif, hio⟩ := hlL.inn.form
 have hvl : 0 < l.vs.length := by rw [hlL.rows.len, hlL.len]; exact hz.1
 obtain ⟨ig, icap, hig, _⟩ : ∃ ig icap, l.inv = .slice (some ⟨ig, 0, none⟩) l.vs.length icap ∧ True := by
  obtain ⟨g, c, he, _⟩ := hlL.inn.cell 0 hvl
  exact ⟨g, c, he, trivial⟩
 rw [hig] at c0'
 rw [hlv] at hb
 have h20 := h.l20
 rw [hl, List.length_cons] at h20
 have hlY : lg ≠ Y := fun e => by
  obtain ⟨cur, hb'⟩ := ownsRow.blk hlr (k := lg) (by rw [hlv]; rfl)
  rw [e] at hb'
  exact absurd (hb'.inj hb).2 (by decide)
 refine (refPop_yes Y R.szv R.now.inv R.tv R.now.dead l.dead lg ls.length lcap ig l.vs.length icap w hb hlY c0' c1' (by omega) hcap).mono ?_
 rintro e w' ⟨rfl, hB, hF⟩
 obtain ⟨cells, t1, t2⟩ := h.tabs
 have hYn : ∀ {q : Nat} {cur : Array Value} {e : TypeId}, Blk w q cur e → e ≠ 83 → ¬ q = Y := fun hq he e => by
  rw [e] at hq
  exact he (hq.inj hb).2
 have hLf : ∀ l' ∈ R.ls, RLAt w' lo zs l' := fun l' hl' => (h.levs l' hl').fr hF (fun k hk => by
  obtain ⟨cur, hb'⟩ := (h.levs l' hl').bool hk
  exact hYn hb' (by decide)) (fun k hk => by
  obtain ⟨cur, hb', _⟩ := (h.levs l' hl').inn.blk hk
  exact hYn hb' (by decide))
 have hl' := hLf l (by rw [hl]; simp)
 rw [hlv] at hlr
 refine ⟨rfl, .slice (some ⟨lg, 0, none⟩) ls.length lcap, ⟨?_, ⟨cells, ownsRow.fr t1 hF (fun k hk => ?_), t2⟩, h.t12, h.tok, ?_, fun l' hl' => hLf l' (by rw [hl]; simp [hl']), by show ls.length ≤ 20; omega, ?_, h.tlo, fun k hk => h.llo k (by rw [hlv]; exact hk)⟩, hF.mono (fun q hq => .inl (.inl hq)), fun k hk => ?_⟩
 ·rw [← hig] at hB
  exact ⟨hB, h.rin.sz.fr hF (fun k hk => by
   obtain ⟨cur, hb', _⟩ := h.rin.sz.blk hk
   exact hYn hb' (by decide)), hl'.inn, hl'.rows, hl'.len, hl'.each, h.rin.zok, h.rin.szlo, hl'.inlo, h.rin.ylo⟩
 ·obtain ⟨cur, hb'⟩ := ownsRow.blk t1 hk
  exact hYn hb' (by decide)
 ·refine ownsRow.fr (owns_cut hlr (by rw [flatL, List.length_reverse])) hF (fun k hk => ?_)
  obtain ⟨cur, hb'⟩ := ownsRow.blk hlr (k := k) (by cases hk; rfl)
  exact hYn hb' (by decide)
 ·have := h.apart
  rw [hl] at this
  exact (List.pairwise_cons.1 this).2
 ·rcases hk with (rfl | hk | hk | hk) | hk | hk | ⟨l', hl', hk⟩
  ·exact .inl (.inl rfl)
  ·exact .inr (.inr (.inr ⟨l, by rw [hl]; simp, .inl hk⟩))
  ·exact .inl (.inr (.inr (.inl hk)))
  ·exact .inl (.inr (.inr (.inr (by rw [hlv]; exact hk))))
  ·exact .inr (.inl hk)
  ·exact .inr (.inr (.inr ⟨l, by rw [hl]; simp, .inr hk⟩))
  ·exact .inr (.inr (.inr ⟨l', by rw [hl]; exact List.mem_cons_of_mem _ hl', hk⟩))
theorem pop_two {W w : World} {lo X Y : Nat} {zs : List Int} {s : WS} {R : RS} (hE : Env W w lo) (h : Pair false W w lo X Y zs s R) :
  Calls Tryz.prog 62 #[.pointer (some ⟨X, 0, none⟩)] w fun e w1 => ∃ r : Int, e = .returned (.int .i64 r) ∧ Fr (s.own X) w w1 ∧ Next false W w w1 lo X Y zs s R 64 #[.pointer (some ⟨Y, 0, none⟩)] (.int .i64 r) := by
 have hlev := h.levs
 cases hls : R.ls with
 | nil =>
  rw [hls] at hlev
  have hsk : s.sk = [] := List.eq_nil_of_length_eq_zero (by rw [← hlev.len]; rfl)
  refine (wpop_no X zs s w h.at_ h.busy hsk).mono ?_
  rintro e w1 ⟨rfl, rfl⟩
  refine ⟨4, rfl, Fr.refl _ _, next_no hE h (Fr.refl _ _) (fun w2 f2 => ?_)⟩
  have hr := (h.ref.nw f2).rin.blk
  obtain ⟨llo, lcap, hlv⟩ := owns_form h.ref.lrow
  rw [hlv, hls] at hr
  refine (refPop_no Y R.szv R.now.inv R.tv R.now.dead llo lcap w2 hr).mono ?_
  rintro e w3 ⟨rfl, rfl⟩
  exact ⟨rfl, Fr.refl _ _⟩
 | cons l ls =>
  rw [hls] at hlev
  cases hsk : s.sk with
  | nil =>
   rw [hsk] at hlev
   exact hlev.elim
  | cons p r =>
   rw [hsk] at hlev
   obtain ⟨n, p⟩ := p
   refine (wpop_yes X zs s n p r w h.at_ h.busy hsk).mono ?_
   rintro e w1 ⟨rfl, ts, bv, sv, h1, h2, h3, h4⟩
   have hW1 : Nw W w1 := hE.nw.trans h4.fr (fun i hi => .inr (Nat.le_trans hE.base (h.xlo i hi)))
   refine ⟨0, rfl, h4.fr, fun w2 f2 => ?_⟩
   refine (pop_ref (h.mid h4 f2) hls).mono ?_
   rintro e w3 ⟨rfl, lv', k1, k2, k3⟩
   exact ⟨rfl, _, _, h.join hE.base hE.nw hE.le h3 h4 f2 k1 k2 rfl (fun q hq => .inl (k3 q hq)) h.busy hlev.1 h.tabs hlev.2⟩
end Go.Proofs.YtkjfpdfkcfgfkaaGreat

namespace Go.Proofs.YtkjfpdfkcfgfkaaGreat
open Go.RowKit

theorem Tryz.infoLevelR : (Tryz.prog.info? 147).map (fun i => (i.zero, i.size, i.bytes)) = some (some (.agg #[.slice none 0 0, .bool false]), 2, 32) := by kernel_rfl
section
variable {P : Program} {Q : Exit → Act → World → Prop} {S : World → Prop} {ops : Array Oper}
theorem enterU_at {z i : Nat} {d : Option Tmp} {fuel : Nat} {listed : Array Bool} {a : Act} {w w' : World} {f : FuncId} {args : Array Value} (hB : oneB ops listed i d = true) (hw : Region.wanted (opAt ops i) (yielded ops a.tmps) = true)
  (hr : (execOp a.eval (opAt ops i)).run P w = .ok (.enter f args) w')
  (h : Calls P f args w' (fun e w'' => ∃ v, e = .returned v ∧ (i ≠ z → S w'') ∧ wpAnyU P .any ops Q S z fuel (listed.setIfInBounds i true) (a.put d v) w'')) : wpAnyU P .any ops Q S z (fuel + 1) listed a w := by
 simp only [oneB, Bool.and_eq_true, decide_eq_true_eq] at hB
 obtain ⟨⟨h3, h4⟩, h5⟩ := hB
 subst h5
 exact anyU_one h3 (op_enter (opAt_of h4) hw hr h)
end
noncomputable def pushReg : Array Oper := regOps Tryz.f63 3
def pushEv (x y : Value) : Operand → Value
 | .tmp 13 => x
 | .tmp _ => y
 | _ => undef

set_option maxHeartbeats 1600000 in
set_option maxRecDepth 1000000 in
theorem refPush_no (Y : Nat) (szv inv tv : Value) (dead : Bool) (llo : Option Addr) (lcap : Nat) (w : World) (hb : Blk w Y #[szv, inv, .bool dead, tv, .slice llo 20 lcap] 83) :
  Calls Tryz.prog 63 #[.pointer (some ⟨Y, 0, none⟩)] w fun e w' => e = .returned (.int .i64 2) ∧ w' = w := by
 have c4 : w.cell? ⟨Y, 4, none⟩ = some (.slice llo 20 lcap) := hb.cell 4
 have hYl := hb.lt
 go_enter Tryz.func63, Tryz.ntmps63
 go_wp2_with fail
 go_ret
 exact ⟨rfl, rfl⟩

set_option maxHeartbeats 1600000 in
set_option maxRecDepth 1000000 in
theorem refPush_yes (W : World) (lo Y : Nat) (zs : List Int) (R : RS) (w : World) (hlw : lo ≤ w.heap.size) (hR : RAt W w lo Y zs R) (h20 : R.ls.length < 20) :
  Calls Tryz.prog 63 #[.pointer (some ⟨Y, 0, none⟩)] w fun e w' => e = .returned (.int .i64 0) ∧ ∃ lv inv vs, RAt W w' lo Y zs { R with lv := lv, ls := ⟨inv, vs, R.now.bss, R.now.dead⟩ :: R.ls } ∧ Fr (R.wr Y) w w' ∧ (∀ k, RS.own Y { R with lv := lv, ls := ⟨inv, vs, R.now.bss, R.now.dead⟩ :: R.ls } k → R.own Y k ∨ w.heap.size ≤ k) := by
 obtain ⟨llo, lcap, hlv⟩ := owns_form hR.lrow
 obtain ⟨io, icap, hio, hBR, hcY⟩ := hR.rin.brows
 obtain ⟨i0, hi0, hz0, hz1, hz2⟩ := info_parts Tryz.infoLevelR
 have h1 : w.cell? ⟨Y, 4, none⟩ = some (.slice llo R.ls.length lcap) := by
  have := hR.rin.blk.cell 4
  rw [hlv] at this
  exact this
 have h2 : w.cell? ⟨Y, 2, none⟩ = some (.bool R.now.dead) := hR.rin.blk.cell 2
 have h6 : ∀ u, u < R.now.bss.length → 1 ≤ (R.now.bss.getD u []).length ∧ (R.now.bss.getD u []).length ≤ 6 := fun u hu => ⟨by
  rw [hR.rin.each u (by rw [← hR.rin.len]; exact hu)]
  have := (okSizes_get hR.rin.zok u (by rw [← hR.rin.len]; exact hu)).1
  omega, hR.rin.b6 u hu⟩
 have HBR := hd hBR
 have H6 := hd h6
 have H8 := hd hR.rin.in8
 have HR := hd hR
 have Hlv := hd hlv
 have hYl := hR.rin.blk.lt
 obtain ⟨n, hn⟩ : ∃ n, R.ls.length = n := ⟨_, rfl⟩
 obtain ⟨bss, hbss⟩ : ∃ bss, R.now.bss = bss := ⟨_, rfl⟩
 obtain ⟨dead, hdead⟩ : ∃ dead, R.now.dead = dead := ⟨_, rfl⟩
 rw [hn] at h1 h20 Hlv
 rw [hbss] at hcY HBR H6 H8
 rw [hdead] at h2
 have Hn := hd hn
 have Hbss := hd hbss
 have Hdead := hd hdead
 have hlY : ¬ (Value.slice llo n lcap).ownBlock = some Y := fun h => by
  obtain ⟨cur, hb⟩ := ownsRow.blk hR.lrow (k := Y) (by rw [Hlv.out]; exact h)
  exact absurd (hb.inj hR.rin.blk).2 (by decide)
 have hln : ¬ ((20 : Int) ≤ (n : Int)) := by omega
 clear hR hBR h6 hlv hn hbss hdead
 go_enter Tryz.func63, Tryz.ntmps63
 go_wp2_with fail
 have hK0 : Fr (fun k => (Value.slice llo n lcap).ownBlock = some k) w w.drew := (Fr.refl _ w).drew
 refine region_nU pushReg 20 (fun w'' => Fr (fun k => (Value.slice llo n lcap).ownBlock = some k) w w'') 19 (by kernel_rfl) (by kernel_rfl) (by kernel_rfl) ?_
 refine takeU_at (i := 0) (d := some 9) (v := .pointer (some ⟨Y, 0, none⟩)) (by kernel_rfl) (by kernel_rfl) (fun _ _ _ h => h) (fun w'' hS => by kernel_rfl) hK0 ?_
 refine takeU_at (i := 1) (d := some 10) (v := .pointer (some ⟨Y, 0, none⟩)) (by kernel_rfl) (by kernel_rfl) (fun _ _ _ h => h) (fun w'' hS => by kernel_rfl) hK0 ?_
 refine takeU_at (i := 2) (d := some 11) (v := .pointer (some ⟨Y, 0, none⟩)) (by kernel_rfl) (by kernel_rfl) (fun _ _ _ h => h) (fun w'' hS => by kernel_rfl) hK0 ?_
 refine takeU_at (i := 3) (d := some 12) (v := .pointer (some ⟨Y, 4, none⟩)) (by kernel_rfl) (by kernel_rfl) (fun _ _ _ h => h) (fun w'' hS => by kernel_rfl) hK0 ?_
 refine takeU_at (i := 4) (d := some 13) (v := .slice llo n lcap) (by kernel_rfl) (by kernel_rfl) (fun _ _ _ h => h) (fun w'' hS => exec_load 81 (.tmp 12) (by kernel_rfl) (by kernel_rfl) (by kernel_rfl) ((hS.cell hYl hlY).trans h1)) hK0 ?_
 refine takeU_at (i := 5) (d := some 14) (v := .pointer (some ⟨Y, 0, none⟩)) (by kernel_rfl) (by kernel_rfl) (fun _ _ _ h => h) (fun w'' hS => by kernel_rfl) hK0 ?_
 refine takeU_at (i := 6) (d := some 15) (v := .pointer (some ⟨Y, 0, none⟩)) (by kernel_rfl) (by kernel_rfl) (fun _ _ _ h => h) (fun w'' hS => by kernel_rfl) hK0 ?_
 refine takeU_at (i := 7) (d := some 16) (v := .pointer (some ⟨Y, 1, none⟩)) (by kernel_rfl) (by kernel_rfl) (fun _ _ _ h => h) (fun w'' hS => by kernel_rfl) hK0 ?_
 refine takeU_at (i := 8) (d := some 17) (v := .slice io bss.length icap) (by kernel_rfl) (by kernel_rfl) (fun _ _ _ h => h) (fun w'' hS => exec_load 79 (.tmp 16) (by kernel_rfl) (by kernel_rfl) (by kernel_rfl) ((hS.cell hYl hlY).trans hcY)) hK0 ?_
 refine takeU_at (i := 10) (d := some 19) (v := .pointer (some ⟨Y, 0, none⟩)) (by kernel_rfl) (by kernel_rfl) (fun _ _ _ h => h) (fun w'' hS => by kernel_rfl) hK0 ?_
 refine takeU_at (i := 11) (d := some 20) (v := .pointer (some ⟨Y, 0, none⟩)) (by kernel_rfl) (by kernel_rfl) (fun _ _ _ h => h) (fun w'' hS => by kernel_rfl) hK0 ?_
 refine takeU_at (i := 12) (d := some 21) (v := .pointer (some ⟨Y, 2, none⟩)) (by kernel_rfl) (by kernel_rfl) (fun _ _ _ h => h) (fun w'' hS => by kernel_rfl) hK0 ?_
 refine takeU_at (i := 13) (d := some 22) (v := .bool dead) (by kernel_rfl) (by kernel_rfl) (fun _ _ _ h => h) (fun w'' hS => exec_load 4 (.tmp 21) (by kernel_rfl) (by kernel_rfl) (by kernel_rfl) ((hS.cell hYl hlY).trans h2)) hK0 ?_
 refine enterU_at (i := 9) (d := some 18) (w' := w.drew) (f := 84) (args := #[.slice io bss.length icap]) (by kernel_rfl) (by kernel_rfl) (by kernel_rfl) ?_
 have hdr : Nw w w.drew := (Fr.refl _ w).drew
 refine (copied_any io icap bss w.drew H8.out H6.out (HBR.out.nw hdr)).mono ?_
 rintro e w1 ⟨v1, rfl, vs1, hM, hI⟩
 have hf1 : Nw w w1 := hdr.trans hM.nw (fun _ x => x.elim)
 have hK1 : Fr (fun k => (Value.slice llo n lcap).ownBlock = some k) w w1 := hf1.mono (fun _ x => x.elim)
 obtain ⟨o1, c1, hv1, _⟩ := hM.row.form
 have hone1 : v1.oneCell' = true := by rw [hv1]; rfl
 refine ⟨v1, rfl, fun _ => hK1, ?_⟩
 subst hv1
 refine valueU_at (i := 14) (d := some 23) (v := .agg #[.slice o1 vs1.length c1, .bool dead]) (w' := w1) (by kernel_rfl) (by kernel_rfl) (by kernel_rfl) (fun _ => hK1) ?_
 obtain ⟨wa, hwa⟩ : ∃ wa, w1.alloc (.cells #[.slice o1 vs1.length c1, .bool dead] 147) = wa := ⟨_, rfl⟩
 have hfa : Nw w1 wa := by rw [← hwa]; exact (Fr.refl _ w1).alloc _
 have hba : Blk wa w1.heap.size #[.slice o1 vs1.length c1, .bool dead] 147 := by rw [← hwa]; exact Blk.new _ _ _
 have hf1a : Nw w wa := hf1.trans hfa (fun _ x => x.elim)
 have hKa : Fr (fun k => (Value.slice llo n lcap).ownBlock = some k) w wa := hf1a.mono (fun _ x => x.elim)
 refine valueU_at (i := 15) (d := some 24) (v := .slice (some ⟨w1.heap.size, 0, none⟩) 1 1) (w' := wa) (by kernel_rfl) (by kernel_rfl) (by rw [← hwa]; kernel_rfl) (fun _ => hKa) ?_
 have hown : wa.ownsRow 0 147 2 (.slice llo n lcap) n (R.ls.reverse.flatMap RL.cells) := by
  have := ownsRow.fr HR.out.lrow hf1a (fun _ _ x => x)
  rw [Hlv.out, Hn.out] at this
  exact this
 obtain ⟨v', wb, hrun, hA1, hA2, hA3⟩ := exec_appendN (c := 1) (ys := [.slice o1 vs1.length c1, .bool dead]) (ev := pushEv (.slice llo n lcap) (.slice (some ⟨w1.heap.size, 0, none⟩) 1 1)) (o := opAt pushReg 16) (w := wa) 2 32 (.tmp 13) (.tmp 24) 81 (by kernel_rfl) (by kernel_rfl) (by kernel_rfl) Tryz.underlying81 hi0 hz0 hz1 hz2 rfl (by decide) hown rfl (blk_cells hba) (by simp [Value.oneCell']) (by unfold maxLen; omega) (by omega)
 obtain ⟨g', cap', rfl, hfb, hab, hltb⟩ := appS hA1 hA2 hA3
 have hKb : Fr (fun k => (Value.slice llo n lcap).ownBlock = some k) w wb := hKa.trans hfb (fun i h => .inl h)
 refine valueU_at (i := 16) (d := some 25) (v := .slice (some ⟨g', 0, none⟩) (n + 1) cap') (w' := wb) (by kernel_rfl) (by kernel_rfl) (Eq.trans (exec_same (s := .tmp 13) (y := .tmp 24) (t := 81) (by kernel_rfl) (by kernel_rfl)) hrun) (fun _ => hKb) ?_
 have hbY := HR.out.rin.blk.fr hKb hlY
 refine valueU_at (i := 17) (d := some 26) (v := .pointer (some ⟨Y, 0, none⟩)) (w' := wb) (by kernel_rfl) (by kernel_rfl) (by kernel_rfl) (fun _ => hKb) ?_
 refine valueU_at (i := 18) (d := some 27) (v := .pointer (some ⟨Y, 4, none⟩)) (w' := wb) (by kernel_rfl) (by kernel_rfl) (by kernel_rfl) (fun _ => hKb) ?_
 refine skipU_at (i := 19) (d := none) (w' := wb.setCell ⟨Y, 4, none⟩ (.slice (some ⟨g', 0, none⟩) (n + 1) cap')) (by kernel_rfl) (by kernel_rfl) (exec_storeU (old := R.lv) 81 (.tmp 27) (.tmp 25) (by kernel_rfl) (by kernel_rfl) (by kernel_rfl) rfl (by kernel_rfl) (hbY.cell 4) (hbY.free 4)) (fun h => absurd rfl h) ?_
 refine anyU_done (by kernel_rfl) (show _ from ?_) _
 simp only [Act.put, List.setIfInBounds_toArray, List.set_cons_zero, List.set_cons_succ]
 obtain ⟨w2, hw2⟩ : ∃ w2, wb.setCell ⟨Y, 4, none⟩ (.slice (some ⟨g', 0, none⟩) (n + 1) cap') = w2 := ⟨_, rfl⟩
 have hfs : Fr (fun k => k = Y) wb w2 := by rw [← hw2]; exact (Fr.refl (fun k => k = Y) wb).setCell _ _ (.inl rfl)
 have hg'Y : g' ≠ Y := fun e => by
  obtain ⟨cur, hb⟩ := ownsRow.blk hA1 (k := g') rfl
  rw [e] at hb
  exact absurd (hb.inj hbY).2 (by decide)
 have hblk2 : Blk w2 Y #[R.szv, R.now.inv, .bool R.now.dead, R.tv, .slice (some ⟨g', 0, none⟩) (n + 1) cap'] 83 := by
  rw [← hw2]
  have := hbY.set 4 (.slice (some ⟨g', 0, none⟩) (n + 1) cap')
  simpa using this
 -- what is neither Y nor the levels' block stays
 have hnT : ∀ {q : Nat} {cur : Array Value} {e : TypeId}, Blk wa q cur e → e ≠ 147 → ¬ (Value.slice llo n lcap).ownBlock = some q := fun hq he h => by
  obtain ⟨cur', hb'⟩ := ownsRow.blk hown h
  exact he (hq.inj hb').2
 have hnY2 : ∀ {q : Nat} {cur : Array Value} {e : TypeId}, Blk wb q cur e → e ≠ 83 → ¬ q = Y := fun hq he h => by
  rw [h] at hq
  exact he (hq.inj hbY).2
 have keepR : ∀ {v : Value} {e : TypeId} {sz k : Nat} {xs : List Value}, wa.ownsRow 0 e sz v k xs → e ≠ 147 → e ≠ 83 → w2.ownsRow 0 e sz v k xs := fun {v e sz k xs} h h1 h2 => by
  have hb : wb.ownsRow 0 e sz v k xs := ownsRow.fr h hfb (fun q hq => by
   obtain ⟨cur, hb⟩ := ownsRow.blk h hq
   exact hnT hb h1)
  exact ownsRow.fr hb hfs (fun q hq => by
   obtain ⟨cur, hb'⟩ := ownsRow.blk hb hq
   exact hnY2 hb' h2)
 have keepL : ∀ {l : RL}, RLAt wa lo zs l → RLAt w2 lo zs l := fun {l} h => ⟨keepR h.inn (by decide) (by decide), ⟨h.rows.len, fun i hi => keepR (h.rows.row i hi) (by decide) (by decide), h.rows.ne, h.rows.lo⟩, h.len, h.each, h.inlo⟩
 have hRa := HR.out.nw hf1a
 have hnow := keepL hRa.rin.lev
 have hnew : RLAt w2 lo zs ⟨.slice o1 vs1.length c1, vs1, R.now.bss, R.now.dead⟩ := by
  have hI2 : InRows w1 lo vs1 R.now.bss := by
   rw [Hbss.out]
   exact ⟨hI.len, hI.row, hI.ne, fun i hi k hk => Nat.le_trans hlw (hI.lo i hi k hk)⟩
  exact keepL ⟨hM.row.nw hfa, hI2.fr hfa (fun _ _ x => x.elim), HR.out.rin.len, HR.out.rin.each, fun k hk => Nat.le_trans hlw (hM.since k hk)⟩
 obtain ⟨cells, t1, t2⟩ := hRa.tabs
 have hglo : lo ≤ g' := by
  rcases hab with h | h
  ·exact HR.out.llo g' (by rw [Hlv.out]; exact h)
  ·have := hf1a.size
   omega
 have hnewHas : ∀ k, RL.has ⟨.slice o1 vs1.length c1, vs1, R.now.bss, R.now.dead⟩ k → w.heap.size ≤ k := fun k ⟨u, hu, hk⟩ => hI.lo u (by rw [← hI.len]; exact hu) k hk
 have hR2 : RAt W w2 lo Y zs { R with lv := .slice (some ⟨g', 0, none⟩) (n + 1) cap', ls := ⟨.slice o1 vs1.length c1, vs1, R.now.bss, R.now.dead⟩ :: R.ls } := by
  refine ⟨⟨hblk2, keepR hRa.rin.sz (by decide) (by decide), hnow.inn, hnow.rows, hnow.len, hnow.each, HR.out.rin.zok, HR.out.rin.szlo, HR.out.rin.inlo, HR.out.rin.ylo⟩, ⟨cells, keepR t1 (by decide) (by decide), t2⟩, HR.out.t12, HR.out.tok, ?_, ?_, ?_, ?_, HR.out.tlo, fun k hk => (by cases hk; exact hglo)⟩
  ·show w2.ownsRow 0 147 2 _ (R.ls.length + 1) ((_ :: R.ls).reverse.flatMap RL.cells)
   rw [Hn.out, List.reverse_cons, List.flatMap_append]
   have := ownsRow.fr hA1 hfs (fun k hk e => by
    cases hk
    exact hg'Y e)
   rw [← Hdead.out] at this
   exact this
  ·intro l hl
   rcases List.mem_cons.1 hl with rfl | hl
   ·exact hnew
   ·exact keepL (hRa.levs l hl)
  ·show R.ls.length + 1 ≤ 20
   rw [Hn.out]
   omega
  ·have ha := List.pairwise_cons.1 HR.out.apart
   refine List.pairwise_cons.2 ⟨fun b hb => ?_, List.pairwise_cons.2 ⟨fun b hb k hk hbk => ?_, ha.2⟩⟩
   ·rcases List.mem_cons.1 hb with rfl | hb
    ·intro k hk hbk
     obtain ⟨cur, hbl⟩ := HR.out.rin.lev.bool hk
     have := hbl.lt
     have := hnewHas k hbk
     omega
    ·exact ha.1 b hb
   ·obtain ⟨cur, hbl⟩ := (HR.out.levs b hb).bool hbk
    have := hbl.lt
    have := hnewHas k hk
    omega
 have Hfin := hd (show ∃ lv inv vs, RAt W w2 lo Y zs { R with lv := lv, ls := ⟨inv, vs, R.now.bss, R.now.dead⟩ :: R.ls } ∧ Fr (R.wr Y) w w2 ∧ (∀ k, RS.own Y { R with lv := lv, ls := ⟨inv, vs, R.now.bss, R.now.dead⟩ :: R.ls } k → R.own Y k ∨ w.heap.size ≤ k) from by
  refine ⟨_, _, _, hR2, (hKb.mono (fun i hi => .inl (.inr (.inr (.inr (by rw [Hlv.out]; exact hi)))))).trans hfs (fun i hi => .inl (.inl hi)), fun k hk => ?_⟩
  rcases hk with (rfl | hk | hk | hk) | hk | hk | ⟨l, hl, hk⟩
  ·exact .inl (.inl (.inl rfl))
  ·exact .inl (.inl (.inr (.inl hk)))
  ·exact .inl (.inl (.inr (.inr (.inl hk))))
  ·cases hk
   rcases hab with h | h
   ·exact .inl (.inl (.inr (.inr (.inr (by rw [Hlv.out]; exact h)))))
   ·right
    have := hf1a.size
    show w.heap.size ≤ g'
    omega
  ·exact .inl (.inr (.inl hk))
  ·exact .inl (.inr (.inr (.inl hk)))
  ·rcases List.mem_cons.1 hl with rfl | hl
   ·rcases hk with hk | hk
    ·exact .inr (hnewHas k hk)
    ·exact .inr (hM.since k hk)
   ·exact .inl (.inr (.inr (.inr ⟨l, hl, hk⟩))))
 rw [hw2]
 clear hR2 hnow hnew keepL keepR hnT hnY2 hRa hblk2 hg'Y hfs hw2 hbY hKb hfb hab hltb hA1 hA2 hA3 hrun hKa hba hfa hwa hK0 h1 h2 hcY hYl hK1 hf1 hM hI hown hf1a hglo hnewHas t1 t2 hdr hlY
 go_wp2_with fail
 go_ret
 exact ⟨rfl, Hfin.out⟩
end Go.Proofs.YtkjfpdfkcfgfkaaGreat

namespace Go.Proofs.YtkjfpdfkcfgfkaaGreat
open Go.RowKit

theorem push_two {W w : World} {lo X Y : Nat} {zs : List Int} {s : WS} {R : RS} (hE : Env W w lo) (h : Pair false W w lo X Y zs s R) :
  Calls Tryz.prog 61 #[.pointer (some ⟨X, 0, none⟩)] w fun e w1 => ∃ r : Int, e = .returned (.int .i64 r) ∧ Fr (s.own X) w w1 ∧ Next false W w w1 lo X Y zs s R 63 #[.pointer (some ⟨Y, 0, none⟩)] (.int .i64 r) := by
 have hlen := h.levs.len
 have h20 := h.ref.l20
 by_cases hf : s.sk.length = 20
 ·refine (wpush_no X zs s w h.at_ h.busy hf).mono ?_
  rintro e w1 ⟨rfl, rfl⟩
  refine ⟨2, rfl, Fr.refl _ _, next_no hE h (Fr.refl _ _) (fun w2 f2 => ?_)⟩
  have hr := (h.ref.nw f2).rin.blk
  obtain ⟨llo, lcap, hlv⟩ := owns_form h.ref.lrow
  rw [hlv, hlen, hf] at hr
  refine (refPush_no Y R.szv R.now.inv R.tv R.now.dead llo lcap w2 hr).mono ?_
  rintro e w3 ⟨rfl, rfl⟩
  exact ⟨rfl, Fr.refl _ _⟩
 ·refine (wpush_yes X zs s w h.at_ h.busy (by omega)).mono ?_
  rintro e w1 ⟨rfl, sv, h3, h4⟩
  have hW1 : Nw W w1 := hE.nw.trans h4.fr (fun i hi => .inr (Nat.le_trans hE.base (h.xlo i hi)))
  refine ⟨0, rfl, h4.fr, fun w2 f2 => ?_⟩
  refine (refPush_yes W lo Y zs R w2 (Nat.le_trans hE.le (Nat.le_trans h4.fr.size f2.size)) (h.mid h4 f2) (by omega)).mono ?_
  rintro e w3 ⟨rfl, lv, inv, vs, k1, k2, k3⟩
  exact ⟨rfl, _, _, h.join hE.base hE.nw hE.le h3 h4 f2 k1 k2 rfl k3 h.busy h.now h.tabs ⟨h.now, h.levs⟩⟩
structure Did (zs : List Int) (s s' : WS) (vars : List Int) (rows : List (List Int)) (nt : Bool) (way r : Int) : Prop where
 num : r = postOf zs s vars rows way
 busy : s'.l.busy = s.l.busy
 no : r ≠ 0 → s' = s
 yes : r = 0 → s'.bs = s.bs ++ [⟨vars, rows, nt⟩] ∧ s'.sk = s.sk ∧ Dm s'.d ∧ Closure zs.length (s.bs ++ [⟨vars, rows, nt⟩]) s.d s'.d
theorem post_prog {X : Nat} {zs : List Int} {s : WS} {w : World} {vo ro : Option Addr} {vcap rcap : Nat} {vars : List Int} {rows : List (List Int)} {nt : Bool} {way : Int} (h : WAt w X zs s) (hbz : s.l.busy = false)
  (hl : vars.length * 8 ≤ 140737488355328) (hrl : rows.length * 24 ≤ 140737488355328) (hvcap : vars.length ≤ vcap) (hvs : IntsAt w vo vars) (hrs : RowsAt w ro rows) :
  Calls Tryz.prog 11 #[.pointer (some ⟨X, 0, none⟩), .agg #[.slice vo vars.length vcap, .slice ro rows.length rcap, .bool nt, .int .i64 way]] w fun e w' => ∃ (r : Int) (s' : WS), e = .returned (.int .i64 r) ∧ WAt w' X zs s' ∧ WStep w w' X s s' ∧ Did zs s s' vars rows nt way r := by
 by_cases h0 : postOf zs s vars rows way = 0
 ·refine (post_yes X vo ro vcap rcap zs s vars rows nt way w h hbz hvcap hvs hrs h0).mono ?_
  rintro e w' ⟨rfl, so, tcap, x, d', bv, ts, us, h1, h2, h3, h4⟩
  exact ⟨0, _, rfl, h3, h4, h0.symm, rfl, fun h => absurd rfl h, fun _ => ⟨rfl, rfl, h2, h1⟩⟩
 ·refine (post_no X vo ro vcap rcap zs s vars rows nt way w h hbz hl hrl hvcap hvs hrs h0).mono ?_
  rintro e w' ⟨rfl, hf⟩
  exact ⟨_, s, rfl, h.nw hf, WStep.nw hf X s, rfl, rfl, fun _ => rfl, fun h => absurd h h0⟩
theorem post_doc {W w : World} {lo Y : Nat} {zs : List Int} {s s' : WS} {R : RS} {vo ro : Option Addr} {vcap rcap : Nat} {vars : List Int} {rows : List (List Int)} {nt : Bool} {way r : Int} (hlo : W.heap.size ≤ lo) (hlw : lo ≤ w.heap.size) (hW : Nw W w) (hR : RAt W w lo Y zs R) (hts : s.ts.length = s.bs.length)
  (hnow : LinkD zs.length R.now s.d) (htabs : s.bs = R.ts.map TbW.tb) (hlevs : LinkL zs.length R.ls s.sk) (hl : vars.length * 8 ≤ 140737488355328) (hrl : rows.length * 24 ≤ 140737488355328) (hvs : IntsAt W vo vars) (hrs : RowsAt W ro rows) (hd : Did zs s s' vars rows nt way r) :
  Calls Tryz.prog 79 #[.pointer (some ⟨Y, 0, none⟩), .agg #[.slice vo vars.length vcap, .slice ro rows.length rcap, .bool nt, .int .i64 way]] w fun e w' => e = .returned (.int .i64 r) ∧ ∃ R', RAt W w' lo Y zs R' ∧ Fr (R.wr Y) w w' ∧ (∀ k, R'.own Y k → R.own Y k ∨ w.heap.size ≤ k) ∧ R'.szv = R.szv ∧ LinkD zs.length R'.now s'.d ∧ s'.bs = R'.ts.map TbW.tb ∧ LinkL zs.length R'.ls s'.sk := by
 have hpos := (okSizes_len hR.rin.zok).1
 have htl : s.ts.length = R.ts.length := by rw [hts, htabs, List.length_map]
 have hll := hlevs.len
 have ht12 := hR.t12
 have hpR : postR zs vars rows way R.ts.length R.ls.length R.now.dead = r := by
  rw [hd.num]
  unfold postR postOf
  rw [htl, hll]
  by_cases h1 : okTable zs vars rows way = false
  ·rw [if_pos h1, if_pos h1]
  ·rw [if_neg h1, if_neg h1]
   by_cases h2 : R.ts.length = 12
   ·rw [if_pos h2, if_pos (by omega)]
   ·rw [if_neg h2, if_neg (by omega)]
    by_cases h3 : s.sk.length ≠ 0
    ·rw [if_pos h3, if_pos (by omega)]
    ·rw [if_neg h3, if_neg (by omega)]
     by_cases h4 : R.now.dead = true
     ·rw [if_pos h4, if_pos ((hnow.iff hpos).2 h4)]
     ·rw [if_neg h4, if_neg (fun h => h4 ((hnow.iff hpos).1 h))]
 obtain ⟨cells, t1, _⟩ := hR.tabs
 obtain ⟨tto, tcap, htv⟩ := owns_form t1
 obtain ⟨llo, lcap, hlv⟩ := owns_form hR.lrow
 by_cases h0 : r = 0
 ·rw [h0] at hpR ⊢
  unfold postR at hpR
  by_cases h1 : okTable zs vars rows way = false
  ·rw [if_pos h1] at hpR
   omega
  ·rw [if_neg h1] at hpR
   by_cases h2 : 12 ≤ R.ts.length
   ·rw [if_pos h2] at hpR
    omega
   ·rw [if_neg h2] at hpR
    by_cases h3 : 0 < R.ls.length
    ·rw [if_pos h3] at hpR
     omega
    ·rw [if_neg h3] at hpR
     by_cases h4 : R.now.dead = true
     ·rw [if_pos h4] at hpR
      omega
     ·have hdd : R.now.dead = false := by simpa using h4
      have hsd : s.d = domB R.now.bss := by
       rcases hnow with ⟨h5, _⟩ | ⟨_, h5, _⟩
       ·exact absurd h5 h4
       ·exact h5
      obtain ⟨y1, y2, y3, y4⟩ := hd.yes h0
      refine (refPost_yes W lo Y zs R vo ro vcap rcap vars rows nt way w hlo hlw hW hR hdd (List.eq_nil_of_length_eq_zero (by omega)) (by omega) (by simpa using h1) hvs hrs).mono ?_
      rintro e w' ⟨rfl, now, tv, d, k1, k2, k3, k4, k5, k6⟩
      have e1 : s'.bs = (R.ts ++ [(⟨⟨vars, rows, nt⟩, way⟩ : TbW)]).map TbW.tb := by rw [y1, htabs, List.map_append]; rfl
      refine ⟨rfl, _, k1, k2, k3, rfl, ?_, e1, by rw [y2]; exact hlevs⟩
      rw [← e1, ← hsd] at k5
      rw [← y1] at y4
      rw [y4.one y3 k4 k5]
      exact k6
 ·rw [hd.no h0]
  have hr := hR.rin
  rw [htv, hlv] at hr
  rw [← hpR]
  refine (refPost_no lo Y zs R.szv R.now.inv R.now.vs R.now.bss R.now.dead tto llo R.ts.length tcap R.ls.length lcap vo ro vcap rcap vars rows nt way w hl hrl hr (hvs.nw hW) (hrs.nw hW) (by rw [hpR]; exact h0)).mono ?_
  rintro e w' ⟨rfl, hf⟩
  exact ⟨rfl, R, hR.nw hf, hf.mono (fun _ x => x.elim), fun k hk => .inl hk, rfl, hnow, htabs, hlevs⟩
theorem Pair.fin {bz : Bool} {W w2 w3 : World} {lo X Y : Nat} {zs : List Int} {s' : WS} {R R' : RS} (h12 : WAt w2 X zs s') (hr2 : RAt W w2 lo Y zs R) (hz' : ∀ k, R.szv.ownBlock = some k → ¬ s'.own X k) (hx' : ∀ k, s'.own X k → lo ≤ k) (hr : RAt W w3 lo Y zs R') (hfr : Fr (R.wr Y) w2 w3) (hz : R'.szv = R.szv)
  (hb : s'.l.busy = bz) (hn : LinkD zs.length R'.now s'.d) (ht : s'.bs = R'.ts.map TbW.tb) (hl : LinkL zs.length R'.ls s'.sk) : Pair bz W w3 lo X Y zs s' R' :=
 ⟨h12.fr hfr (fun q hq hw => h12.apartR hr2 hz' q (.inl hw) hq) hr2.only (by decide), hr, hb, hn, ht, hl, by rw [hz]; exact hz', hx'⟩
theorem left_link {l : RL} {zs : List Int} {d : List Nat} (hv : ∀ q, vals (d.getD q 0) = if q < zs.length then rDom l.bss l.dead q else []) (h8 : zs.length ≤ 8) : leftTo d 8 = leftR l.bss l.dead zs.length ∧ fixTo d 8 = fixR l.bss l.dead zs.length := by
 have hp : ∀ q, pop (d.getD q 0) = if q < zs.length then (rDom l.bss l.dead q).length else 0 := fun q => by
  show (vals (d.getD q 0)).length = _
  rw [hv q]
  split <;> rfl
 have h1 : ∀ k, k ≤ zs.length → leftTo d k = leftR l.bss l.dead k ∧ fixTo d k = fixR l.bss l.dead k := by
  intro k
  induction k with
  | zero => intro _; exact ⟨by simp [leftTo, leftR], by simp [fixTo, fixR]⟩
  | succ k ih =>
   intro hk
   obtain ⟨i1, i2⟩ := ih (by omega)
   rw [leftTo_succ, fixTo_succ, hp k, if_pos (by omega), i1, i2]
   exact ⟨rfl, rfl⟩
 have h2 : ∀ k, zs.length + k ≤ 8 → leftTo d (zs.length + k) = leftTo d zs.length ∧ fixTo d (zs.length + k) = fixTo d zs.length := by
  intro k
  induction k with
  | zero => intro _; exact ⟨rfl, rfl⟩
  | succ k ih =>
   intro hk
   obtain ⟨i1, i2⟩ := ih (by omega)
   rw [← Nat.add_assoc, leftTo_succ, fixTo_succ, hp (zs.length + k), if_neg (by omega), i1, i2]
   exact ⟨rfl, rfl⟩
 obtain ⟨i1, i2⟩ := h1 zs.length (Nat.le_refl _)
 obtain ⟨j1, j2⟩ := h2 (8 - zs.length) (by omega)
 rw [show zs.length + (8 - zs.length) = 8 by omega] at j1 j2
 exact ⟨j1.trans i1, j2.trans i2⟩
theorem look_two {W w : World} {lo X Y : Nat} {zs : List Int} {s : WS} {R : RS} (h : Pair false W w lo X Y zs s R) :
  Calls Tryz.prog 59 #[.pointer (some ⟨X, 0, none⟩)] w fun e w1 => ∃ (a b c l f : Nat) (dd : Bool), e = .returned (.agg #[.int .i64 (a : Int), .int .i64 (b : Int), .int .i64 (c : Int), .bool dd, .int .i64 (l : Int), .int .i64 (f : Int)]) ∧ Nw w w1 ∧
   ∀ w2, Nw w w2 → Calls Tryz.prog 60 #[.pointer (some ⟨Y, 0, none⟩)] w2 fun e w3 => e = .returned (.agg #[.int .i64 (a : Int), .int .i64 (b : Int), .int .i64 (c : Int), .bool dd, .int .i64 (l : Int), .int .i64 (f : Int)]) ∧ Nw w2 w3 := by
 have hz := okSizes_len h.at_.mem.zok
 refine (look_any X zs s w h.at_ h.busy).mono ?_
 rintro e w1 ⟨rfl, hf⟩
 refine ⟨zs.length, s.ts.length, s.sk.length, leftTo s.d 8, fixTo s.d 8, (s.d.getD 0 0 == 0), rfl, hf, fun w2 f2 => ?_⟩
 have hr := (h.ref.nw f2).rin
 obtain ⟨cells, t1, _⟩ := h.ref.tabs
 obtain ⟨tto, tcap, htv⟩ := owns_form t1
 obtain ⟨llo, lcap, hlv⟩ := owns_form h.ref.lrow
 rw [htv, hlv] at hr
 refine (refLook_any lo Y zs R.szv R.now.inv R.now.vs R.now.bss R.now.dead tto llo R.ts.length tcap R.ls.length lcap w2 hr).mono ?_
 rintro e w3 ⟨rfl, hf3⟩
 refine ⟨?_, hf3⟩
 obtain ⟨l1, l2⟩ := left_link (LinkD.vals h.now h.ref.rin.in8 h.ref.rin.b6 h.ref.rin.len) hz.2
 have htl : s.ts.length = R.ts.length := by rw [h.at_.mem.fits.1, h.tabs, List.length_map]
 have hdb : (s.d.getD 0 0 == 0) = R.now.dead := by
  have := h.now.iff hz.1
  cases hb : R.now.dead with
  | true =>
   rw [this.2 hb]
   rfl
  | false =>
   rw [beq_eq_false_iff_ne]
   intro h0
   rw [this.1 h0] at hb
   cases hb
 rw [htl, ← h.levs.len, l1, l2, hdb]
end Go.Proofs.YtkjfpdfkcfgfkaaGreat

namespace Go.Proofs.YtkjfpdfkcfgfkaaGreat
open Go.RowKit

def AllAre (w : World) (v : Value) (c : Int) : Prop := ∃ ao n cap, v = .slice ao n cap ∧ n * 8 ≤ 140737488355328 ∧ IntsAt w ao (List.replicate n c)
def AllNil (w : World) (v : Value) : Prop := ∃ ao n cap, v = .slice ao n cap ∧ n * 24 ≤ 140737488355328 ∧ ∀ i, i < n → ∃ b o, ao = some ⟨b, o, none⟩ ∧ b < w.heap.size ∧ w.cell? ⟨b, o + i, none⟩ = some (.slice none 0 0)

structure Keeps (w : World) (nv tv rv : Value) (nums turned rows : List Value) : Prop where
 rn : Row w nv 22 nums
 rt : Row w tv 22 turned
 rr : Row w rv 26 rows
 ln : nums.length * 24 ≤ 140737488355328
 lt : turned.length * 24 ≤ 140737488355328
 lr : rows.length * 24 ≤ 140737488355328
 an : ∀ i (h : i < nums.length), AllAre w nums[i] (-1 - (i / 4 * 4 : Nat))
 at_ : ∀ i (h : i < turned.length), AllAre w turned[i] (-7)
 ar : ∀ i (h : i < rows.length), AllNil w rows[i]

set_option maxHeartbeats 1600000 in
set_option maxRecDepth 1000000 in
theorem kept_any (B : Nat) (s0 nv tv rv : Value) (nums turned rows : List Value) (w : World)
  (hB : Blk w B #[s0, nv, tv, rv] 29) (hK : Keeps w nv tv rv nums turned rows) :
  Calls Tryz.prog 19 #[.pointer (some ⟨B, 0, none⟩)] w fun e w' => e = .returned (.bool true) ∧ w' = w := by
 have c1 : w.cell? ⟨B, 1, none⟩ = some nv := hB.cell 1
 have c2 : w.cell? ⟨B, 2, none⟩ = some tv := hB.cell 2
 have c3 : w.cell? ⟨B, 3, none⟩ = some rv := hB.cell 3
 have hln := hK.ln
 have hlt := hK.lt
 have hlr := hK.lr
 obtain ⟨an, cn, rfl, hna⟩ := hK.rn.form
 obtain ⟨at0, ct, rfl, hta⟩ := hK.rt.form
 obtain ⟨ar, cr, rfl, hra⟩ := hK.rr.form
 have HK := hd hK
 have HB := hd hB
 clear hK hB hna hta hra
 go_enter Tryz.func19, Tryz.ntmps19
 go_wp2
 go_loop [3] (fun i => ∃ k : Nat, k ≤ nums.length ∧ i = .int .i64 k) (fun i => nums.length - (intOf i).toNat)
 case atStart => exact ⟨0, Nat.zero_le _, rfl⟩
 case round =>
  obtain ⟨k, hk, rfl⟩ := hrel
  by_cases hkl : k < nums.length
  ·obtain ⟨g, cap, he, _, hcell, _⟩ := HK.out.rn.cell k hkl
   obtain ⟨ao, m, cap2, he2, hm, hz⟩ := HK.out.an k hkl
   cases he
   rw [he2] at hcell
   clear he2
   go_wp2
   go_loop [4] (fun i => ∃ j : Nat, j ≤ m ∧ i = .int .i64 j) (fun i => m - (intOf i).toNat)
   case atStart => exact ⟨0, Nat.zero_le _, rfl⟩
   case round =>
    obtain ⟨j, hj, rfl⟩ := hrel
    by_cases hjl : j < m
    ·obtain ⟨b, o, rfl, _, hc⟩ := hz j (by simpa using hjl)
     clear hz
     rw [show (List.replicate m (-1 - ((k / 4 * 4 : Nat) : Int))).getD j 0 = -1 - ((k / 4 * 4 : Nat) : Int) from by simp [hjl]] at hc
     go_wp2
     exact ⟨⟨j + 1, by omega, by go_num⟩, by simp [intOf]; omega⟩
    ·go_wp2
     exact ⟨⟨k + 1, by omega, by go_num⟩, by simp [intOf]; omega⟩
  ·go_wp2
   clear c1 hkl hk
   go_loop [5] (fun i => ∃ k : Nat, k ≤ turned.length ∧ i = .int .i64 k) (fun i => turned.length - (intOf i).toNat)
   case atStart => exact ⟨0, Nat.zero_le _, rfl⟩
   case round =>
    obtain ⟨k, hk, rfl⟩ := hrel
    by_cases hkl : k < turned.length
    ·obtain ⟨g, cap, he, _, hcell, _⟩ := HK.out.rt.cell k hkl
     obtain ⟨ao, m, cap2, he2, hm, hz⟩ := HK.out.at_ k hkl
     cases he
     rw [he2] at hcell
     clear he2
     go_wp2
     go_loop [6] (fun i => ∃ j : Nat, j ≤ m ∧ i = .int .i64 j) (fun i => m - (intOf i).toNat)
     case atStart => exact ⟨0, Nat.zero_le _, rfl⟩
     case round =>
      obtain ⟨j, hj, rfl⟩ := hrel
      by_cases hjl : j < m
      ·obtain ⟨b, o, rfl, _, hc⟩ := hz j (by simpa using hjl)
       clear hz
       rw [show (List.replicate m (-7 : Int)).getD j 0 = -7 from by simp [hjl]] at hc
       go_wp2
       exact ⟨⟨j + 1, by omega, by go_num⟩, by simp [intOf]; omega⟩
      ·go_wp2
       exact ⟨⟨k + 1, by omega, by go_num⟩, by simp [intOf]; omega⟩
    ·go_wp2
     clear c2 hkl hk
     go_loop [7] (fun i => ∃ k : Nat, k ≤ rows.length ∧ i = .int .i64 k) (fun i => rows.length - (intOf i).toNat)
     case atStart => exact ⟨0, Nat.zero_le _, rfl⟩
     case round =>
      obtain ⟨k, hk, rfl⟩ := hrel
      by_cases hkl : k < rows.length
      ·obtain ⟨g, cap, he, _, hcell, _⟩ := HK.out.rr.cell k hkl
       obtain ⟨ao, m, cap2, he2, hm, hz⟩ := HK.out.ar k hkl
       cases he
       rw [he2] at hcell
       clear he2
       go_wp2
       go_loop [8] (fun i => ∃ j : Nat, j ≤ m ∧ i = .int .i64 j) (fun i => m - (intOf i).toNat)
       case atStart => exact ⟨0, Nat.zero_le _, rfl⟩
       case round =>
        obtain ⟨j, hj, rfl⟩ := hrel
        by_cases hjl : j < m
        ·obtain ⟨b, o, rfl, _, hc⟩ := hz j hjl
         clear hz
         go_wp2
         exact ⟨⟨j + 1, by omega, by go_num⟩, by simp [intOf]; omega⟩
        ·go_wp2
         exact ⟨⟨k + 1, by omega, by go_num⟩, by simp [intOf]; omega⟩
      ·go_wp2
       go_ret
       exact ⟨rfl, rfl⟩
end Go.Proofs.YtkjfpdfkcfgfkaaGreat

namespace Go.Proofs.YtkjfpdfkcfgfkaaGreat
open Go.RowKit

theorem Tryz.infoSide : (Tryz.prog.info? 49).map (fun i => (i.zero, i.size, i.bytes)) = some (some (.pointer none), 1, 8) := by kernel_rfl

theorem new_ok (b o : Nat) (cap : Nat) (zs : List Int) (w : World) (h1 : 1 ≤ zs.length) (h8 : zs.length ≤ 8) (h : IntsAt w (some ⟨b, o, none⟩) zs) (hok : okSizes zs = true) :
  Calls Tryz.prog 10 #[.slice (some ⟨b, o, none⟩) zs.length cap] w fun e w' =>
   Nw w w' ∧ ∃ B szv, e = .returned (.tuple #[.pointer (some ⟨B, 0, none⟩), .int .i64 0]) ∧ Blk w' B (workCells szv (fullTo zs zs.length) (.slice none 0 0) rest0) 66 ∧
     Row w' szv 3 (zs.map (Value.int .i64)) ∧ w.heap.size ≤ B ∧ (∀ k, szv.ownBlock = some k → w.heap.size ≤ k) :=
 (new_any b o cap zs w h1 h8 h).mono fun e w' ⟨hf, hr⟩ => ⟨hf, hr.elim (fun x => x.2) (fun x => by rw [hok] at x; cases x.1)⟩
theorem new_no (b o : Nat) (cap : Nat) (zs : List Int) (w : World) (h1 : 1 ≤ zs.length) (h8 : zs.length ≤ 8) (h : IntsAt w (some ⟨b, o, none⟩) zs) (hok : okSizes zs = false) :
  Calls Tryz.prog 10 #[.slice (some ⟨b, o, none⟩) zs.length cap] w fun e w' => Nw w w' ∧ e = .returned (.tuple #[.pointer none, .int .i64 1]) :=
 (new_any b o cap zs w h1 h8 h).mono fun e w' ⟨hf, hr⟩ => ⟨hf, hr.elim (fun x => by rw [hok] at x; cases x.1) (fun x => x.2)⟩
theorem refNew_ok (b o : Nat) (cap : Nat) (zs : List Int) (w : World) (h1 : 1 ≤ zs.length) (h8 : zs.length ≤ 8) (h : IntsAt w (some ⟨b, o, none⟩) zs) (hok : okSizes zs = true) :
  Calls Tryz.prog 15 #[.slice (some ⟨b, o, none⟩) zs.length cap] w fun e w' =>
   Nw w w' ∧ ∃ B, e = .returned (.pointer (some ⟨B, 0, none⟩)) ∧ w.heap.size ≤ B ∧ RefAt w' w.heap.size B zs (allIn zs zs.length) false nilS nilS :=
 (refNew_any b o cap zs w h1 h8 h).mono fun e w' ⟨hf, hr⟩ => ⟨hf, hr.elim (fun x => x.2) (fun x => by rw [hok] at x; cases x.1)⟩
theorem refNew_no (b o : Nat) (cap : Nat) (zs : List Int) (w : World) (h1 : 1 ≤ zs.length) (h8 : zs.length ≤ 8) (h : IntsAt w (some ⟨b, o, none⟩) zs) (hok : okSizes zs = false) :
  Calls Tryz.prog 15 #[.slice (some ⟨b, o, none⟩) zs.length cap] w fun e w' => Nw w w' ∧ e = .returned (.pointer none) :=
 (refNew_any b o cap zs w h1 h8 h).mono fun e w' ⟨hf, hr⟩ => ⟨hf, hr.elim (fun x => by rw [hok] at x; cases x.1) (fun x => x.2)⟩

theorem RefAt.fr {S : Nat → Prop} {w w' : World} {lo B : Nat} {zs : List Int} {bss : List (List Bool)} {dead : Bool} {tv lv : Value} (h : RefAt w lo B zs bss dead tv lv) (f : Fr S w w')
  (hn : ∀ k, S k → k ≠ B ∧ ¬ lo ≤ k) : RefAt w' lo B zs bss dead tv lv := by
 obtain ⟨szv, inv, vs, hB, hsz, hin, hvs, h1, h2⟩ := h.ex
 refine ⟨szv, inv, vs, hB.fr f (fun e => (hn _ e).1 rfl), hsz.fr f (fun k hk e => (hn k e).2 (h1 k hk)), hin.fr f (fun k hk e => (hn k e).2 (h2 k hk)), ?_, h1, h2⟩
 exact ⟨hvs.len, fun i hi => (hvs.row i hi).fr f (fun k hk e => (hn k e).2 (hvs.lo i hi k hk)), hvs.ne, hvs.lo⟩

theorem RefAt.lower {w : World} {lo lo' B : Nat} {zs : List Int} {bss : List (List Bool)} {dead : Bool} {tv lv : Value} (h : RefAt w lo B zs bss dead tv lv) (hl : lo' ≤ lo) : RefAt w lo' B zs bss dead tv lv := by
 obtain ⟨szv, inv, vs, hB, hsz, hin, hvs, h1, h2⟩ := h.ex
 exact ⟨szv, inv, vs, hB, hsz, hin, ⟨hvs.len, hvs.row, hvs.ne, fun i hi k hk => Nat.le_trans hl (hvs.lo i hi k hk)⟩, fun k hk => Nat.le_trans hl (h1 k hk), fun k hk => Nat.le_trans hl (h2 k hk)⟩

set_option maxHeartbeats 1600000 in
set_option maxRecDepth 1000000 in
theorem opens_len (B : Nat) (sv nv tv rv : Value) (ts : List Value) (ao : Option Addr) (cap : Nat) (zs : List Int) (w : World) (hz : zs.length * 8 ≤ 140737488351232)
  (hB : Blk w B #[sv, nv, tv, rv] 29) (htv : Row w tv 22 ts) (hts : (ts.length + 1) * 24 ≤ 140737488355328) (hl : IntsAt w ao zs) (hlen : zs.length < 1 ∨ 8 < zs.length) :
  Calls Tryz.prog 8 #[.pointer (some ⟨B, 0, none⟩), .slice ao zs.length cap] w fun e w' =>
   e = .returned (.bool true) ∧ ∃ tv', Fr (fun k => k = B ∨ tv.ownBlock = some k) w w' ∧ Blk w' B #[sv, nv, tv', rv] 29 ∧
    Row w' tv' 22 (ts ++ [.slice (some ⟨w.heap.size, 0, none⟩) (zs.length + 1) (zs.length + 1)]) ∧ Blk w' w.heap.size (turnedTo zs (zs.length + 1)) 3 ∧
    (∀ k, tv'.ownBlock = some k → tv.ownBlock = some k ∨ w.heap.size ≤ k) := by
 have hBlt := hB.lt
 go_enter Tryz.func8, Tryz.ntmps8
 go_wp2_with (first
  | (go_at_call 14; refine (lent_any _ _ zs _ (by omega) hl).mono ?_; rintro e w1 ⟨rfl, hf1, hg1⟩)
  | (go_at_call 10; refine (new_len _ _ _ _ (by omega) hlen).mono ?_; rintro e w2 ⟨rfl, rfl⟩)
  | (go_at_call 15; refine (refNew_len _ _ _ _ (by omega) hlen).mono ?_; rintro e w2 ⟨rfl, rfl⟩)
  | (go_at_call 16; refine (returned_any B w.heap.size ao cap zs sv nv tv rv ts _ (by omega) (hB.nw hf1) (htv.nw hf1) hts hg1 (hl.nw hf1)).mono ?_; rintro e w2 ⟨rfl, tv', hf2, hB2, htv2, hg2, hlo2⟩))
 go_ret
 refine ⟨rfl, tv', hf1.mono (fun i h => h.elim) |>.trans hf2 ?_, hB2, htv2, hg2, ?_⟩
 ·rintro i (h | h | h)
  ·exact .inl (.inl h)
  ·exact .inr (by omega)
  ·exact .inl (.inr h)
 ·intro k hk
  rcases hlo2 k hk with h | h
  ·exact .inl h
  ·exact .inr (Nat.le_trans hf1.size h)

def sideCells (X Y : Nat) : Array Value := #[.pointer (some ⟨X, 0, none⟩), .pointer (some ⟨Y, 0, none⟩), .bool false, .nilFunc, .nilFunc]

theorem opens_apart {w : World} {B g : Nat} {sv tv : Value} {ss ts : List Value} {c1 c2 : Array Value} (hsv : Row w sv 49 ss) (hB : Blk w B c1 29) (hg : Blk w g c2 3) (htv : Row w tv 22 ts)
  (k : Nat) (hk : sv.ownBlock = some k) (e : k = B ∨ k = g ∨ tv.ownBlock = some k) : False := by
 rcases e with e | e | e
 ·subst e; exact hsv.ne hB (by decide) hk
 ·subst e; exact hsv.ne hg (by decide) hk
 ·obtain ⟨cur, hb, _⟩ := htv.blk e
  exact hsv.ne hb (by decide) hk

set_option maxHeartbeats 1600000 in
set_option maxRecDepth 1000000 in
theorem opens_any (B : Nat) (sv nv tv rv : Value) (ss ts : List Value) (ao : Option Addr) (cap : Nat) (zs : List Int) (w : World) (hlen : 1 ≤ zs.length) (hlen8 : zs.length ≤ 8)
  (hB : Blk w B #[sv, nv, tv, rv] 29) (htv : Row w tv 22 ts) (hts : (ts.length + 1) * 24 ≤ 140737488355328) (hsv : Row w sv 49 ss) (hss : (ss.length + 1) * 8 ≤ 140737488355328) (hl : IntsAt w ao zs) :
  Calls Tryz.prog 8 #[.pointer (some ⟨B, 0, none⟩), .slice ao zs.length cap] w fun e w' =>
   e = .returned (.bool true) ∧ ∃ sv' tv', Fr (fun k => k = B ∨ tv.ownBlock = some k ∨ sv.ownBlock = some k) w w' ∧ Blk w' B #[sv', nv, tv', rv] 29 ∧
    Row w' tv' 22 (ts ++ [.slice (some ⟨w.heap.size, 0, none⟩) (zs.length + 1) (zs.length + 1)]) ∧ Blk w' w.heap.size (turnedTo zs (zs.length + 1)) 3 ∧
    (∀ k, tv'.ownBlock = some k → tv.ownBlock = some k ∨ w.heap.size ≤ k) ∧
    ((okSizes zs = false ∧ sv' = sv ∧ Row w' sv 49 ss) ∨ (okSizes zs = true ∧ ∃ D X Y szv, Row w' sv' 49 (ss ++ [.pointer (some ⟨D, 0, none⟩)]) ∧ (∀ k, sv'.ownBlock = some k → sv.ownBlock = some k ∨ w.heap.size ≤ k) ∧
     Blk w' D (sideCells X Y) 52 ∧ Blk w' X (workCells szv (fullTo zs zs.length) nilS rest0) 66 ∧ Row w' szv 3 (zs.map (Value.int .i64)) ∧ RefAt w' w.heap.size Y zs (allIn zs zs.length) false nilS nilS ∧
     w.heap.size ≤ D ∧ w.heap.size ≤ X ∧ w.heap.size ≤ Y ∧ (∀ k, szv.ownBlock = some k → w.heap.size ≤ k))) := by
 have hBlt := hB.lt
 obtain ⟨b, o, rfl, hbl, _⟩ := hl 0 (by omega)
 obtain ⟨i0, hi, hz0, hz1, hz2⟩ := info_parts Tryz.infoSide
 cases hok : okSizes zs with
 | false =>
  have Hok := hd hok
  clear hok
  go_enter Tryz.func8, Tryz.ntmps8
  go_wp2_with (first
   | (go_at_call 14; refine (lent_any _ _ zs _ (by omega) hl).mono ?_; rintro e w1 ⟨rfl, hf1, hg1⟩; have hown : IntsAt w1 (some ⟨w.heap.size, 0, none⟩) zs := IntsAt.of_blk hg1 0 zs (fun i hi => by simp [List.getElem?_append_left, hi]))
   | (go_at_call 10; refine (new_no _ _ _ zs _ hlen hlen8 hown Hok.out).mono ?_; rintro e w2 ⟨hf2, rfl⟩; have hl2 := (hl.nw hf1).nw hf2)
   | (go_at_call 15; refine (refNew_no _ _ _ zs _ hlen hlen8 hl2 Hok.out).mono ?_; rintro e w3 ⟨hf3, rfl⟩)
   | (go_at_call 16; refine (returned_any B w.heap.size (some ⟨b, o, none⟩) cap zs sv nv tv rv ts _ (by omega) (((hB.nw hf1).nw hf2).nw hf3) (((htv.nw hf1).nw hf2).nw hf3) hts ((hg1.nw hf2).nw hf3) (hl2.nw hf3)).mono ?_; rintro e w4 ⟨rfl, tv', hf4, hB4, htv4, hg4, hlo4⟩))
  go_ret
  have hf13 : Nw w w3 := (hf1.trans hf2 (fun i h => h.elim)).trans hf3 (fun i h => h.elim)
  refine ⟨rfl, sv, tv', (hf13.mono (fun i h => h.elim)).trans hf4 ?_, hB4, htv4, hg4, ?_, .inl ⟨by trivial, rfl, (((hsv.nw hf1).nw hf2).nw hf3).fr hf4 (fun k hk e => opens_apart (((hsv.nw hf1).nw hf2).nw hf3) (((hB.nw hf1).nw hf2).nw hf3) ((hg1.nw hf2).nw hf3) (((htv.nw hf1).nw hf2).nw hf3) k hk e)⟩⟩
  ·rintro i (h | h | h)
   ·exact .inl (.inl h)
   ·exact .inr (by omega)
   ·exact .inl (.inr (.inl h))
  ·intro k hk
   rcases hlo4 k hk with h | h
   ·exact .inl h
   ·exact .inr (Nat.le_trans hf13.size h)
 | true =>
  have Hok := hd hok
  clear hok
  go_enter Tryz.func8, Tryz.ntmps8
  go_wp2_with (first
   | (go_at_call 14; refine (lent_any _ _ zs _ (by omega) hl).mono ?_; rintro e w1 ⟨rfl, hf1, hg1⟩; have hown : IntsAt w1 (some ⟨w.heap.size, 0, none⟩) zs := IntsAt.of_blk hg1 0 zs (fun i hi => by simp [List.getElem?_append_left, hi]))
   | (go_at_call 10; refine (new_ok _ _ _ zs _ hlen hlen8 hown Hok.out).mono ?_; rintro e w2 ⟨hf2, X, szv, rfl, hX2, hsz2, hXlo, hszlo⟩; have hl2 := (hl.nw hf1).nw hf2)
   | (go_at_call 15; refine (refNew_ok _ _ _ zs _ hlen hlen8 hl2 Hok.out).mono ?_; rintro e w3 ⟨hf3, Y, rfl, hYlo, hY3⟩)
   | (go_at_call 16; refine (returned_any B w.heap.size (some ⟨b, o, none⟩) cap zs sv nv tv rv ts _ (by omega) (((hB.nw hf1).nw hf2).nw hf3) (((htv.nw hf1).nw hf2).nw hf3) hts ((hg1.nw hf2).nw hf3) (hl2.nw hf3)).mono ?_; rintro e w4 ⟨rfl, tv', hf4, hB4, htv4, hg4, hlo4⟩; have hcB4 : w4.cell? ⟨B, 0, none⟩ = some sv := hB4.cell 0; have hsv4 : Row w4 sv 49 ss := (((hsv.nw hf1).nw hf2).nw hf3).fr hf4 (fun k hk e => opens_apart (((hsv.nw hf1).nw hf2).nw hf3) (((hB.nw hf1).nw hf2).nw hf3) ((hg1.nw hf2).nw hf3) (((htv.nw hf1).nw hf2).nw hf3) k hk e))
   | (at_builtin; refine wpList_append_own_at _ rfl _ _ 25 rfl 0 49 i0 (.pointer none) 1 8 Tryz.underlying25 hi hz0 hz1 hz2 rfl (by decide) _ _ _ rfl ((hsv4.alloc _).alloc _) ⟨w4.heap.size + 1, 0, none⟩ 1 1 [.pointer (some ⟨w4.heap.size, 0, none⟩)] rfl rfl (by have := cell_one_new (w4.alloc (.cells (sideCells X Y) 52)) (.pointer (some ⟨w4.heap.size, 0, none⟩)) 49; simpa [sideCells] using this) (by simp [Value.oneCell']) (by unfold maxLen; omega) (by omega) (Nat.zero_le _) ?_; intro v' w5 hown' hgrow _ hat; obtain ⟨g', cap', rfl, hr5, hf5, ha5, hlt5⟩ := app1 (w := w4.alloc (.cells (sideCells X Y) 52)) hown' hgrow hat; have hB5 : Blk w5 B #[sv, nv, tv', rv] 29 := (hB4.alloc _).fr hf5 (fun e => hsv4.ne hB4 (by decide) e); have hfz5 := hB5.free 0; have hc5 : w5.cell? ⟨B, 0, none⟩ = some sv := hB5.cell 0; clear hown' hgrow hat))
  have hf13 : Nw w w3 := (hf1.trans hf2 (fun i h => h.elim)).trans hf3 (fun i h => h.elim)
  have hsz1 := hf1.size
  have hsz2' := hf2.size
  have hsz3 := hf3.size
  have hsz4 := hf4.size
  have hD5 : Blk w5 w4.heap.size (sideCells X Y) 52 := (Blk.new w4 _ _).fr hf5 (fun e => by
   have := hsv4.lt e
   omega)
  have hg'B : g' ≠ B := fun e => by
   subst e
   exact hr5.ne hB5 (by decide) rfl
  have hs4 : ∀ k, (k = B ∨ k = w.heap.size ∨ tv.ownBlock = some k) → k < w1.heap.size := by
   rintro k (h | h | h)
   ·omega
   ·have := hg1.lt; omega
   ·have := htv.lt h; omega
  have hX4 : Blk w4 X (workCells szv (fullTo zs zs.length) nilS rest0) 66 := (hX2.nw hf3).fr hf4 (fun e => by have := hs4 _ e; omega)
  have hr4 : Row w4 szv 3 (zs.map (Value.int .i64)) := (hsz2.nw hf3).fr hf4 (fun k hk e => by have := hs4 _ e; have := hszlo k hk; omega)
  have hY4 : RefAt w4 w2.heap.size Y zs (allIn zs zs.length) false nilS nilS := hY3.fr hf4 (fun k e => by have := hs4 _ e; omega)
  have hs5 : ∀ k, (k = B ∨ sv.ownBlock = some k) → k < w.heap.size := by
   rintro k (h | h)
   ·omega
   ·exact hsv.lt h
  have F5 : Fr (fun k => k = B ∨ sv.ownBlock = some k) w4 (w5.setCell ⟨B, 0, none⟩ (.slice (some ⟨g', 0, none⟩) (ss.length + 1) cap')) :=
   ((((Fr.refl (fun k => k = B ∨ sv.ownBlock = some k) w4).alloc _).trans hf5 (fun k h => .inl (.inr h))).setCell _ _ (.inl (.inl rfl)))
  have F5' : Fr (fun k => k = B) w5 (w5.setCell ⟨B, 0, none⟩ (.slice (some ⟨g', 0, none⟩) (ss.length + 1) cap')) := (Fr.refl _ w5).setCell _ _ (.inl rfl)
  have hnB : ∀ cur e, Blk w4 B cur e → e = 29 := fun cur e h => (h.inj hB4).2
  have hapart : ∀ (k : Nat) (v : Value) (xs : List Value), Row w4 v 22 xs → v.ownBlock = some k → ¬ (k = B ∨ sv.ownBlock = some k) := by
   rintro k v xs hv hk (e | e)
   ·subst e; exact hv.ne hB4 (by decide) hk
   ·obtain ⟨cur, hb, _⟩ := hv.blk hk
    exact hsv4.ne hb (by decide) e
  have hlow : ∀ k, (k = B ∨ sv.ownBlock = some k) → ¬ w.heap.size ≤ k := fun k h => by have := hs5 k h; omega
  go_ret
  refine ⟨rfl, .slice (some ⟨g', 0, none⟩) (ss.length + 1) cap', tv', ?_, ?_, ?_, ?_, ?_, .inr ⟨by trivial, w4.heap.size, X, Y, szv, ?_⟩⟩
  ·refine ((hf13.mono (fun i h => h.elim)).trans hf4 ?_).trans F5 ?_
   ·rintro i (h | h | h)
    ·exact .inl (.inl h)
    ·exact .inr (by omega)
    ·exact .inl (.inr (.inl h))
   ·rintro i (h | h)
    ·exact .inl (.inl h)
    ·exact .inl (.inr (.inr h))
  ·have := hB5.set 0 (.slice (some ⟨g', 0, none⟩) (ss.length + 1) cap')
   simpa using this
  ·exact htv4.fr F5 (fun k hk => hapart k _ _ htv4 hk)
  ·exact hg4.fr F5 (fun e => hlow _ e (Nat.le_refl _))
  ·intro k hk
   rcases hlo4 k hk with h | h
   ·exact .inl h
   ·exact .inr (by omega)
  ·refine ⟨hr5.fr F5' (fun k hk e => hg'B (by cases hk; exact e)), ?_, hD5.fr F5' (fun e => by omega), hX4.fr F5 (fun e => hlow _ e (by omega)), hr4.fr F5 (fun k hk e => hlow _ e (by have := hszlo k hk; omega)), ?_, by omega, by omega, by omega, fun k hk => by have := hszlo k hk; omega⟩
   ·intro k hk
    cases hk
    rcases ha5 with h | h
    ·exact .inl h
    ·exact .inr (by simp at h; show w.heap.size ≤ g'; omega)
   ·have hY5 := hY4.fr F5 (fun k e => by have := hs5 k e; omega)
    exact hY5.lower (by omega)
end Go.Proofs.YtkjfpdfkcfgfkaaGreat

namespace Go.Proofs.YtkjfpdfkcfgfkaaGreat
open Go.RowKit

theorem turned_all {w : World} {g : Nat} {zs : List Int} (h : Blk w g (turnedTo zs (zs.length + 1)) 3) (hz : (zs.length + 1) * 8 ≤ 140737488355328) : AllAre w (.slice (some ⟨g, 0, none⟩) (zs.length + 1) (zs.length + 1)) (-7) := by
 refine ⟨some ⟨g, 0, none⟩, zs.length + 1, zs.length + 1, rfl, hz, IntsAt.of_blk h 0 _ (fun i hi => ?_)⟩
 rw [turnedTo_end, Nat.zero_add]
 simp only [List.length_replicate] at hi
 simp [hi]

theorem opens_all (B : Nat) (sv nv tv rv : Value) (ss ts : List Value) (ao : Option Addr) (cap : Nat) (zs : List Int) (w : World) (hz : zs.length * 8 ≤ 140737488351232)
  (hB : Blk w B #[sv, nv, tv, rv] 29) (htv : Row w tv 22 ts) (hts : (ts.length + 1) * 24 ≤ 140737488355328) (hsv : Row w sv 49 ss) (hss : (ss.length + 1) * 8 ≤ 140737488355328) (hl : IntsAt w ao zs) :
  Calls Tryz.prog 8 #[.pointer (some ⟨B, 0, none⟩), .slice ao zs.length cap] w fun e w' =>
   e = .returned (.bool true) ∧ ∃ sv' tv' ss', Fr (fun k => k = B ∨ tv.ownBlock = some k ∨ sv.ownBlock = some k) w w' ∧ Blk w' B #[sv', nv, tv', rv] 29 ∧ Row w' sv' 49 ss' ∧ ss'.length ≤ ss.length + 1 ∧
    Row w' tv' 22 (ts ++ [.slice (some ⟨w.heap.size, 0, none⟩) (zs.length + 1) (zs.length + 1)]) ∧ Blk w' w.heap.size (turnedTo zs (zs.length + 1)) 3 ∧
    (∀ k, tv'.ownBlock = some k → tv.ownBlock = some k ∨ w.heap.size ≤ k) ∧ (∀ k, sv'.ownBlock = some k → sv.ownBlock = some k ∨ w.heap.size ≤ k) := by
 by_cases hlen : zs.length < 1 ∨ 8 < zs.length
 ·refine (opens_len B sv nv tv rv ts ao cap zs w hz hB htv hts hl hlen).mono ?_
  rintro e w' ⟨he, tv', hf, hB', htv', hg', hlo⟩
  refine ⟨he, sv, tv', ss, hf.mono (fun i h => .inl (h.elim .inl (fun h => .inr (.inl h)))), hB', ?_, by omega, htv', hg', hlo, fun k hk => .inl hk⟩
  exact hsv.fr hf (fun k hk e => by
   rcases e with e | e
   ·subst e; exact hsv.ne hB (by decide) hk
   ·obtain ⟨cur, hb, _⟩ := htv.blk e
    exact hsv.ne hb (by decide) hk)
 ·refine (opens_any B sv nv tv rv ss ts ao cap zs w (by omega) (by omega) hB htv hts hsv hss hl).mono ?_
  rintro e w' ⟨he, sv', tv', hf, hB', htv', hg', hlo, hcase⟩
  rcases hcase with ⟨_, rfl, hsv'⟩ | ⟨_, D, X, Y, szv, hsv', hslo, _⟩
  ·exact ⟨he, sv', tv', ss, hf, hB', hsv', by omega, htv', hg', hlo, fun k hk => .inl hk⟩
  ·exact ⟨he, sv', tv', _, hf, hB', hsv', by simp, htv', hg', hlo, hslo⟩

def FirstOk : Prop := ∀ w : World, Calls Tryz.prog 7 #[] w fun e w' => e = .returned (.bool true) ∧ Nw w w'
end Go.Proofs.YtkjfpdfkcfgfkaaGreat

namespace Go.Proofs.YtkjfpdfkcfgfkaaGreat
open Go.RowKit

theorem append_old {P : Program} (w : World) (base : Nat) (t ty e : TypeId) (i : TypeInfo) (z : Value) (size bytes : Nat) (ht : P.underlying t = some (.slice e)) (hi : P.info? e = some i) (hz : i.zero = some z)
  (hsize : i.size = size) (hby : i.bytes = bytes) (hsz : 0 < size) (v : Value) (n : Nat) (xs : List Value) (hown : w.ownsRow base e size v n xs)
  (a : Addr) (m c : Nat) (news : List Value) (hl : news.length = m * size) (hnews : ∀ j u, news[j]? = some u → w.cell? (a.add j) = some u) (h1 : ∀ u ∈ news, u.oneCell' = true)
  (h63 : n + m ≤ maxLen) (hbytes : (n + m) * bytes ≤ 140737488355328) (v' : Value) (w' : World) (hrun : (Builtin.append_ #[t, t] ty #[v, .slice (some a) m c]).run P w = .ok v' w') : w'.ownsRow base e size v n xs := by
 subst hsize
 subst hby
 have hsmall : n + m ≤ 9223372036854775807 := by simp only [maxLen] at h63; omega
 rcases hown.2 with ⟨rfl, rfl⟩ | ⟨g, cap, cur, rfl, hbg, hg, hnc, hcm, hcs, htake⟩
 ·exact ⟨hown.1, .inl ⟨rfl, rfl⟩⟩
 ·by_cases hroom : n + m ≤ cap
  ·have hfit : n * i.size + news.length ≤ cur.size := by rw [hl, hcs, ← Nat.add_mul]; exact Nat.mul_le_mul_right _ hroom
   have hr := run_append_room (P := P) w t ty e i ht hi g n cap cur hg a m c news hl hnews h1 hroom hfit
   rw [hr] at hrun
   cases hrun
   refine ⟨hown.1, .inr ⟨g, cap, _, rfl, hbg, setRow_heap w g cur _ e _ hg, hnc, hcm, ?_, ?_⟩⟩
   ·simp only [List.size_toArray, List.length_append, List.length_take, List.length_drop, Array.length_toList]
    omega
   ·have hxl := hown.1
    rw [htake]
    simp only [List.append_assoc]
    rw [List.take_append_of_le_length (by omega), List.take_of_length_le (by omega)]
  ·have holds : ∀ j u, xs[j]? = some u → w.cell? ((⟨g, 0, none⟩ : Addr).add j) = some u := hown.cells (g := g) rfl
   have hr := run_append_grow (P := P) w t ty e i z ht hi hz ⟨g, 0, none⟩ n cap xs hown.1 holds a m c news hl hnews (by omega) (by omega) (growslice_fits (by omega) hbytes)
   rw [hr] at hrun
   cases hrun
   refine ⟨hown.1, .inr ⟨g, cap, cur, rfl, hbg, ?_, hnc, hcm, hcs, htake⟩⟩
   exact (heap_alloc_old w.drew _ (lt_of_block hg)).trans hg
theorem wpList_append_keep {P : Program} (w : World) {ops : Array Oper} {rest : List Oper} {o : Oper} {a : Act} {Q : Exit → Act → World → Prop} (hgd : o.guard = none) (s x : Operand) (t : TypeId)
  (ho : o.op = .call { callee := .builtin .append, args := #[s, x], argTypes := #[t, t] })
  (base : Nat) (e : TypeId) (i : TypeInfo) (z : Value) (size bytes : Nat) (ht : P.underlying t = some (.slice e)) (hi : P.info? e = some i) (hz : i.zero = some z)
  (hsize : i.size = size) (hby : i.bytes = bytes) (hzs : z.cells.size = size) (hsz : 0 < size)
  (v : Value) (n : Nat) (xs : List Value) (hs : a.eval s = v) (hown : w.ownsRow base e size v n xs)
  (ad : Addr) (m c : Nat) (news : List Value) (hx : a.eval x = .slice (some ad) m c) (hl : news.length = m * size) (hnews : ∀ j u, news[j]? = some u → w.cell? (ad.add j) = some u) (h1 : ∀ u ∈ news, u.oneCell' = true)
  (h63 : n + m ≤ maxLen) (hbytes : (n + m) * bytes ≤ 140737488355328) (hbase : base ≤ w.heap.size)
  (h : ∀ v' w', w'.ownsRow base e size v' (n + m) (xs ++ news) → w'.ownsRow base e size v n xs → w.grownBy w' v.ownBlock → (v'.ownBlock = v.ownBlock ∨ v'.ownBlock = some w.heap.size) → wpList P ops Q rest (a.put o.dst v') w') :
  wpList P ops Q (o :: rest) a w := by
 refine wpList_plain hgd fun K hK => ?_
 obtain ⟨v', w', hr, h2, h3, _, h5⟩ := run_append_own_at (P := P) w base t o.type e i z size bytes ht hi hz hsize hby hzs hsz v n xs hown ad m c news hl hnews h1 h63 hbytes hbase
 have h6 := append_old (P := P) w base t o.type e i z size bytes ht hi hz hsize hby hsz v n xs hown ad m c news hl hnews h1 h63 hbytes v' w' hr
 unfold Oper.wp execOp
 simp only [ho, resolve, invoke, builtin, Sem.run_bind, Sem.run_pure, Result.andThen_ok, List.map_toArray, List.map_cons, List.map_nil, hs, hx, hr]
 exact hK _ _ (h v' w' h2 h6 h3 h5)

theorem cell_one_set (w : World) (p : Addr) (y x : Value) (t : TypeId) : ∀ j u, [x][j]? = some u → ((w.setCell p y).alloc (.cells #[x] t)).cell? ((⟨w.heap.size, 0, none⟩ : Addr).add j) = some u := fun j u hj => by
 have := cell_one_new (w.setCell p y) x t j u hj
 rw [show (w.setCell p y).heap.size = w.heap.size by simp] at this
 exact this
theorem AllAre.fr {S : Nat → Prop} {w w' : World} {v : Value} {c : Int} (h : AllAre w v c) (f : Fr S w w') (hn : ∀ k, v.ownBlock = some k → ¬ S k) : AllAre w' v c := by
 obtain ⟨ao, n, cap, rfl, h1, h2⟩ := h
 exact ⟨ao, n, cap, rfl, h1, h2.fr f (fun b o e => hn b (by rw [e]; rfl))⟩
theorem AllNil.fr {S : Nat → Prop} {w w' : World} {v : Value} (h : AllNil w v) (f : Fr S w w') (hn : ∀ k, v.ownBlock = some k → ¬ S k) : AllNil w' v := by
 obtain ⟨ao, n, cap, rfl, h1, h2⟩ := h
 refine ⟨ao, n, cap, rfl, h1, fun i hi => ?_⟩
 obtain ⟨b, o, e, hb, hc⟩ := h2 i hi
 exact ⟨b, o, e, Nat.lt_of_lt_of_le hb f.size, (f.cell hb (hn b (by rw [e]; rfl))).trans hc⟩
structure LW where
 sv : Value
 nv : Value
 tv : Value
 rv : Value
 ss : List Value
 nums : List Value
 turned : List Value
 rows : List Value
def LW.own (B : Nat) (L : LW) (k : Nat) : Prop := k = B ∨ L.sv.ownBlock = some k ∨ L.nv.ownBlock = some k ∨ L.tv.ownBlock = some k ∨ L.rv.ownBlock = some k ∨ (∃ v ∈ L.nums, v.ownBlock = some k) ∨ (∃ v ∈ L.turned, v.ownBlock = some k) ∨ ∃ v ∈ L.rows, v.ownBlock = some k
structure LawAt (w : World) (lo B : Nat) (L : LW) : Prop where
 blk : Blk w B #[L.sv, L.nv, L.tv, L.rv] 29
 sides : Row w L.sv 49 L.ss
 keeps : Keeps w L.nv L.tv L.rv L.nums L.turned L.rows
 lo : ∀ k, L.own B k → lo ≤ k
 lt : ∀ k, L.own B k → k < w.heap.size
 ints : ∀ v, v ∈ L.nums ∨ v ∈ L.turned → ∀ k, v.ownBlock = some k → ∃ cur, Blk w k cur 3
 nils : ∀ v, v ∈ L.rows → ∀ k, v.ownBlock = some k → ∃ cur, Blk w k cur 22
 nt : ∀ k, L.nv.ownBlock = some k → L.tv.ownBlock ≠ some k
 nr : ∀ k, L.nv.ownBlock = some k → ∀ v, v ∈ L.rows → v.ownBlock ≠ some k
 tr : ∀ k, L.tv.ownBlock = some k → ∀ v, v ∈ L.rows → v.ownBlock ≠ some k
theorem Keeps.fr {S : Nat → Prop} {w w' : World} {nv tv rv : Value} {nums turned rows : List Value} (h : Keeps w nv tv rv nums turned rows) (f : Fr S w w') (h1 : ∀ k, nv.ownBlock = some k → ¬ S k) (h2 : ∀ k, tv.ownBlock = some k → ¬ S k) (h3 : ∀ k, rv.ownBlock = some k → ¬ S k)
  (h4 : ∀ v ∈ nums, ∀ k, v.ownBlock = some k → ¬ S k) (h5 : ∀ v ∈ turned, ∀ k, v.ownBlock = some k → ¬ S k) (h6 : ∀ v ∈ rows, ∀ k, v.ownBlock = some k → ¬ S k) : Keeps w' nv tv rv nums turned rows :=
 ⟨h.rn.fr f h1, h.rt.fr f h2, h.rr.fr f h3, h.ln, h.lt, h.lr, fun i hi => (h.an i hi).fr f (h4 _ (List.getElem_mem hi)), fun i hi => (h.at_ i hi).fr f (h5 _ (List.getElem_mem hi)), fun i hi => (h.ar i hi).fr f (h6 _ (List.getElem_mem hi))⟩
theorem LawAt.fr {S : Nat → Prop} {w w' : World} {lo B : Nat} {L : LW} (h : LawAt w lo B L) (f : Fr S w w') (hn : ∀ k, L.own B k → ¬ S k) : LawAt w' lo B L :=
 ⟨h.blk.fr f (hn B (.inl rfl)), h.sides.fr f (fun k hk => hn k (.inr (.inl hk))), h.keeps.fr f (fun k hk => hn k (.inr (.inr (.inl hk)))) (fun k hk => hn k (.inr (.inr (.inr (.inl hk))))) (fun k hk => hn k (.inr (.inr (.inr (.inr (.inl hk))))))
  (fun v hv k hk => hn k (.inr (.inr (.inr (.inr (.inr (.inl ⟨v, hv, hk⟩))))))) (fun v hv k hk => hn k (.inr (.inr (.inr (.inr (.inr (.inr (.inl ⟨v, hv, hk⟩)))))))) (fun v hv k hk => hn k (.inr (.inr (.inr (.inr (.inr (.inr (.inr ⟨v, hv, hk⟩)))))))), h.lo, fun k hk => Nat.lt_of_lt_of_le (h.lt k hk) f.size,
  fun v hv k hk => (by
   obtain ⟨cur, hb⟩ := h.ints v hv k hk
   exact ⟨cur, hb.fr f (hn k (hv.elim (fun hv => .inr (.inr (.inr (.inr (.inr (.inl ⟨v, hv, hk⟩)))))) (fun hv => .inr (.inr (.inr (.inr (.inr (.inr (.inl ⟨v, hv, hk⟩)))))))))⟩),
  fun v hv k hk => (by
   obtain ⟨cur, hb⟩ := h.nils v hv k hk
   exact ⟨cur, hb.fr f (hn k (.inr (.inr (.inr (.inr (.inr (.inr (.inr ⟨v, hv, hk⟩))))))))⟩), h.nt, h.nr, h.tr⟩
theorem LawAt.nw {w w' : World} {lo B : Nat} {L : LW} (h : LawAt w lo B L) (f : Nw w w') : LawAt w' lo B L := h.fr f (fun _ _ x => x)
structure KLe (w : World) (v : Value) (c : Int) (n g0 lo0 : Nat) : Prop where
 ex : ∃ g n' cap cur, v = .slice (some ⟨g, 0, none⟩) n' cap ∧ n' ≤ n ∧ Blk w g cur 3 ∧ (g = g0 ∨ lo0 ≤ g) ∧ ∀ i, i < n' → cur[i]? = some (.int .i64 c)
theorem KLe.fr {S : Nat → Prop} {w w' : World} {v : Value} {c : Int} {n g0 lo0 : Nat} (h : KLe w v c n g0 lo0) (f : Fr S w w') (hn : ∀ k cur, Blk w k cur 3 → ¬ S k) : KLe w' v c n g0 lo0 := by
 obtain ⟨g, n', cap, cur, rfl, h1, h2, h3, h4⟩ := h.ex
 exact ⟨g, n', cap, cur, rfl, h1, h2.fr f (hn g cur h2), h3, h4⟩
theorem KLe.all {w : World} {v : Value} {c : Int} {n g0 lo0 : Nat} (h : KLe w v c n g0 lo0) (hn : n * 8 ≤ 140737488355328) : AllAre w v c := by
 obtain ⟨g, n', cap, cur, rfl, h1, h2, h3, h4⟩ := h.ex
 refine ⟨_, n', cap, rfl, by omega, IntsAt.of_blk h2 0 _ (fun i hi => ?_)⟩
 rw [List.length_replicate] at hi
 rw [Nat.zero_add, h4 i hi]
 simp [hi]
theorem KLe.app {w w' : World} {v : Value} {c : Int} {n g0 lo0 g cap : Nat} (h : KLe w v c n g0 lo0) (f : Fr (fun k => k = g) w w') (hr : Row w' (.slice (some ⟨g, 0, none⟩) n cap) 3 (List.replicate n (.int .i64 c))) : KLe w' v c (n + 1) g0 lo0 := by
 obtain ⟨g', n', cap', cur, rfl, h1, h2, h3, h4⟩ := h.ex
 by_cases e : g' = g
 ·subst e
  obtain ⟨cur', hb, ht⟩ := hr.blk (k := g') rfl
  refine ⟨g', n', cap', cur', rfl, by omega, hb, h3, fun i hi => ?_⟩
  rw [List.length_replicate] at ht
  have h5 : (cur'.toList.take n)[i]? = (List.replicate n (Value.int .i64 c))[i]? := by rw [ht]
  rw [List.getElem?_take_of_lt (by omega)] at h5
  rw [← Array.getElem?_toList, h5, List.getElem?_replicate, if_pos (by omega)]
 ·exact ⟨g', n', cap', cur, rfl, by omega, h2.fr f e, h3, h4⟩

set_option maxHeartbeats 1600000 in
set_option maxRecDepth 1000000 in
theorem keep_any (lo B : Nat) (L : LW) (g m cap : Nat) (xs : List Value) (w : World) (h : LawAt w lo B L) (hxm : xs.length = m) (hl : Row w (.slice (some ⟨g, 0, none⟩) m cap) 3 xs) (hm : m ≤ 1000) (hn : L.nums.length ≤ 68719476736) (h4 : L.nums.length % 4 = 0) (hg : ¬ L.own B g) (hglo : lo ≤ g) (hlw : lo ≤ w.heap.size) :
  Calls Tryz.prog 52 #[.pointer (some ⟨B, 0, none⟩), .slice (some ⟨g, 0, none⟩) m cap] w fun e w' => e = .returned (.tuple #[]) ∧ ∃ nv news, news.length = 4 ∧ LawAt w' lo B { L with nv := nv, nums := L.nums ++ news } ∧ Fr (fun k => k = B ∨ L.nv.ownBlock = some k ∨ k = g) w w' ∧ (∀ k, LW.own B { L with nv := nv, nums := L.nums ++ news } k → L.own B k ∨ k = g ∨ w.heap.size ≤ k) := by
 obtain ⟨i0, hi0, hz0, hz1, hz2⟩ := info_parts Tryz.infoInt
 obtain ⟨i1, hi1, hz1a, hz1b, hz1c⟩ := info_parts Tryz.infoInts
 obtain ⟨sv, nv, tv, rv, ss, nums, turned, rows⟩ := L
 dsimp only at hn h4 ⊢
 have hB0 : Blk w B #[sv, nv, tv, rv] 29 := h.blk
 obtain ⟨no, nc, hnf, _⟩ := h.keeps.rn.form
 dsimp only at hnf
 have c1 : w.cell? ⟨B, 1, none⟩ = some (.slice no nums.length nc) := by
  have := hB0.cell 1
  rw [hnf] at this
  exact this
 have hBl := hB0.lt
 obtain ⟨c, hc⟩ : ∃ c : Int, c = -1 - (nums.length : Int) := ⟨_, rfl⟩
 have hw64 : (-1 : Int) - (nums.length : Int) = c := hc.symm
 have Hc := hd hc
 have H := hd h
 have Hl := hd hl
 have Hnf := hd hnf
 have hc64 : -9223372036854775808 ≤ c ∧ c < 9223372036854775808 := by omega
 clear h hl hnf hc
 go_enter Tryz.func52, Tryz.ntmps52
 go_wp2_with fail
 go_loopw [5] (fun i wr => ∃ (k : Nat) (ys : List Value), k ≤ m ∧ i = .int .i64 (k : Int) ∧ ys.length = m ∧ Hid (Row wr (.slice (some ⟨g, 0, none⟩) m cap) 3 ys) ∧ Hid (∀ j, j < k → ys[j]? = some (.int .i64 c)) ∧ Hid (Fr (fun k => k = g) w wr)) (fun i _ => m - (intOf i).toNat)
 case atStart => exact ⟨0, xs, by omega, rfl, hxm, Hl, hd (fun j hj => absurd hj (Nat.not_lt_zero _)), Fr.refl _ _⟩
 case round =>
  obtain ⟨k, ys, hk, rfl, hyl, HY, HA, HF⟩ := hrel
  obtain ⟨curg, hbg, _⟩ := HY.out.blk (k := g) rfl
  by_cases hlt : k < m
  ·have hdk : (k : Int) < (m : Int) := by omega
   obtain ⟨gx, cx, hex, _, hcx, _⟩ := HY.out.cell k (by rw [hyl]; exact hlt)
   simp only [Value.slice.injEq, Option.some.injEq, Addr.mk.injEq, and_true] at hex
   obtain ⟨rfl, hexr⟩ := hex
   clear hexr
   have hgl := hbg.lt
   have hgf := hbg.free k
   have Hyl := hd hyl
   obtain ⟨old, hold⟩ : ∃ old, wr.cell? ⟨g, k, none⟩ = some old := ⟨_, hcx⟩
   clear hcx hyl
   go_wp2_with fail
   refine ⟨⟨k + 1, ys.set k (.int .i64 c), by omega, by simp, by rw [List.length_set]; exact Hyl.out, HY.out.put k _, hd (fun j hj => ?_), HF.out.setCell _ _ (.inl rfl)⟩, by simp [intOf]; omega⟩
   by_cases e : k = j
   ·subst e
    have := Hyl.out
    rw [List.getElem?_set_self (by omega)]
   ·rw [List.getElem?_set_ne e]
    exact HA.out j (by omega)
  ·obtain rfl : m = k := by omega
   have hdk : ¬ ((m : Int) < (m : Int)) := by omega
   have hys : ys = List.replicate m (.int .i64 c) := by
    refine List.ext_getElem? fun j => ?_
    by_cases hj : j < m
    ·rw [HA.out j hj]
     simp [hj]
    ·rw [List.getElem?_eq_none (by omega), List.getElem?_eq_none (by simp; omega)]
   subst hys
   have hgB : g ≠ B := fun e => by
    rw [e] at hbg
    exact absurd (hbg.inj (H.out.blk.fr HF.out (fun e2 => hg (.inl e2.symm)))).2 (by decide)
   have hBm : Blk wr B #[sv, nv, tv, rv] 29 := H.out.blk.fr HF.out (fun e => hgB e.symm)
   have hNm : Row wr nv 22 nums := H.out.keeps.rn.fr HF.out (fun k hk e => hg (.inr (.inr (.inl (by rw [← e]; exact hk)))))
   have HBm := hd hBm
   have HNm := hd hNm
   clear hyl HA hbg hBm hNm
   go_wp2_with fail
   go_loopw [1, 6, 7] (fun l i _ wq => ∃ (k g' cap' : Nat) (nv' : Value) (news : List Value), k ≤ 4 ∧ i = .int .i64 (k : Int) ∧ l = .slice (some ⟨g', 0, none⟩) (m + k) cap' ∧ news.length = k ∧ Hid (Row wq (.slice (some ⟨g', 0, none⟩) (m + k) cap') 3 (List.replicate (m + k) (.int .i64 c))) ∧ Hid (Blk wq B #[sv, nv', tv, rv] 29) ∧ Hid (Row wq nv' 22 (nums ++ news)) ∧ Hid (∀ v ∈ news, KLe wq v c (m + k) g w.heap.size) ∧ Hid (Fr (fun k => k = B ∨ nv.ownBlock = some k ∨ k = g) w wq) ∧ Hid (g' = g ∨ w.heap.size ≤ g') ∧ Hid (∀ k, nv'.ownBlock = some k → nv.ownBlock = some k ∨ w.heap.size ≤ k)) (fun _ i _ _ => 4 - (intOf i).toNat)
   case atStart => exact ⟨0, g, cap, nv, [], by omega, rfl, rfl, rfl, HY, HBm, by rw [List.append_nil]; exact HNm, hd (fun v hv => by cases hv), hd (HF.out.mono (fun i h => .inl (.inr (.inr h)))), hd (.inl rfl), hd (fun k hk => .inl hk)⟩
   case round =>
    rename World => wq
    clear HY HBm HNm
    obtain ⟨k, g', cap', nv', news, hk, rfl, rfl, hnl, HR, HB, HN, HK, HFq, Hg', Hnv⟩ := hrel
    obtain ⟨no', nc', hnf', _⟩ := HN.out.form
    have hnnl : (nums ++ news).length = nums.length + k := by rw [List.length_append, hnl]
    rw [hnnl] at hnf'
    subst hnf'
    have e1 : wq.cell? ⟨B, 1, none⟩ = some (.slice no' (nums.length + k) nc') := HB.out.cell 1
    have hBlq := HB.out.lt
    have Hnl := hd hnl
    have Hnnl := hd hnnl
    clear hnl hnnl
    by_cases hlt : k < 4
    ·have hdk : (k : Int) < 4 := by omega
     have hsl := Hnnl.out
     have HBn : Hid (∀ q cur, Blk wq q cur 3 → ¬ (Value.slice no' (nums.length + k) nc').ownBlock = some q) := fun q cur hb hq => HN.out.ne hb (by decide) hq
     have hnB : ¬ (Value.slice no' (nums.length + k) nc').ownBlock = some B := HN.out.ne HB.out (by decide)
     have hg'B : g' ≠ B := fun e => by
      obtain ⟨cur, hb, _⟩ := HR.out.blk (k := g') rfl
      rw [e] at hb
      exact absurd (hb.inj HB.out).2 (by decide)
     clear hsl
     go_wp2_with (at_builtin; first
      | (refine wpList_append_own_at _ rfl _ _ 26 rfl 0 22 i1 (.slice none 0 0) 1 24 Tryz.underlying26 hi1 hz1a hz1b hz1c rfl (by decide) _ _ _ rfl (HN.out.alloc _) ⟨wq.heap.size, 0, none⟩ 1 1 [.slice (some ⟨g', 0, none⟩) (m + k) cap'] rfl rfl (cell_one_new _ _ _) (by simp [Value.oneCell']) (by have := Hnnl.out; unfold maxLen; omega) (by have := Hnnl.out; omega) (Nat.zero_le _) ?_; intro v' w1 hown' hgrow _ hat; obtain ⟨g1, cap1, rfl, hr1, hf1, ha1, hlt1⟩ := app1 hown' hgrow hat; have hB1 := HB.out.fr hf1 hnB; have hfz1 := hB1.free 1; have hc11 : w1.cell? ⟨B, 1, none⟩ = some (.slice no' (nums.length + k) nc') := hB1.cell 1; have HB1 := hd hB1; have Hr1 := hd hr1; have Hf1 := hd hf1; have Ha1 := hd ha1; have HR2 := hd (fun x => (HR.out.fr hf1 (fun q hq => by obtain ⟨cur, hb, _⟩ := HR.out.blk hq; exact HBn.out q cur hb)).fr ((Fr.refl (fun k => k = B) w1).setCell ⟨B, 1, none⟩ x (.inl rfl)) (fun q hq e => by cases hq; exact hg'B e)); clear hown' hgrow hat hr1 hf1 ha1 hB1 hlt1)
      | (refine wpList_append_keep _ rfl _ _ 22 rfl 0 3 i0 (.int .i64 0) 1 8 Tryz.underlying22 hi0 hz0 hz1 hz2 rfl (by decide) (.slice (some ⟨g', 0, none⟩) (m + k) cap') _ _ rfl ((HR2.out _).alloc _) ⟨w1.heap.size, 0, none⟩ 1 1 [.int .i64 c] rfl rfl (cell_one_set _ _ _ _ _) (by simp [Value.oneCell']) (by simp; unfold maxLen; omega) (by simp; omega) (Nat.zero_le _) ?_; intro v' w3 hown' hold' hgrow hat; obtain ⟨g3, cap3, rfl, hr3, hf3, ha3, hlt3⟩ := app1 hown' hgrow hat))
     obtain ⟨nx, hnx⟩ : ∃ nx, nx = nums.length + news.length + 1 := ⟨_, rfl⟩
     have Hnx := hd hnx
     have hlen : (nums ++ news).length = nums.length + news.length := List.length_append
     obtain ⟨W2, hW2⟩ : ∃ W2, w1.setCell ⟨B, 1, none⟩ (.slice (some ⟨g1, 0, none⟩) (nums.length + news.length + 1) cap1) = W2 := ⟨_, rfl⟩
     have hfs : Fr (fun k => k = B) w1 W2 := by rw [← hW2]; exact (Fr.refl (fun k => k = B) w1).setCell _ _ (.inl rfl)
     have hf3' : Fr (fun q => q = g') W2 w3 := by
      rw [← hW2]
      exact hf3.mono (fun i hi => .inl (by cases hi; rfl))
     have hB2 : Blk W2 B #[sv, .slice (some ⟨g1, 0, none⟩) (nums.length + news.length + 1) cap1, tv, rv] 29 := by
      rw [← hW2]
      have := HB1.out.set 1 (.slice (some ⟨g1, 0, none⟩) (nums.length + news.length + 1) cap1)
      simpa using this
     have hr1' : Row w1 (.slice (some ⟨g1, 0, none⟩) (nums.length + news.length + 1) cap1) 22 (nums ++ (news ++ [.slice (some ⟨g', 0, none⟩) (m + k) cap'])) := by
      have := Hr1.out
      rw [hlen, List.append_assoc] at this
      exact this
     have hg1B : g1 ≠ B := fun e => by
      obtain ⟨cur, hb, _⟩ := hr1'.blk (k := g1) rfl
      rw [e] at hb
      exact absurd (hb.inj HB1.out).2 (by decide)
     have hr2' := hr1'.fr hfs (fun q hq e => by cases hq; exact hg1B e)
     obtain ⟨curG, hbG, _⟩ := (HR2.out (.slice (some ⟨g1, 0, none⟩) (nums.length + news.length + 1) cap1)).blk (k := g') rfl
     rw [hW2] at hbG
     have hg1g' : g1 ≠ g' := fun e => by
      obtain ⟨cur, hb, _⟩ := hr2'.blk (k := g1) rfl
      rw [e] at hb
      exact absurd (hb.inj hbG).2 (by decide)
     have hr3' := hr2'.fr hf3' (fun q hq e => by cases hq; exact hg1g' e)
     have hK2 : ∀ v ∈ news, KLe W2 v c (m + k) g w.heap.size := fun v hv => by
      refine ((HK.out v hv).fr Hf1.out (fun q cur hb hq => HBn.out q cur hb hq)).fr hfs (fun q cur hb e => ?_)
      rw [e] at hb
      exact absurd (hb.inj HB1.out).2 (by decide)
     have hsz := HFq.out.size
     have hold3 : Row w3 (.slice (some ⟨g', 0, none⟩) (m + k) cap') 3 (List.replicate (m + k) (.int .i64 c)) := hold'
     refine ⟨⟨k + 1, g3, cap3, .slice (some ⟨g1, 0, none⟩) (nums.length + news.length + 1) cap1, news ++ [.slice (some ⟨g', 0, none⟩) (m + k) cap'], by omega, by simp, by rw [Nat.add_assoc], by rw [List.length_append, Hnl.out]; rfl, ?_, hd (hB2.fr hf3' (fun e => hg'B e.symm)), hd hr3', hd (fun v hv => ?_), ?_, ?_, ?_⟩, by simp [intOf]; omega⟩
     ·have := hr3
      rw [List.length_replicate] at this
      rw [← Nat.add_assoc, List.replicate_succ']
      exact this
     ·rcases List.mem_append.1 hv with hv | hv
      ·exact (hK2 v hv).app hf3' hold3
      ·rw [List.mem_singleton.1 hv]
       obtain ⟨cur, hb, ht⟩ := hold3.blk (k := g') rfl
       refine ⟨g', m + k, cap', cur, rfl, by omega, hb, Hg'.out, fun i hi => ?_⟩
       rw [List.length_replicate] at ht
       have h5 : (cur.toList.take (m + k))[i]? = (List.replicate (m + k) (Value.int .i64 c))[i]? := by rw [ht]
       rw [List.getElem?_take_of_lt (by omega)] at h5
       rw [← Array.getElem?_toList, h5, List.getElem?_replicate, if_pos (by omega)]
     ·refine ((HFq.out.trans Hf1.out (fun i hi => ?_)).trans hfs (fun i hi => .inl (.inl hi))).trans hf3' (fun i hi => ?_)
      ·rcases Hnv.out i hi with h | h
       ·exact .inl (.inr (.inl h))
       ·exact .inr h
      ·rcases Hg'.out with h | h
       ·exact .inl (.inr (.inr (by rw [hi, h])))
       ·exact .inr (by rw [hi]; exact h)
     ·rcases ha3 with h | h
      ·cases h
       exact Hg'
      ·right
       have h1 := Hf1.out.size
       have h2 := hfs.size
       rw [hW2] at h
       omega
     ·intro q hq
      cases hq
      rcases Ha1.out with h | h
      ·exact Hnv.out _ h
      ·exact .inr (by show w.heap.size ≤ g1; omega)
    ·obtain rfl : k = 4 := by omega
     go_wp2_with fail
     go_end0
     have hlen : (nums ++ news).length = nums.length + 4 := Hnnl.out
     have hsz := HFq.out.size
     have hown : ∀ q, LW.own B ⟨sv, .slice no' (nums.length + 4) nc', tv, rv, ss, nums ++ news, turned, rows⟩ q → LW.own B ⟨sv, nv, tv, rv, ss, nums, turned, rows⟩ q ∨ q = g ∨ w.heap.size ≤ q := fun q hq => by
      rcases hq with rfl | hq | hq | hq | hq | ⟨v, hv, hq⟩ | hq | hq
      ·exact .inl (.inl rfl)
      ·exact .inl (.inr (.inl hq))
      ·rcases Hnv.out q hq with h | h
       ·exact .inl (.inr (.inr (.inl h)))
       ·exact .inr (.inr h)
      ·exact .inl (.inr (.inr (.inr (.inl hq))))
      ·exact .inl (.inr (.inr (.inr (.inr (.inl hq)))))
      ·rcases List.mem_append.1 hv with hv | hv
       ·exact .inl (.inr (.inr (.inr (.inr (.inr (.inl ⟨v, hv, hq⟩))))))
       ·obtain ⟨g5, n5, c5, cur5, rfl, _, _, h5, _⟩ := (HK.out v hv).ex
        cases hq
        exact .inr h5
      ·exact .inl (.inr (.inr (.inr (.inr (.inr (.inr (.inl hq)))))))
      ·exact .inl (.inr (.inr (.inr (.inr (.inr (.inr (.inr hq)))))))
     have hgl : g < wq.heap.size := Nat.lt_of_lt_of_le (Nat.lt_of_lt_of_le (Hl.out.lt (k := g) rfl) (Nat.le_refl _)) hsz
     have hno : ∀ q cur e, LW.own B ⟨sv, nv, tv, rv, ss, nums, turned, rows⟩ q → Blk w q cur e → e ≠ 29 → nv.ownBlock ≠ some q → ¬ (q = B ∨ nv.ownBlock = some q ∨ q = g) := fun q cur e hq hb he h2 h3 => by
      rcases h3 with h3 | h3 | h3
      ·rw [h3] at hb
       exact he (hb.inj H.out.blk).2
      ·exact h2 h3
      ·exact hg (by rw [← h3]; exact hq)
     have hnvT : ∀ q cur e, Blk w q cur e → e ≠ 22 → nv.ownBlock ≠ some q := fun q cur e hb he hq => by
      obtain ⟨cur', hb', _⟩ := H.out.keeps.rn.blk hq
      exact he (hb.inj hb').2
     have k1 : ∀ q, sv.ownBlock = some q → ¬ (q = B ∨ nv.ownBlock = some q ∨ q = g) := fun q hq => by
      obtain ⟨cur, hb, _⟩ := H.out.sides.blk hq
      exact hno q cur _ (.inr (.inl hq)) hb (by decide) (hnvT q cur _ hb (by decide))
     have k2 : ∀ q, tv.ownBlock = some q → ¬ (q = B ∨ nv.ownBlock = some q ∨ q = g) := fun q hq => by
      obtain ⟨cur, hb, _⟩ := H.out.keeps.rt.blk hq
      exact hno q cur _ (.inr (.inr (.inr (.inl hq)))) hb (by decide) (fun h => H.out.nt q h hq)
     have k3 : ∀ q, rv.ownBlock = some q → ¬ (q = B ∨ nv.ownBlock = some q ∨ q = g) := fun q hq => by
      obtain ⟨cur, hb, _⟩ := H.out.keeps.rr.blk hq
      exact hno q cur _ (.inr (.inr (.inr (.inr (.inl hq))))) hb (by decide) (hnvT q cur _ hb (by decide))
     have k4 : ∀ v ∈ nums, ∀ q, v.ownBlock = some q → ¬ (q = B ∨ nv.ownBlock = some q ∨ q = g) := fun v hv q hq => by
      obtain ⟨cur, hb⟩ := H.out.ints v (.inl hv) q hq
      exact hno q cur _ (.inr (.inr (.inr (.inr (.inr (.inl ⟨v, hv, hq⟩)))))) hb (by decide) (hnvT q cur _ hb (by decide))
     have k5 : ∀ v ∈ turned, ∀ q, v.ownBlock = some q → ¬ (q = B ∨ nv.ownBlock = some q ∨ q = g) := fun v hv q hq => by
      obtain ⟨cur, hb⟩ := H.out.ints v (.inr hv) q hq
      exact hno q cur _ (.inr (.inr (.inr (.inr (.inr (.inr (.inl ⟨v, hv, hq⟩))))))) hb (by decide) (hnvT q cur _ hb (by decide))
     have k6 : ∀ v ∈ rows, ∀ q, v.ownBlock = some q → ¬ (q = B ∨ nv.ownBlock = some q ∨ q = g) := fun v hv q hq => by
      obtain ⟨cur, hb⟩ := H.out.nils v hv q hq
      exact hno q cur _ (.inr (.inr (.inr (.inr (.inr (.inr (.inr ⟨v, hv, hq⟩))))))) hb (by decide) (fun h => H.out.nr q h v hv hq)
     have hk := H.out.keeps
     have hnewT : ∀ v ∈ news, ∀ q, v.ownBlock = some q → ∃ cur, Blk wq q cur 3 := fun v hv q hq => by
      obtain ⟨g5, n5, c5, cur5, rfl, _, hb5, _⟩ := (HK.out v hv).ex
      cases hq
      exact ⟨cur5, hb5⟩
     refine ⟨rfl, .slice no' (nums.length + 4) nc', news, Hnl.out, ⟨HB.out, H.out.sides.fr HFq.out k1, ⟨HN.out, hk.rt.fr HFq.out k2, hk.rr.fr HFq.out k3, by rw [hlen]; omega, hk.lt, hk.lr, fun i hi => ?_, fun i hi => (hk.at_ i hi).fr HFq.out (k5 _ (List.getElem_mem hi)), fun i hi => (hk.ar i hi).fr HFq.out (k6 _ (List.getElem_mem hi))⟩, ?_, ?_, ?_, ?_, ?_, ?_, H.out.tr⟩, HFq.out, hown⟩
     ·by_cases hin : i < nums.length
      ·show AllAre wq ((nums ++ news)[i]) _
       rw [List.getElem_append_left hin]
       exact (hk.an i hin).fr HFq.out (k4 _ (List.getElem_mem hin))
      ·show AllAre wq ((nums ++ news)[i]) _
       have hi' : i < nums.length + 4 := by rw [← hlen]; exact hi
       rw [List.getElem_append_right (by omega)]
       have e1 : i / 4 * 4 = nums.length := by omega
       rw [e1, ← Hc.out]
       exact (HK.out _ (List.getElem_mem _)).all (by omega)
     ·intro q hq
      rcases hown q hq with h | h | h
      ·exact H.out.lo q h
      ·omega
      ·omega
     ·intro q hq
      rcases hq with rfl | hq | hq | hq | hq | ⟨v, hv, hq⟩ | hq | hq
      ·exact HB.out.lt
      ·exact Nat.lt_of_lt_of_le (H.out.lt q (.inr (.inl hq))) hsz
      ·exact HN.out.lt hq
      ·exact Nat.lt_of_lt_of_le (H.out.lt q (.inr (.inr (.inr (.inl hq))))) hsz
      ·exact Nat.lt_of_lt_of_le (H.out.lt q (.inr (.inr (.inr (.inr (.inl hq)))))) hsz
      ·rcases List.mem_append.1 hv with hv | hv
       ·exact Nat.lt_of_lt_of_le (H.out.lt q (.inr (.inr (.inr (.inr (.inr (.inl ⟨v, hv, hq⟩))))))) hsz
       ·obtain ⟨cur, hb⟩ := hnewT v hv q hq
        exact hb.lt
      ·exact Nat.lt_of_lt_of_le (H.out.lt q (.inr (.inr (.inr (.inr (.inr (.inr (.inl hq)))))))) hsz
      ·exact Nat.lt_of_lt_of_le (H.out.lt q (.inr (.inr (.inr (.inr (.inr (.inr (.inr hq)))))))) hsz
     ·intro v hv q hq
      rcases hv with hv | hv
      ·rcases List.mem_append.1 hv with hv | hv
       ·obtain ⟨cur, hb⟩ := H.out.ints v (.inl hv) q hq
        exact ⟨cur, hb.fr HFq.out (k4 v hv q hq)⟩
       ·exact hnewT v hv q hq
      ·obtain ⟨cur, hb⟩ := H.out.ints v (.inr hv) q hq
       exact ⟨cur, hb.fr HFq.out (k5 v hv q hq)⟩
     ·intro v hv q hq
      obtain ⟨cur, hb⟩ := H.out.nils v hv q hq
      exact ⟨cur, hb.fr HFq.out (k6 v hv q hq)⟩
     ·intro q hq ht
      rcases Hnv.out q hq with h | h
      ·exact H.out.nt q h ht
      ·have := H.out.lt q (.inr (.inr (.inr (.inl ht))))
       omega
     ·intro q hq v hv ht
      rcases Hnv.out q hq with h | h
      ·exact H.out.nr q h v hv ht
      ·have := H.out.lt q (.inr (.inr (.inr (.inr (.inr (.inr (.inr ⟨v, hv, ht⟩)))))))
       omega
end Go.Proofs.YtkjfpdfkcfgfkaaGreat
